/-
  What stays as it was while the walks of layer 2's statements go on: the cells of three doubles, and small equations.
-/
import Derived.Test.YticeeckahdjjmaaDblAwake
namespace Go.Proofs.Yticeeckahdjjmaa
open Go.RowKit
theorem keep3 {W w' : World} {B : Nat} {a0 a1 b0 b1 c0 c1 : Value} (hg : Grown W w')
    (k : B + 1 + 1 < W.heap.size ∧ (W.cell? ⟨B, 0, none⟩ = some a0 ∧ W.cell? ⟨B, 1, none⟩ = some a1) ∧ (W.cell? ⟨B + 1, 0, none⟩ = some b0 ∧ W.cell? ⟨B + 1, 1, none⟩ = some b1) ∧ W.cell? ⟨B + 1 + 1, 0, none⟩ = some c0 ∧ W.cell? ⟨B + 1 + 1, 1, none⟩ = some c1) :
    B + 1 + 1 < w'.heap.size ∧ (w'.cell? ⟨B, 0, none⟩ = some a0 ∧ w'.cell? ⟨B, 1, none⟩ = some a1) ∧ (w'.cell? ⟨B + 1, 0, none⟩ = some b0 ∧ w'.cell? ⟨B + 1, 1, none⟩ = some b1) ∧ w'.cell? ⟨B + 1 + 1, 0, none⟩ = some c0 ∧ w'.cell? ⟨B + 1 + 1, 1, none⟩ = some c1 := by
  obtain ⟨a, ⟨c, d⟩, ⟨e, f⟩, g, i⟩ := k
  exact ⟨Nat.lt_of_lt_of_le a hg.2.2, ⟨grown_cell hg (by omega) c, grown_cell hg (by omega) d⟩, ⟨grown_cell hg (by omega) e, grown_cell hg (by omega) f⟩, grown_cell hg a g, grown_cell hg a i⟩
theorem and48 (n : Int) : ∃ p : Int, bits .and .i64 n 281474976710655 = p ∧ 0 ≤ p ∧ p < 281474976710656 := by
  have h := bits_and_low 48 (by decide) n
  have e : (2 : Int) ^ 48 = 281474976710656 := by decide
  rw [e] at h
  exact ⟨n % 281474976710656, h, by omega, by omega⟩
theorem dLo0 : dLo 0 = 0 := by decide +kernel
theorem dHi0 : dHi 0 = 0 := by decide +kernel
theorem i64_id {n : Int} (h : InC n) : IntKind.i64.wrap n = n := by rw [wrapi64]; exact wrap64_id h

theorem box3 (w : World) (x y z : Int) (t : TypeId) : w.heap.size + 1 + 1 < (((w.alloc (.cells #[.int .i64 (dLo x), .int .i64 (dHi x)] t)).alloc (.cells #[.int .i64 (dLo y), .int .i64 (dHi y)] t)).alloc (.cells #[.int .i64 (dLo z), .int .i64 (dHi z)] t)).heap.size ∧
    ((((w.alloc (.cells #[.int .i64 (dLo x), .int .i64 (dHi x)] t)).alloc (.cells #[.int .i64 (dLo y), .int .i64 (dHi y)] t)).alloc (.cells #[.int .i64 (dLo z), .int .i64 (dHi z)] t)).cell? ⟨w.heap.size, 0, none⟩ = some (.int .i64 (dLo x)) ∧
    (((w.alloc (.cells #[.int .i64 (dLo x), .int .i64 (dHi x)] t)).alloc (.cells #[.int .i64 (dLo y), .int .i64 (dHi y)] t)).alloc (.cells #[.int .i64 (dLo z), .int .i64 (dHi z)] t)).cell? ⟨w.heap.size, 1, none⟩ = some (.int .i64 (dHi x))) ∧
    ((((w.alloc (.cells #[.int .i64 (dLo x), .int .i64 (dHi x)] t)).alloc (.cells #[.int .i64 (dLo y), .int .i64 (dHi y)] t)).alloc (.cells #[.int .i64 (dLo z), .int .i64 (dHi z)] t)).cell? ⟨w.heap.size + 1, 0, none⟩ = some (.int .i64 (dLo y)) ∧
    (((w.alloc (.cells #[.int .i64 (dLo x), .int .i64 (dHi x)] t)).alloc (.cells #[.int .i64 (dLo y), .int .i64 (dHi y)] t)).alloc (.cells #[.int .i64 (dLo z), .int .i64 (dHi z)] t)).cell? ⟨w.heap.size + 1, 1, none⟩ = some (.int .i64 (dHi y))) ∧
    (((w.alloc (.cells #[.int .i64 (dLo x), .int .i64 (dHi x)] t)).alloc (.cells #[.int .i64 (dLo y), .int .i64 (dHi y)] t)).alloc (.cells #[.int .i64 (dLo z), .int .i64 (dHi z)] t)).cell? ⟨w.heap.size + 1 + 1, 0, none⟩ = some (.int .i64 (dLo z)) ∧
    (((w.alloc (.cells #[.int .i64 (dLo x), .int .i64 (dHi x)] t)).alloc (.cells #[.int .i64 (dLo y), .int .i64 (dHi y)] t)).alloc (.cells #[.int .i64 (dLo z), .int .i64 (dHi z)] t)).cell? ⟨w.heap.size + 1 + 1, 1, none⟩ = some (.int .i64 (dHi z)) := by
  simp [go_sem, World.cell?_alloc_past]
end Go.Proofs.Yticeeckahdjjmaa
