/-
  The document's example of layer 21, as the statements ask for it: awake answers true.
-/
import Derived.Test.YtpkjepbeeebdoaaDoorHistLaw
namespace Go.Proofs.YtpkjepbeeebdoaaDoor
open Go.RowKit

theorem hops_at (A : Option Addr) (n c : Nat) (l : List Evt) (a : Int) (M : List Hop) (b : Bool) (w : World) (hn : n ≤ 1000) (h1 : hoL l a = M) (h2 : hoB l a = b) (h : Rw evK w A n c l) (hT : TabH w) :
    Calls Tryd.prog 6 #[.slice A n c, .int .i64 a] w (HOPost M b w) := by
  have := hops_is A n c l a w hn h hT
  rw [h1, h2] at this
  exact this
def ha1 : List Evt := [⟨0, 1, 8, 5⟩, ⟨1, 3, 8, 0⟩, ⟨1, 4, 8, 5⟩, ⟨0, 2, 8, -1⟩]
def ha2 : List Hop := [⟨0, 0, 5, 0, true, 0, 3⟩, ⟨1, 1, 0, 5, true, 1, 2⟩]
theorem ha_new (w : World) : Rw evK (w.alloc (.cells #[.int .i64 0, .int .i64 1, .int .i64 8, .int .i64 5, .int .i64 1, .int .i64 3, .int .i64 8, .int .i64 0, .int .i64 1, .int .i64 4, .int .i64 8, .int .i64 5, .int .i64 0, .int .i64 2, .int .i64 8, .int .i64 (-1)] 30)) (some ⟨w.heap.size, 0, none⟩) 4 4 ha1 :=
  Rw.new w _ ha1 4 rfl _ rfl _ rfl
theorem ha_ops (A : Option Addr) (n c : Nat) (w : World) (h : Rw evK w A n c ha1) (hT : TabH w) : Calls Tryd.prog 6 #[.slice A n c, .int .i64 8] w (HOPost ha2 true w) := by
  have := hops_is A n c ha1 8 w (by have := h.len; have e : ha1.length = 4 := rfl; omega) h hT
  rw [show hoL ha1 8 = ha2 by decide, show hoB ha1 8 = true by decide] at this
  exact this
theorem eqHp (w : World) (x : Hop) : (binOp .eql 28 (.agg #[.int .i64 x.t, .int .i64 x.k, .int .i64 x.g, .int .i64 x.r, .bool x.y, .int .i64 x.f, .int .i64 x.e]) (.agg #[.int .i64 x.t, .int .i64 x.k, .int .i64 x.g, .int .i64 x.r, .bool x.y, .int .i64 x.f, .int .i64 x.e])).run Tryd.prog w = .ok (.bool true) w := by
  have u3 := Tryd.underlying3
  have a3 := Tryd.isAgg3
  have z3 := Tryd.sizeOf3
  have u4 := Tryd.underlying4
  have a4 := Tryd.isAgg4
  have z4 := Tryd.sizeOf4
  have hS : Tryd.prog.underlying 28 = some (.struct (Tryd.prog.fieldsOf 28)) := by kernel_rfl
  have hp : Tryd.prog.stoodInHeld 28 = false := by kernel_rfl
  rw [run_eql_struct, show (10000 : Nat) = 9999 + 1 from rfl, run_equalIn_agg w 9999 28 _ _ hS hp]
  simp only [Program.fieldsOf, Tryd.underlying28]
  go_simp
theorem ha_cells {w : World} {A : Option Addr} {n c : Nat} (h : Rw hpK w A n c ha2) : n = 2 ∧ ∃ b o, A = some ⟨b, o, none⟩ ∧ b < w.heap.size ∧
    w.cell? ⟨b, o, none⟩ = some (.int .i64 0) ∧ w.cell? ⟨b, o + 1, none⟩ = some (.int .i64 0) ∧ w.cell? ⟨b, o + 2, none⟩ = some (.int .i64 5) ∧ w.cell? ⟨b, o + 3, none⟩ = some (.int .i64 0) ∧ w.cell? ⟨b, o + 4, none⟩ = some (.bool true) ∧ w.cell? ⟨b, o + 5, none⟩ = some (.int .i64 0) ∧ w.cell? ⟨b, o + 6, none⟩ = some (.int .i64 3) ∧
    w.cell? ⟨b, o + 7, none⟩ = some (.int .i64 1) ∧ w.cell? ⟨b, o + 7 + 1, none⟩ = some (.int .i64 1) ∧ w.cell? ⟨b, o + 7 + 2, none⟩ = some (.int .i64 0) ∧ w.cell? ⟨b, o + 7 + 3, none⟩ = some (.int .i64 5) ∧ w.cell? ⟨b, o + 7 + 4, none⟩ = some (.bool true) ∧ w.cell? ⟨b, o + 7 + 5, none⟩ = some (.int .i64 1) ∧ w.cell? ⟨b, o + 7 + 6, none⟩ = some (.int .i64 2) := by
  obtain rfl : 2 = n := h.len
  obtain ⟨b, o, rfl, hb, f0, f1, f2, f3, f4, f5, f6⟩ := hp_at h 0 (by decide)
  obtain ⟨b', o', e, _, g0, g1, g2, g3, g4, g5, g6⟩ := hp_at h 1 (by decide)
  cases e
  exact ⟨rfl, b, o, rfl, hb, f0, f1, f2, f3, f4, f5, f6, g0, g1, g2, g3, g4, g5, g6⟩
set_option maxHeartbeats 1000000 in
theorem hawake_any (w : World) (hT : TabH w) : Calls Tryd.prog 5 #[] w fun e w' => e = .returned (.bool true) ∧ Below w.heap.size w w' := by
  have HA := Lib.hid (ha_new w)
  have HT := Lib.hid hT
  clear hT
  have q1 := fun w => eqHp w ⟨0, 0, 5, 0, true, 0, 3⟩
  have q2 := fun w => eqHp w ⟨1, 1, 0, 5, true, 1, 2⟩
  simp only [] at q1 q2
  go_enter Tryd.func5, Tryd.ntmps5
  go_upto_region 2 with (go_at_call 6; (with_reducible refine (ha_ops _ _ _ _ HA.out (HT.out.keep (below_one _ _))).mono ?_); rintro e w1 ⟨A1, n1, c1, rfl, h1, hb⟩; have B1 := Lib.hid (below_then (below_one _ _) hb); have H1 := Lib.hid h1; clear hb h1)
  obtain ⟨rfl, b1, o1, rfl, hl, f0, f1, f2, f3, f4, f5, f6, g0, g1, g2, g3, g4, g5, g6⟩ := ha_cells H1.out
  go_wp2
  go_ret
  exact ⟨rfl, B1.out⟩
end Go.Proofs.YtpkjepbeeebdoaaDoor
