/-
  The call of the statement DblIs answers true at all doubles and cells; of what was there nothing changes.
-/
import Derived.Test.YtjgliemnenhloaaRef02Mul
import Derived.Test.YtjgliemnenhloaaDblAwake
namespace Go.Proofs.Ytjgliemnenhloaa
open Go.RowKit
theorem keepKK {W w' : World} {B : Nat} {l h r s : Value} (hg : Keeps W w')
    (k : B + 1 < W.heap.size ∧ (W.cell? ⟨B, 0, none⟩ = some l ∧ W.cell? ⟨B, 1, none⟩ = some h) ∧ (W.cell? ⟨B + 1, 0, none⟩ = some r ∧ W.cell? ⟨B + 1, 1, none⟩ = some s)) :
    B + 1 < w'.heap.size ∧ (w'.cell? ⟨B, 0, none⟩ = some l ∧ w'.cell? ⟨B, 1, none⟩ = some h) ∧ (w'.cell? ⟨B + 1, 0, none⟩ = some r ∧ w'.cell? ⟨B + 1, 1, none⟩ = some s) := by
  obtain ⟨a, ⟨c, d⟩, ⟨e, f⟩⟩ := k
  exact ⟨Nat.lt_of_lt_of_le a hg.size, ⟨hg.cell_some (by omega) c, hg.cell_some (by omega) d⟩, ⟨hg.cell_some a e, hg.cell_some a f⟩⟩
theorem box2 (w : World) (x y : Int) (t : TypeId) : w.heap.size + 1 < ((w.alloc (.cells #[.int .i64 (dLo x), .int .i64 (dHi x)] t)).alloc (.cells #[.int .i64 (dLo y), .int .i64 (dHi y)] t)).heap.size ∧
    (((w.alloc (.cells #[.int .i64 (dLo x), .int .i64 (dHi x)] t)).alloc (.cells #[.int .i64 (dLo y), .int .i64 (dHi y)] t)).cell? ⟨w.heap.size, 0, none⟩ = some (.int .i64 (dLo x)) ∧
    ((w.alloc (.cells #[.int .i64 (dLo x), .int .i64 (dHi x)] t)).alloc (.cells #[.int .i64 (dLo y), .int .i64 (dHi y)] t)).cell? ⟨w.heap.size, 1, none⟩ = some (.int .i64 (dHi x))) ∧
    (((w.alloc (.cells #[.int .i64 (dLo x), .int .i64 (dHi x)] t)).alloc (.cells #[.int .i64 (dLo y), .int .i64 (dHi y)] t)).cell? ⟨w.heap.size + 1, 0, none⟩ = some (.int .i64 (dLo y)) ∧
    ((w.alloc (.cells #[.int .i64 (dLo x), .int .i64 (dHi x)] t)).alloc (.cells #[.int .i64 (dLo y), .int .i64 (dHi y)] t)).cell? ⟨w.heap.size + 1, 1, none⟩ = some (.int .i64 (dHi y))) := by
  simp [go_sem, World.cell?_alloc_past]
set_option maxRecDepth 100000 in
set_option maxHeartbeats 4000000 in
theorem dblIs_walk (x y n m : Int) (hx : InD x) (hy : InD y) (hn : InC n) (hm : InC m) (w : World) :
    Calls Try.prog 3 #[.agg #[.int .i64 (dLo x), .int .i64 (dHi x)], .agg #[.int .i64 (dLo y), .int .i64 (dHi y)], .int .i64 n, .int .i64 m] w fun e w' => e = .returned (.bool true) ∧ Keeps w w' := by
  go_enter Try.func3, Try.ntmps3
  go_wp2_with (go_at_call 11; refine (dawake_any _).mono ?_; rintro e w0 ⟨rfl, hw0⟩; replace hw0 := Keeps.of_grown hw0; have hk := keepKK hw0 (box2 w x y _))
  go_region_held3 (fun w' => w.heap.size + 1 < w'.heap.size ∧ (w'.cell? ⟨w.heap.size, 0, none⟩ = some (.int .i64 (dLo x)) ∧ w'.cell? ⟨w.heap.size, 1, none⟩ = some (.int .i64 (dHi x))) ∧ (w'.cell? ⟨w.heap.size + 1, 0, none⟩ = some (.int .i64 (dLo y)) ∧ w'.cell? ⟨w.heap.size + 1, 1, none⟩ = some (.int .i64 (dHi y)))) (first | assumption | exact keepKK (by assumption) (by assumption))
    (first
      | (go_at_call 12; refine (dof_any _ hn _).mono ?_; rintro e w1 ⟨rfl, hw1⟩; replace hw1 := Keeps.of_grown hw1)
      | (go_at_call 14; refine (dadd_any _ _ _).mono ?_; rintro e w1 ⟨rfl, hw1⟩; replace hw1 := Keeps.of_grown hw1)
      | (go_at_call 16; refine (dneg_any _ _).mono ?_; rintro e w1 ⟨rfl, hw1⟩; replace hw1 := Keeps.of_grown hw1)
      | (go_at_call 18; refine (dcmp_any _ _ hx hy _).mono ?_; rintro e w1 ⟨rfl, hw1⟩; replace hw1 := Keeps.of_grown hw1)
      | (go_at_call 20; refine (dumul_any _ _ _).mono ?_; rintro e w1 ⟨rfl, hw1⟩; replace hw1 := Keeps.of_grown hw1)
      | (go_at_call 22; refine (dmul_any _ _ hn hm _).mono ?_; rintro e w1 ⟨rfl, hw1⟩; replace hw1 := Keeps.of_grown hw1)
      | (go_at_call 13; refine (rof_any _ hn _).mono ?_; rintro e w1 ⟨rfl, hw1⟩)
      | (go_at_call 15; refine (radd_any _ _ _).mono ?_; rintro e w1 ⟨rfl, hw1⟩)
      | (go_at_call 17; refine (rneg_any _ _).mono ?_; rintro e w1 ⟨rfl, hw1⟩)
      | (go_at_call 19; refine (rcmp_any _ _ hx hy _).mono ?_; rintro e w1 ⟨rfl, hw1⟩)
      | (go_at_call 21; refine (rumul_any _ _ hn _).mono ?_; rintro e w1 ⟨rfl, hw1⟩)
      | (go_at_call 23; refine (rmul_any _ _ hn hm _).mono ?_; rintro e w1 ⟨rfl, hw1⟩))
  go_wp2
  go_ret
  refine ⟨rfl, ?_⟩
  repeat (with_reducible first | exact Keeps.refl _ | refine Keeps.trans ?_ (by assumption) | apply Keeps.alloc | apply Keeps.drew)
end Go.Proofs.Ytjgliemnenhloaa
