/-
  The call of the statement DblSums answers true at all doubles and cells; the world has new blocks alone.
-/
import Derived.Test.YtjgliemnenhloaaDblKeep
namespace Go.Proofs.Ytjgliemnenhloaa
open Go.RowKit
set_option maxRecDepth 100000 in
set_option maxHeartbeats 2000000 in
theorem dblSums_walk (x y z n m : Int) (w : World) :
    Calls Try.prog 6 #[.agg #[.int .i64 (dLo x), .int .i64 (dHi x)], .agg #[.int .i64 (dLo y), .int .i64 (dHi y)], .agg #[.int .i64 (dLo z), .int .i64 (dHi z)], .int .i64 n, .int .i64 m] w fun e w' => e = .returned (.bool true) ∧ Grown w w' := by
  obtain ⟨p, ep, p0, p1⟩ := and48 n
  obtain ⟨q, eq, q0, q1⟩ := and48 m
  have h1 : y + x = x + y := Int.add_comm _ _
  have h2 : x + (y + z) = x + y + z := (Int.add_assoc _ _ _).symm
  have h3 : dLo (x + -x) = 0 := by rw [Int.add_right_neg]; exact dLo0
  have h4 : dHi (x + -x) = 0 := by rw [Int.add_right_neg]; exact dHi0
  have h9 : - -x = x := Int.neg_neg x
  have h5 : IntKind.i64.wrap (p + q) = p + q := i64_id ⟨by omega, by omega⟩
  have h6 : IntKind.i64.wrap (p - q) = p - q := i64_id ⟨by omega, by omega⟩
  have h7 : IntKind.i64.wrap (-q) = -q := i64_id ⟨by omega, by omega⟩
  have h8 : p + -q = p - q := by omega
  go_enter Try.func6, Try.ntmps6
  go_wp2_with (go_at_call 11; refine (dawake_any _).mono ?_; rintro e w0 ⟨rfl, hw0⟩; have hk := keep3 hw0 (box3 w x y z _))
  go_region_held3 (fun w' => w.heap.size + 1 + 1 < w'.heap.size ∧ (w'.cell? ⟨w.heap.size, 0, none⟩ = some (.int .i64 (dLo x)) ∧ w'.cell? ⟨w.heap.size, 1, none⟩ = some (.int .i64 (dHi x))) ∧ (w'.cell? ⟨w.heap.size + 1, 0, none⟩ = some (.int .i64 (dLo y)) ∧ w'.cell? ⟨w.heap.size + 1, 1, none⟩ = some (.int .i64 (dHi y))) ∧ w'.cell? ⟨w.heap.size + 1 + 1, 0, none⟩ = some (.int .i64 (dLo z)) ∧ w'.cell? ⟨w.heap.size + 1 + 1, 1, none⟩ = some (.int .i64 (dHi z))) (first | assumption | exact keep3 (by assumption) (by assumption))
    (first
      | (go_at_call 14; refine (dadd_any _ _ _).mono ?_; rintro e w1 ⟨rfl, hw1⟩)
      | (go_at_call 16; refine (dneg_any _ _).mono ?_; rintro e w1 ⟨rfl, hw1⟩)
      | (go_at_call 12; refine (dof_any _ (by unfold InC; omega) _).mono ?_; rintro e w1 ⟨rfl, hw1⟩))
  go_wp2
  go_ret
  refine ⟨rfl, ?_⟩
  repeat (with_reducible first | exact Grown.refl _ | refine grown_trans ?_ (by assumption) | apply Grown.alloc | apply Grown.drew)
end Go.Proofs.Ytjgliemnenhloaa
