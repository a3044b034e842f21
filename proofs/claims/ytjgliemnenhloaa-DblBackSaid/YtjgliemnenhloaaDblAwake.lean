/-
  The head of each statement of layer 2 (awake: the example of the document, and a quotient) answers true; the world has new blocks alone.
-/
import Derived.Test.YtjgliemnenhloaaDblDivs
namespace Go.Proofs.Ytjgliemnenhloaa
open Go.RowKit
theorem umod_lit (w : World) :
    Calls Try.prog 24 #[.agg #[.int .i64 7, .int .i64 0], .int .i64 2] w fun e w' => e = .returned (.tuple #[.int .i64 1, .int .i64 3, .int .i64 0]) ∧ Grown w w' := by
  have h := dumod_any 7 2 (by unfold InC; omega) w
  rw [show dLo 7 = 7 by decide +kernel, show dHi 7 = 0 by decide +kernel, show uR 7 2 = 1 by decide +kernel, show uQ 7 2 = 3 by decide +kernel, show uE 7 2 = 0 by decide +kernel] at h
  exact h
theorem umul_lit (w : World) :
    Calls Try.prog 20 #[.int .i64 4294967296, .int .i64 4294967296] w fun e w' => e = .returned (.agg #[.int .i64 0, .int .i64 1]) ∧ Grown w w' := by
  have h := dumul_any 4294967296 4294967296 w
  rw [show dLo (uProd 4294967296 4294967296) = 0 by decide +kernel, show dHi (uProd 4294967296 4294967296) = 1 by decide +kernel] at h
  exact h
theorem of_lit (w : World) :
    Calls Try.prog 12 #[.int .i64 (-1)] w fun e w' => e = .returned (.agg #[.int .i64 (-1), .int .i64 (-1)]) ∧ Grown w w' := by
  have h := dof_any (-1) (by unfold InC; omega) w
  rw [show dLo (-1) = -1 by decide +kernel, show dHi (-1) = -1 by decide +kernel] at h
  exact h
set_option maxHeartbeats 400000 in
theorem dawake_any (w : World) :
    Calls Try.prog 11 #[] w fun e w' => e = .returned (.bool true) ∧ Grown w w' := by
  go_enter Try.func11, Try.ntmps11
  go_wp2_with (first
    | (go_at_call 24; refine (umod_lit _).mono ?_; rintro e w1 ⟨rfl, hw1⟩)
    | (go_at_call 20; refine (umul_lit _).mono ?_; rintro e w2 ⟨rfl, hw2⟩)
    | (go_at_call 12; refine (of_lit _).mono ?_; rintro e w3 ⟨rfl, hw3⟩))
  go_ret
  exact ⟨rfl, grown_trans (grown_trans hw1 hw2) hw3⟩
end Go.Proofs.Ytjgliemnenhloaa
