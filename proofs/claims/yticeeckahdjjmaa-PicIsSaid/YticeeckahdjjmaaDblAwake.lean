/-
  The head of each statement of layer 2 (awake: the example of the document, and a quotient) answers true; the world has new blocks alone.
-/
import Derived.Test.YticeeckahdjjmaaDblDivs
namespace Go.Proofs.Yticeeckahdjjmaa
open Go.RowKit
theorem umod_lit (w : World) :
    Calls Try.prog 61 #[.agg #[.int .i64 7, .int .i64 0], .int .i64 2] w fun e w' => e = .returned (.tuple #[.int .i64 1, .int .i64 3, .int .i64 0]) ∧ Grown w w' := by
  have h := dumod_any 7 2 (by unfold InC; omega) w
  rw [show dLo 7 = 7 by decide +kernel, show dHi 7 = 0 by decide +kernel, show uR 7 2 = 1 by decide +kernel, show uQ 7 2 = 3 by decide +kernel, show uE 7 2 = 0 by decide +kernel] at h
  exact h
theorem of_lit (w : World) :
    Calls Try.prog 53 #[.int .i64 (-1)] w fun e w' => e = .returned (.agg #[.int .i64 (-1), .int .i64 (-1)]) ∧ Grown w w' := by
  have h := dof_any (-1) (by unfold InC; omega) w
  rw [show dLo (-1) = -1 by decide +kernel, show dHi (-1) = -1 by decide +kernel] at h
  exact h
end Go.Proofs.Yticeeckahdjjmaa
