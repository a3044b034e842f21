/-
  The head of each statement of layer 1 ('awake', the document's example) answers true; the world is as it was but for draws.
-/
import Derived.Test.YtpbinnlbfgjjeaaCellCalls
namespace Go.Proofs.Ytpbinnlbfgjjeaa
open Go.RowKit

set_option maxHeartbeats 400000 in
theorem awake_any (w : World) :
    Calls Try.prog 10 #[] w fun e w' => e = .returned (.bool true) ∧ ∃ n, w.drewN n = w' := by
  have h1 : (cFq (-7) 2 == -4) = true := by decide +kernel
  have h2 : (cFr (-7) 2 == 1) = true := by decide +kernel
  have h3 : (cBad (-7) 2 == 0) = true := by decide +kernel
  have h4 : (cQ (-7) 2 == -3) = true := by decide +kernel
  have h5 : (cR (-7) 2 == -1) = true := by decide +kernel
  have h6 : (cShl 1 3 == 8) = true := by decide +kernel
  go_enter Try.func10, Try.ntmps10
  go_wp2_with (first
    | (go_at_call 11; refine (floor_any _ _ (by unfold InC; omega) _).mono ?_; rintro e w' ⟨rfl, n, rfl⟩)
    | (go_at_call 13; refine (symm_any _ _ (by unfold InC; omega) _).mono ?_; rintro e w' ⟨rfl, n, rfl⟩)
    | (go_at_call 15; refine (flag_any _ _).mono ?_; rintro e w' ⟨rfl, rfl⟩)
    | (go_at_call 19; refine (shl_any _ _ _).mono ?_; rintro e w' ⟨rfl, rfl⟩))
  go_ret
  exact ⟨rfl, _, rfl⟩
theorem grown_drewN (w : World) (n : Nat) : Grown w (w.drewN n) := Grown.refl w
end Go.Proofs.Ytpbinnlbfgjjeaa
