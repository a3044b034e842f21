/-
  The call of CellDivides answers true where -2^63 is divided, by neither 0 nor -1.
-/
import Derived.Test.YtpbinnlbfgjjeaaCellAwake
import Derived.Test.YtpbinnlbfgjjeaaCellDiv
namespace Go.Proofs.Ytpbinnlbfgjjeaa
open Go.RowKit

set_option maxRecDepth 100000 in
set_option maxHeartbeats 1000000 in
theorem cellDivides_min (b : Int) (w : World) (ha : InC (-9223372036854775808)) (h : cBad (-9223372036854775808) b = 0) (h0 : (b == 0) = false)
    (h1 : (b == -1) = false)
    (hR0 : -9223372036854775808 ≤ cR (-9223372036854775808) b) (hR1 : cR (-9223372036854775808) b ≤ 9223372036854775807) (hb0 : -9223372036854775808 ≤ b) (hb1 : b ≤ 9223372036854775807)
    (h2 : (wrap64 (wrap64 (cFq (-9223372036854775808) b * b) + cFr (-9223372036854775808) b) == (-9223372036854775808)) = true) (h3 : (wrap64 (wrap64 (cQ (-9223372036854775808) b * b) + cR (-9223372036854775808) b) == (-9223372036854775808)) = true)
    (z2 : cFr (-9223372036854775808) b = 0 → (wrap64 (wrap64 (cFq (-9223372036854775808) b * b)) == (-9223372036854775808)) = true) (z3 : cR (-9223372036854775808) b = 0 → (wrap64 (wrap64 (cQ (-9223372036854775808) b * b)) == (-9223372036854775808)) = true)
    (h4 : (0 < b ∧ 0 ≤ cFr (-9223372036854775808) b ∧ cFr (-9223372036854775808) b < b) ∨ (b < 0 ∧ (cFr (-9223372036854775808) b = 0 ∨ (b < cFr (-9223372036854775808) b ∧ cFr (-9223372036854775808) b < 0))))
    (h5 : cR (-9223372036854775808) b = 0 ∨ ((cR (-9223372036854775808) b == 0) = false ∧ 0 < cR (-9223372036854775808) b ∧ decide (cR (-9223372036854775808) b < 0) = false ∧ decide ((-9223372036854775808) < 0) = false) ∨ ((cR (-9223372036854775808) b == 0) = false ∧ cR (-9223372036854775808) b < 0 ∧ decide (cR (-9223372036854775808) b < 0) = true ∧ decide ((-9223372036854775808) < 0) = true))
    (g1 : 0 < b → -b < cR (-9223372036854775808) b) (g2 : 0 < b → cR (-9223372036854775808) b < b) (g3 : b < 0 → b < cR (-9223372036854775808) b) (g4 : b < 0 → cR (-9223372036854775808) b < -b) :
    Calls Try.prog 4 #[.int .i64 (-9223372036854775808), .int .i64 b] w fun e w' => e = .returned (.bool true) ∧ Grown w w' := by
  rcases h4 with ⟨k1, k2, k3⟩ | ⟨k1, k2 | ⟨k2, k3⟩⟩
  all_goals
    first
      | (have g1 := g1 k1; have g2 := g2 k1; clear g3 g4)
      | (have g3 := g3 k1; have g4 := g4 k1; clear g1 g2)
    rcases h5 with h5 | ⟨h5, h6, h7, h8⟩ | ⟨h5, h6, h7, h8⟩
    all_goals
      go_enter Try.func4, Try.ntmps4
      go_wp2_with (first
        | (go_at_call 10; refine (awake_any _).mono ?_; rintro e w' ⟨rfl, j, rfl⟩)
        | (go_at_call 11; refine (floor_any _ _ ha _).mono ?_; rintro e w' ⟨rfl, k, rfl⟩)
        | (go_at_call 13; refine (symm_any _ _ ha _).mono ?_; rintro e w' ⟨rfl, l, rfl⟩))
      all_goals
        go_ret
        exact ⟨rfl, grown_drewN _ _⟩
end Go.Proofs.Ytpbinnlbfgjjeaa
