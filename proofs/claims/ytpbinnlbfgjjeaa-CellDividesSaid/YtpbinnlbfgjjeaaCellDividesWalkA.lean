/-
  The call of CellDivides answers true where it divides, at every cell but -2^63 as what is divided.
-/
import Derived.Test.YtpbinnlbfgjjeaaCellAwake
import Derived.Test.YtpbinnlbfgjjeaaCellDiv
namespace Go.Proofs.Ytpbinnlbfgjjeaa
open Go.RowKit

set_option maxRecDepth 100000 in
set_option maxHeartbeats 1000000 in
theorem cellDivides_ok (a b : Int) (w : World) (ha : InC a) (h : cBad a b = 0) (h0 : (b == 0) = false)
    (h1 : (a == -9223372036854775808) = false)
    (hR0 : -9223372036854775808 ≤ cR a b) (hR1 : cR a b ≤ 9223372036854775807) (hb0 : -9223372036854775808 ≤ b) (hb1 : b ≤ 9223372036854775807)
    (h2 : (wrap64 (wrap64 (cFq a b * b) + cFr a b) == a) = true) (h3 : (wrap64 (wrap64 (cQ a b * b) + cR a b) == a) = true)
    (z2 : cFr a b = 0 → (wrap64 (wrap64 (cFq a b * b)) == a) = true) (z3 : cR a b = 0 → (wrap64 (wrap64 (cQ a b * b)) == a) = true)
    (h4 : (0 < b ∧ 0 ≤ cFr a b ∧ cFr a b < b) ∨ (b < 0 ∧ (cFr a b = 0 ∨ (b < cFr a b ∧ cFr a b < 0))))
    (h5 : cR a b = 0 ∨ ((cR a b == 0) = false ∧ 0 < cR a b ∧ decide (cR a b < 0) = false ∧ decide (a < 0) = false) ∨ ((cR a b == 0) = false ∧ cR a b < 0 ∧ decide (cR a b < 0) = true ∧ decide (a < 0) = true))
    (g1 : 0 < b → -b < cR a b) (g2 : 0 < b → cR a b < b) (g3 : b < 0 → b < cR a b) (g4 : b < 0 → cR a b < -b) :
    Calls Try.prog 4 #[.int .i64 a, .int .i64 b] w fun e w' => e = .returned (.bool true) ∧ Grown w w' := by
  rcases h4 with ⟨k1, k2, k3⟩ | ⟨k1, k2 | ⟨k2, k3⟩⟩
  all_goals
    first
      | (have g1 := g1 k1; have g2 := g2 k1; clear g3 g4)
      | (have g3 := g3 k1; have g4 := g4 k1; clear g1 g2)
    rcases h5 with h5 | ⟨h5, h6, h7, h8⟩ | ⟨h5, h6, h7, h8⟩
    all_goals
      go_enter Try.func4, Try.ntmps4
      go_wp2_with (first
        | (go_at_call 10; refine (awake_any _).mono ?_; rintro e w' ⟨rfl, j, rfl⟩)
        | (go_at_call 11; refine (floor_any _ _ ha _).mono ?_; rintro e w' ⟨rfl, k, rfl⟩)
        | (go_at_call 13; refine (symm_any _ _ ha _).mono ?_; rintro e w' ⟨rfl, l, rfl⟩))
      all_goals
        go_ret
        exact ⟨rfl, grown_drewN _ _⟩
end Go.Proofs.Ytpbinnlbfgjjeaa
