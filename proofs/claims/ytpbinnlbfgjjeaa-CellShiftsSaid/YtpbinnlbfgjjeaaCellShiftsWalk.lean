/-
  The call of the statement CellShifts answers true at both cells; the world is as it was but for draws.
-/
import Derived.Test.YtpbinnlbfgjjeaaCellAwake
import Derived.Test.YtpbinnlbfgjjeaaCellShift
namespace Go.Proofs.Ytpbinnlbfgjjeaa
open Go.RowKit

set_option maxHeartbeats 400000 in
theorem cellShifts_core (a n k : Int) (w : World) (hK : bits .and .i64 n 63 = k) (hk0 : 0 ≤ k) (hk1 : k < 64)
    (h1 : (cShl (cShr (cShl a k) k) k == cShl a k) = true) (h2 : (cShr (cShl (cShr a k) k) k == cShr a k) = true)
    (h3 : (cShl (cShl a k) 1 == cShl a (k + 1)) = true)
    (h4 : (n == k) = true ∨ ((n == k) = false ∧ (cShl a n == 0) = true ∧ (cShr a n == 0) = true))
    (h5 : (cShr a 0 == a) = true) (h6 : (cShl a k == wrap64 (a * cShl 1 k)) = true) :
    Calls Try.prog 5 #[.int .i64 a, .int .i64 n] w fun e w' => e = .returned (.bool true) ∧ Grown w w' := by
  rcases h4 with h4 | ⟨h4, h7, h8⟩
  all_goals
    go_enter Try.func5, Try.ntmps5
    go_wp2_with (first
      | (go_at_call 10; refine (awake_any _).mono ?_; rintro e w' ⟨rfl, j, rfl⟩)
      | (go_at_call 19; refine (shl_any _ _ _).mono ?_; rintro e w' ⟨rfl, rfl⟩)
      | (go_at_call 21; refine (shr_any _ _ _).mono ?_; rintro e w' ⟨rfl, rfl⟩))
    go_ret
    exact ⟨rfl, grown_drewN _ _⟩
theorem cellShifts_walk (a n : Int) (ha : InC a) (hn : InC n) (w : World) :
    Calls Try.prog 5 #[.int .i64 a, .int .i64 n] w fun e w' => e = .returned (.bool true) ∧ Grown w w' := by
  have hk0 : 0 ≤ n % 64 := by omega
  have hk1 : n % 64 < 64 := by omega
  refine cellShifts_core a n _ w (and63 n) hk0 hk1 (by simpa using sh_1 a hk0 (by omega)) (by simpa using sh_2 a hk0 (by omega)) (by simpa using sh_3 a hk0 hk1) ?_ (by simpa using sh_6 ha) (by simpa using sh_7 a hk0 (by omega))
  by_cases h : n = n % 64
  · exact .inl (by simpa using h)
  · exact .inr ⟨by simpa using h, by simpa using sh_4 a hn (by omega), by simpa using sh_5 a hn (by omega)⟩
end Go.Proofs.Ytpbinnlbfgjjeaa
