/-
  The call of the statement CellAligned answers true at every cell; the world is as it was but for draws.
-/
import Derived.Test.YtpbinnlbfgjjeaaCellAwake
namespace Go.Proofs.Ytpbinnlbfgjjeaa
open Go.RowKit

theorem al_1 (n : Int) : (bits .and .i64 (cAl n) 7 == 0) = true := by
  rw [and7, cAl_is, beq_iff_eq]; omega
theorem al_d (n : Int) : 0 ≤ wrap64 (cAl n - n) ∧ wrap64 (cAl n - n) < 8 := by
  rw [cAl_is]; unfold wrap64; omega
theorem al_2 (n : Int) : (cAl (cAl n) == cAl n) = true := by
  rw [cAl_is (cAl n), cAl_is n, beq_iff_eq]; unfold wrap64; omega
theorem al_3 (n : Int) (h : InC n) (h8 : n % 8 = 0) : cAl n = n := by
  rw [cAl_is n]; unfold wrap64; unfold InC at h; omega

set_option maxHeartbeats 400000 in
theorem cellAligned_walk (n : Int) (h : InC n) (w : World) :
    Calls Try.prog 7 #[.int .i64 n] w fun e w' => e = .returned (.bool true) ∧ Grown w w' := by
  have h1 := al_1 n
  obtain ⟨h2, h3⟩ := al_d n
  have h4 := al_2 n
  have h5 : (bits .and .i64 n 7 != 0) = true ∨ ((bits .and .i64 n 7 != 0) = false ∧ (cAl n == n) = true) := by
    by_cases h8 : n % 8 = 0
    · exact .inr ⟨by rw [and7, h8]; rfl, by rw [al_3 n h h8]; exact beq_self_eq_true n⟩
    · exact .inl (by rw [and7]; simpa using h8)
  clear h
  rcases h5 with h5 | ⟨h5, h6⟩
  all_goals
    go_enter Try.func7, Try.ntmps7
    go_wp2_with (first
      | (go_at_call 10; refine (awake_any _).mono ?_; rintro e w' ⟨rfl, n, rfl⟩)
      | (go_at_call 25; refine (aligned_any _ _).mono ?_; rintro e w' ⟨rfl, rfl⟩))
    go_ret
    exact ⟨rfl, grown_drewN _ _⟩
end Go.Proofs.Ytpbinnlbfgjjeaa
