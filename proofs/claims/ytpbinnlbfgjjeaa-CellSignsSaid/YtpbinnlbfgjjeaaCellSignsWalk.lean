/-
  The call of the statement CellSigns answers true at both cells; the world is as it was but for draws.
-/
import Derived.Test.YtpbinnlbfgjjeaaCellAwake
import Derived.Test.YtpbinnlbfgjjeaaCellDiv
namespace Go.Proofs.Ytpbinnlbfgjjeaa
open Go.RowKit

set_option maxHeartbeats 400000 in
theorem cellSigns_bad (a b : Int) (w : World) (ha : InC a) (h : (cBad a b != 0) = true) :
    Calls Try.prog 9 #[.int .i64 a, .int .i64 b] w fun e w' => e = .returned (.bool true) ∧ Grown w w' := by
  go_enter Try.func9, Try.ntmps9
  go_wp2_with (first
    | (go_at_call 10; refine (awake_any _).mono ?_; rintro e w' ⟨rfl, j, rfl⟩)
    | (go_at_call 11; refine (floor_any _ _ ha _).mono ?_; rintro e w' ⟨rfl, k, rfl⟩)
    | (go_at_call 13; refine (symm_any _ _ ha _).mono ?_; rintro e w' ⟨rfl, l, rfl⟩))
  go_ret
  exact ⟨rfl, grown_drewN _ _⟩
/-- Nothing is left. -/
def SignNone (a b : Int) : Prop := (cR a b == 0) = true ∧ (cFr a b == 0) = true ∧ (cFq a b == cQ a b) = true
/-- Something is left, of unlike signs. -/
def SignUnlike (a b : Int) : Prop := (cR a b == 0) = false ∧ (cFr a b == 0) = false ∧ (cFq a b == wrap64 (cQ a b - 1)) = true
/-- Something is left, of like signs. -/
def SignLike (a b : Int) : Prop := (cR a b == 0) = false ∧ (cFr a b == 0) = false ∧ (cFq a b == cQ a b) = true ∧ (cFr a b == cR a b) = true
set_option maxHeartbeats 400000 in
theorem cellSigns_ok (a b : Int) (w : World) (ha : InC a) (h : (cBad a b != 0) = false)
    (hs : SignNone a b ∨ (SignUnlike a b ∧ (decide (a < 0) = true ∧ decide (b < 0) = false ∨ decide (a < 0) = false ∧ decide (b < 0) = true)) ∨ (SignLike a b ∧ (decide (a < 0) = true ∧ decide (b < 0) = true ∨ decide (a < 0) = false ∧ decide (b < 0) = false))) :
    Calls Try.prog 9 #[.int .i64 a, .int .i64 b] w fun e w' => e = .returned (.bool true) ∧ Grown w w' := by
  rcases hs with ⟨h1, h2, h3⟩ | ⟨⟨h1, h2, h3⟩, ⟨h4, h5⟩ | ⟨h4, h5⟩⟩ | ⟨⟨h1, h2, h3, h6⟩, ⟨h4, h5⟩ | ⟨h4, h5⟩⟩
  all_goals
    first
      | have h8 : (cFr a b != 0) = true := by simpa using h2
      | have h8 : (cFr a b != 0) = false := by simpa using h2
    go_enter Try.func9, Try.ntmps9
    go_wp2_with (first
      | (go_at_call 10; refine (awake_any _).mono ?_; rintro e w' ⟨rfl, j, rfl⟩)
      | (go_at_call 11; refine (floor_any _ _ ha _).mono ?_; rintro e w' ⟨rfl, k, rfl⟩)
      | (go_at_call 13; refine (symm_any _ _ ha _).mono ?_; rintro e w' ⟨rfl, l, rfl⟩))
    go_ret
    exact ⟨rfl, grown_drewN _ _⟩
theorem cellSigns_walk (a b : Int) (ha : InC a) (hb : InC b) (w : World) :
    Calls Try.prog 9 #[.int .i64 a, .int .i64 b] w fun e w' => e = .returned (.bool true) ∧ Grown w w' := by
  by_cases h : cBad a b = 0
  · refine cellSigns_ok a b w ha (by simp [h]) ?_
    have h1 := R_bound h
    have h2 := R_sign h
    have h3 := Up_is h
    have hb0 := (bad_ok h).1
    cases hu : cUp a b
    · rw [hu] at h3
      have e := F_same hu
      by_cases hr : cR a b = 0
      · exact .inl ⟨by simpa using hr, by rw [e.2]; simpa using hr, by simpa using e.1⟩
      · refine .inr (.inr ⟨⟨by simpa using hr, by rw [e.2]; simpa using hr, by simpa using e.1, by simpa using e.2⟩, ?_⟩)
        simp only [decide_eq_true_eq, decide_eq_false_iff_not]
        simp [hr] at h3
        omega
    · rw [hu] at h3
      have e := F_less hb h hu
      simp at h3
      refine .inr (.inl ⟨⟨by simpa using h3.1, ?_, by simpa using e.1⟩, by simp only [decide_eq_true_eq, decide_eq_false_iff_not]; omega⟩)
      rw [e.2]
      have : cR a b + b ≠ 0 := by omega
      simpa using this
  · exact cellSigns_bad a b w ha (by simp [h])
end Go.Proofs.Ytpbinnlbfgjjeaa
