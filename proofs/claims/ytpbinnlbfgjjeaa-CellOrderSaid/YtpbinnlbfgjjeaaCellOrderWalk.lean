/-
  The call of the statement CellOrder answers true at all cells; the world is as it was but for draws.
-/
import Derived.Test.YtpbinnlbfgjjeaaCellAwake
namespace Go.Proofs.Ytpbinnlbfgjjeaa
open Go.RowKit

theorem or_1 (a b : Int) : ¬ (cUlt a b = true ∧ cUlt b a = true) := by
  rw [cUlt_is, cUlt_is]; simp only [decide_eq_true_eq]; omega
theorem or_2 (a b : Int) (ha : InC a) (hb : InC b) : (cUlt a b = false ∧ cUlt b a = false) ↔ a = b := by
  unfold InC at *
  rw [cUlt_is, cUlt_is]; simp only [decide_eq_false_iff_not]; omega
theorem or_3 (a b c : Int) (h1 : cUlt a b = true) (h2 : cUlt b c = true) : cUlt a c = true := by
  rw [cUlt_is] at *; simp only [decide_eq_true_eq] at *; omega
theorem or_4 (a b : Int) : cIn a b b = false := by
  rw [cIn_is]; simp only [decide_eq_false_iff_not]; omega
theorem or_5 (a b c : Int) (hb : InC b) (hc : InC c) (h : b ≠ c) : cIn a b c = !cIn a c b := by
  unfold InC at *
  have : (cIn a b c = true ↔ ¬ cIn a c b = true) := by
    rw [cIn_is, cIn_is]; simp only [decide_eq_true_eq]; omega
  cases h1 : cIn a b c <;> cases h2 : cIn a c b <;> simp_all
theorem or_6 (b c : Int) (hb : InC b) (hc : InC c) (h : b ≠ c) : cIn b b c = true := by
  unfold InC at *
  rw [cIn_is]; simp only [decide_eq_true_eq]; omega
theorem or_7 (b c : Int) : cIn c b c = false := by
  rw [cIn_is]; simp only [decide_eq_false_iff_not]; omega

theorem or_8 (b : Int) : cUlt b b = false := by
  rw [cUlt_is]; simp only [decide_eq_false_iff_not]; omega

set_option maxHeartbeats 1000000 in
theorem cellOrder_core (a b c : Int) (w : World)
    (k1 : (cUlt a b = true ∧ cUlt b a = false ∧ (a == b) = false ∧ (cUlt b c = false ∨ (cUlt b c = true ∧ cUlt a c = true))) ∨ (cUlt a b = false ∧ cUlt b a = true ∧ (a == b) = false))
    (k4 : cIn a b b = false) (k7 : cIn c b c = false)
    (k5 : (b == c) = false ∧ (cIn a b c = true ∧ cIn a c b = false ∨ cIn a b c = false ∧ cIn a c b = true) ∧ cIn b b c = true) :
    Calls Try.prog 6 #[.int .i64 a, .int .i64 b, .int .i64 c] w fun e w' => e = .returned (.bool true) ∧ Grown w w' := by
  obtain ⟨k5, ⟨k8, k8'⟩ | ⟨k8, k8'⟩, k9⟩ := k5
  all_goals rcases k1 with ⟨h1, h2, h3, h4 | ⟨h4, h5⟩⟩ | ⟨h1, h2, h3⟩
  all_goals
    go_enter Try.func6, Try.ntmps6
    go_wp2_with (first
      | (go_at_call 10; refine (awake_any _).mono ?_; rintro e w' ⟨rfl, n, rfl⟩)
      | (go_at_call 17; refine (ult_any _ _ _).mono ?_; rintro e w' ⟨rfl, rfl⟩)
      | (go_at_call 23; refine (within_any _ _ _ _).mono ?_; rintro e w' ⟨rfl, rfl⟩))
    go_ret
    exact ⟨rfl, grown_drewN _ _⟩
set_option maxHeartbeats 1000000 in
theorem cellOrder_same (b c : Int) (w : World) (h1 : cUlt b b = false)
    (k4 : cIn b b b = false) (k7 : cIn c b c = false)
    (k5 : (b == c) = false ∧ (cIn b b c = true ∧ cIn b c b = false ∨ cIn b b c = false ∧ cIn b c b = true) ∧ cIn b b c = true) :
    Calls Try.prog 6 #[.int .i64 b, .int .i64 b, .int .i64 c] w fun e w' => e = .returned (.bool true) ∧ Grown w w' := by
  have k8' : cIn b c b = false := by
    rcases k5.2.1 with h | h
    · exact h.2
    · have := k5.2.2; rw [h.1] at this; cases this
  obtain ⟨k5, _, k8⟩ := k5
  go_enter Try.func6, Try.ntmps6
  go_wp2_with (first
    | (go_at_call 10; refine (awake_any _).mono ?_; rintro e w' ⟨rfl, n, rfl⟩)
    | (go_at_call 17; refine (ult_any _ _ _).mono ?_; rintro e w' ⟨rfl, rfl⟩)
    | (go_at_call 23; refine (within_any _ _ _ _).mono ?_; rintro e w' ⟨rfl, rfl⟩))
  go_ret
  exact ⟨rfl, grown_drewN _ _⟩
set_option maxHeartbeats 1000000 in
theorem cellOrder_two (a b : Int) (w : World)
    (k1 : (cUlt a b = true ∧ cUlt b a = false ∧ (a == b) = false) ∨ (cUlt a b = false ∧ cUlt b a = true ∧ (a == b) = false))
    (k2 : cUlt b b = false) (k4 : cIn a b b = false) (k7 : cIn b b b = false) :
    Calls Try.prog 6 #[.int .i64 a, .int .i64 b, .int .i64 b] w fun e w' => e = .returned (.bool true) ∧ Grown w w' := by
  rcases k1 with ⟨h1, h2, h3⟩ | ⟨h1, h2, h3⟩
  all_goals
    go_enter Try.func6, Try.ntmps6
    go_wp2_with (first
      | (go_at_call 10; refine (awake_any _).mono ?_; rintro e w' ⟨rfl, n, rfl⟩)
      | (go_at_call 17; refine (ult_any _ _ _).mono ?_; rintro e w' ⟨rfl, rfl⟩)
      | (go_at_call 23; refine (within_any _ _ _ _).mono ?_; rintro e w' ⟨rfl, rfl⟩))
    go_ret
    exact ⟨rfl, grown_drewN _ _⟩
set_option maxHeartbeats 1000000 in
theorem cellOrder_one (b : Int) (w : World) (h1 : cUlt b b = false) (k4 : cIn b b b = false) :
    Calls Try.prog 6 #[.int .i64 b, .int .i64 b, .int .i64 b] w fun e w' => e = .returned (.bool true) ∧ Grown w w' := by
  go_enter Try.func6, Try.ntmps6
  go_wp2_with (first
    | (go_at_call 10; refine (awake_any _).mono ?_; rintro e w' ⟨rfl, n, rfl⟩)
    | (go_at_call 17; refine (ult_any _ _ _).mono ?_; rintro e w' ⟨rfl, rfl⟩)
    | (go_at_call 23; refine (within_any _ _ _ _).mono ?_; rintro e w' ⟨rfl, rfl⟩))
  go_ret
  exact ⟨rfl, grown_drewN _ _⟩
theorem cellOrder_walk (a b c : Int) (ha : InC a) (hb : InC b) (hc : InC c) (w : World) :
    Calls Try.prog 6 #[.int .i64 a, .int .i64 b, .int .i64 c] w fun e w' => e = .returned (.bool true) ∧ Grown w w' := by
  have k1 := or_1 a b
  have k2 := or_2 a b ha hb
  have k3 := or_3 a b c
  have k5 : b ≠ c → ((b == c) = false ∧ (cIn a b c = true ∧ cIn a c b = false ∨ cIn a b c = false ∧ cIn a c b = true) ∧ cIn b b c = true) := fun h =>
    ⟨by simpa using h, by rw [or_5 a b c hb hc h]; cases cIn a c b <;> simp, or_6 b c hb hc h⟩
  by_cases hab : a = b
  · subst hab
    by_cases hbc : a = c
    · subst hbc; exact cellOrder_one a w (or_8 a) (or_4 a a)
    · exact cellOrder_same a c w (or_8 a) (or_4 a a) (or_7 a c) (k5 hbc)
  · have hf : (a == b) = false := by simpa using hab
    have t : (cUlt a b = true ∧ cUlt b a = false) ∨ (cUlt a b = false ∧ cUlt b a = true) := by
      cases h1 : cUlt a b <;> cases h2 : cUlt b a <;> simp_all
    by_cases hbc : b = c
    · subst hbc
      exact cellOrder_two a b w (t.imp (fun h => ⟨h.1, h.2, hf⟩) (fun h => ⟨h.1, h.2, hf⟩)) (or_8 b) (or_4 a b) (or_4 b b)
    · refine cellOrder_core a b c w ?_ (or_4 a b) (or_7 b c) (k5 hbc)
      rcases t with t | t
      · refine .inl ⟨t.1, t.2, hf, ?_⟩
        cases h3 : cUlt b c
        · exact .inl rfl
        · exact .inr ⟨rfl, k3 t.1 h3⟩
      · exact .inr ⟨t.1, t.2, hf⟩
end Go.Proofs.Ytpbinnlbfgjjeaa
