/-
  The call of the statement CellDivides answers true at both cells; the world is as it was but for draws.
-/
import Derived.Test.YtpbinnlbfgjjeaaCellDividesWalkA
import Derived.Test.YtpbinnlbfgjjeaaCellDividesWalkB
namespace Go.Proofs.Ytpbinnlbfgjjeaa
open Go.RowKit

set_option maxRecDepth 100000 in
set_option maxHeartbeats 400000 in
theorem cellDivides_bad (a b : Int) (w : World) (ha : InC a)
    (h : ((b == 0) = true ∧ (b != 0) = false ∧ cBad a b = -10) ∨ ((b == 0) = false ∧ (b != 0) = true ∧ (a == -9223372036854775808) = true ∧ (b == -1) = true ∧ cBad a b = -11))
    (h1 : cQ a b = 0) (h2 : cR a b = 0) (h3 : cFq a b = 0) (h4 : cFr a b = 0) :
    Calls Try.prog 4 #[.int .i64 a, .int .i64 b] w fun e w' => e = .returned (.bool true) ∧ Grown w w' := by
  rcases h with ⟨h5, h6, h7⟩ | ⟨h5, h6, h8, h9, h7⟩
  · obtain rfl : b = 0 := by simpa using h5
    clear h5 h6
    go_enter Try.func4, Try.ntmps4
    go_wp2_with (first
      | (go_at_call 10; refine (awake_any _).mono ?_; rintro e w' ⟨rfl, j, rfl⟩)
      | (go_at_call 11; refine (floor_any _ _ ha _).mono ?_; rintro e w' ⟨rfl, k, rfl⟩)
      | (go_at_call 13; refine (symm_any _ _ ha _).mono ?_; rintro e w' ⟨rfl, l, rfl⟩))
    go_ret
    exact ⟨rfl, grown_drewN _ _⟩
  · obtain rfl : b = -1 := by simpa using h9
    obtain rfl : a = -9223372036854775808 := by simpa using h8
    clear h5 h6 h8 h9
    go_enter Try.func4, Try.ntmps4
    go_wp2_with (first
      | (go_at_call 10; refine (awake_any _).mono ?_; rintro e w' ⟨rfl, j, rfl⟩)
      | (go_at_call 11; refine (floor_any _ _ ha _).mono ?_; rintro e w' ⟨rfl, k, rfl⟩)
      | (go_at_call 13; refine (symm_any _ _ ha _).mono ?_; rintro e w' ⟨rfl, l, rfl⟩))
    go_ret
    exact ⟨rfl, grown_drewN _ _⟩

theorem cellDivides_walk (a b : Int) (ha : InC a) (hb : InC b) (w : World) :
    Calls Try.prog 4 #[.int .i64 a, .int .i64 b] w fun e w' => e = .returned (.bool true) ∧ Grown w w' := by
  rcases bad_sym a b with h | ⟨h, h0⟩ | ⟨h, h0, h1⟩
  · obtain ⟨hb0, hn⟩ := bad_ok h
    have s1 := F_sum ha hb h
    have s2 := S_sum ha h
    have r0 : InC (cR a b) := by rw [cR_ok h]; exact tmod_in ha b
    have r1 := R_bound h
    have r2 := R_sign h
    have f1 := F_bound hb h
    have z2 : cFr a b = 0 → (wrap64 (wrap64 (cFq a b * b)) == a) = true := fun e => by rw [e, Int.add_zero] at s1; simpa using s1
    have z3 : cR a b = 0 → (wrap64 (wrap64 (cQ a b * b)) == a) = true := fun e => by rw [e, Int.add_zero] at s2; simpa using s2
    have h4 : (0 < b ∧ 0 ≤ cFr a b ∧ cFr a b < b) ∨ (b < 0 ∧ (cFr a b = 0 ∨ (b < cFr a b ∧ cFr a b < 0))) := by omega
    have h5 : cR a b = 0 ∨ ((cR a b == 0) = false ∧ 0 < cR a b ∧ decide (cR a b < 0) = false ∧ decide (a < 0) = false) ∨ ((cR a b == 0) = false ∧ cR a b < 0 ∧ decide (cR a b < 0) = true ∧ decide (a < 0) = true) := by
      simp only [decide_eq_true_eq, decide_eq_false_iff_not, beq_eq_false_iff_ne]
      omega
    have g : (0 < b → -b < cR a b) ∧ (0 < b → cR a b < b) ∧ (b < 0 → b < cR a b) ∧ (b < 0 → cR a b < -b) := by omega
    by_cases hm : a = -9223372036854775808
    · subst hm
      exact cellDivides_min b w ha h (by simpa using hb0) (by simpa using hn) r0.1 r0.2 hb.1 hb.2 (by simpa using s1) (by simpa using s2) z2 z3 h4 h5 g.1 g.2.1 g.2.2.1 g.2.2.2
    · exact cellDivides_ok a b w ha h (by simpa using hb0) (by simpa using hm) r0.1 r0.2 hb.1 hb.2 (by simpa using s1) (by simpa using s2) z2 z3 h4 h5 g.1 g.2.1 g.2.2.1 g.2.2.2
  · obtain ⟨q1, q2, q3, q4⟩ := QR_bad (a := a) (b := b) (by omega)
    exact cellDivides_bad a b w ha (.inl ⟨by simpa using h0, by simpa using h0, h⟩) q1 q2 q3 q4
  · obtain ⟨q1, q2, q3, q4⟩ := QR_bad (a := a) (b := b) (by omega)
    exact cellDivides_bad a b w ha (.inr ⟨by simp [h1], by simp [h1], by simpa using h0, by simpa using h1, h⟩) q1 q2 q3 q4
end Go.Proofs.Ytpbinnlbfgjjeaa
