/-
  Plain arithmetic of divisions of doubles with signs: what is divided without signs, turned to quotients that are rounded towards 0, and down. Nothing of a translated program is imported.
-/
import Derived.Test.YticeeckahdjjmaaDblDiv
namespace Go.Proofs.Yticeeckahdjjmaa
open Go.RowKit

/-! ### without signs -/
theorem ult_hi (x u : Int) : cUlt (dHi x) u = decide (x % 340282366920938463463374607431768211456 / 18446744073709551616 < u % 18446744073709551616) := by
  rw [cUlt_is, dHi_mod]
  congr 2
  omega
theorem u_pos {u : Int} (hu : InC u) (h : u ≠ 0) : 0 < u % 18446744073709551616 := by unfold InC at hu; omega
theorem u_iff {X U : Int} (hU : 0 < U) : X / 18446744073709551616 < U ↔ X / U < 18446744073709551616 := by
  rw [Int.ediv_lt_iff_lt_mul (by decide), Int.ediv_lt_iff_lt_mul hU, Int.mul_comm]
theorem umod_zero (x : Int) : uE x 0 = -10 ∧ uR x 0 = 0 ∧ uQ x 0 = 0 := by simp [uE, uR, uQ]
theorem umod_far {x u : Int} (hu : InC u) (h0 : u ≠ 0) (h : cUlt (dHi x) u = false) : uE x u = -11 ∧ uR x u = 0 ∧ uQ x u = 0 := by
  have hU := u_pos hu h0
  rw [ult_hi] at h
  have h1 : ¬ x % 340282366920938463463374607431768211456 / (u % 18446744073709551616) < 18446744073709551616 := by rw [← u_iff hU]; simpa using h
  have e : uE x u = -11 := by unfold uE; rw [if_neg h0, if_pos (by omega)]
  simp [uR, uQ, e]
theorem umod_near {x u : Int} (hu : InC u) (h0 : u ≠ 0) (h : cUlt (dHi x) u = true) : uE x u = 0 ∧ uR x u = wrap64 ((x % 340282366920938463463374607431768211456) % (u % 18446744073709551616)) ∧ uQ x u = wrap64 ((x % 340282366920938463463374607431768211456) / (u % 18446744073709551616)) ∧
    x % 340282366920938463463374607431768211456 / 18446744073709551616 < u % 18446744073709551616 ∧ x % 340282366920938463463374607431768211456 / (u % 18446744073709551616) < 18446744073709551616 := by
  have hU := u_pos hu h0
  rw [ult_hi] at h
  have h2 : x % 340282366920938463463374607431768211456 / 18446744073709551616 < u % 18446744073709551616 := by simpa using h
  have h1 := (u_iff hU).1 h2
  have e : uE x u = 0 := by unfold uE; rw [if_neg h0, if_neg (by omega)]
  simp [uR, uQ, e, h1, h2]

/-! ### signs -/
def absZ (x : Int) : Int := if x < 0 then -x else x
def sgI (v : Int) (m : Bool) : Int := if m then -v else v
def sgZ (v : Int) (m : Bool) : Int := if m then wrap64 (-v) else v
theorem absZ_nn (x : Int) : 0 ≤ absZ x := by unfold absZ; split <;> omega
theorem sg_in {n : Int} (hn : InC n) (m : Bool) : InC (sgZ n m) := by unfold sgZ; split; exact wrap64_in _; exact hn
theorem sg_abs {n : Int} (hn : InC n) : sgZ n (decide (n < 0)) % 18446744073709551616 = absZ n := by
  unfold InC at hn; unfold sgZ absZ wrap64
  by_cases h : n < 0 <;> simp [h] <;> omega
theorem sg_zero {n : Int} (hn : InC n) : sgZ n (decide (n < 0)) = 0 ↔ n = 0 := by
  unfold InC at hn; unfold sgZ wrap64
  by_cases h : n < 0 <;> simp [h] <;> omega
theorem abs_T {x : Int} (hx : InD x) : absZ x % 340282366920938463463374607431768211456 = absZ x := by
  unfold InD at hx; unfold absZ; split <;> omega
theorem abs_neg {y : Int} (h : 0 < y) : absZ (-y) = y := by unfold absZ; rw [if_pos (by omega)]; omega
theorem abs_pos {y : Int} (h : 0 ≤ y) : absZ y = y := by unfold absZ; rw [if_neg (by omega)]
theorem abs_div {x n : Int} (hx : 0 ≤ x) : x.tdiv n = sgI (x / absZ n) (decide (n < 0)) ∧ x.tmod n = x % absZ n := by
  by_cases h : n < 0
  · obtain ⟨m, rfl⟩ : ∃ m, n = -m := ⟨-n, by omega⟩
    have hd : decide (-m < 0) = true := decide_eq_true h
    rw [abs_neg (by omega), hd, Int.tdiv_neg, Int.tmod_neg, Int.tdiv_eq_ediv_of_nonneg hx, Int.tmod_eq_emod_of_nonneg hx]
    exact ⟨rfl, rfl⟩
  · have hd : decide (n < 0) = false := decide_eq_false h
    rw [abs_pos (by omega), hd, Int.tdiv_eq_ediv_of_nonneg hx, Int.tmod_eq_emod_of_nonneg hx]
    exact ⟨rfl, rfl⟩
theorem sgI_neg (v : Int) (b : Bool) : -sgI v b = sgI v (true != b) := by cases b <;> simp [sgI]
theorem td_is (x n : Int) : x.tdiv n = sgI (absZ x / absZ n) (decide (x < 0) != decide (n < 0)) ∧ x.tmod n = sgI (absZ x % absZ n) (decide (x < 0)) := by
  by_cases h : x < 0
  · obtain ⟨y, rfl⟩ : ∃ y, x = -y := ⟨-x, by omega⟩
    obtain ⟨h1, h2⟩ := abs_div (x := y) (n := n) (by omega)
    have hd : decide (-y < 0) = true := decide_eq_true h
    rw [Int.neg_tdiv, Int.neg_tmod, h1, h2, abs_neg (by omega), hd, sgI_neg]
    exact ⟨rfl, rfl⟩
  · obtain ⟨h1, h2⟩ := abs_div (x := x) (n := n) (by omega)
    have hd : decide (x < 0) = false := decide_eq_false h
    rw [h1, h2, abs_pos (y := x) (by omega), hd, Bool.false_bne]
    exact ⟨rfl, rfl⟩
theorem symm_zero (x : Int) : sE x 0 = -10 ∧ sR x 0 = 0 ∧ sQ x 0 = 0 := by simp [sE, sR, sQ]
/-- Where the quotient without signs is none, there is none with signs. -/
theorem symm_none {x n : Int} (hx : InD x) (hn : InC n) (h : uE (absZ x) (sgZ n (decide (n < 0))) ≠ 0) : sE x n = uE (absZ x) (sgZ n (decide (n < 0))) ∧ sR x n = 0 ∧ sQ x n = 0 := by
  have key : sE x n = uE (absZ x) (sgZ n (decide (n < 0))) := by
    by_cases h0 : n = 0
    · rw [(sg_zero hn).2 h0, h0, (umod_zero _).1, (symm_zero x).1]
    · have h0' : ¬ sgZ n (decide (n < 0)) = 0 := fun e => h0 ((sg_zero hn).1 e)
      unfold uE at h ⊢
      rw [if_neg h0'] at h ⊢
      rw [sg_abs hn, abs_T hx] at h ⊢
      by_cases h1 : 18446744073709551616 ≤ absZ x / absZ n
      · rw [if_pos h1]
        unfold sE
        rw [if_neg h0, if_neg]
        rw [(td_is x n).1]
        unfold sgI
        split <;> omega
      · rw [if_neg h1] at h; exact absurd rfl h
  rw [key]
  refine ⟨rfl, ?_, ?_⟩
  · unfold sR; rw [key, if_neg h]
  · unfold sQ; rw [key, if_neg h]
theorem symm_some {x n : Int} (hx : InD x) (hn : InC n) (h : uE (absZ x) (sgZ n (decide (n < 0))) = 0) :
    n ≠ 0 ∧ absZ x / absZ n < 18446744073709551616 ∧ uR (absZ x) (sgZ n (decide (n < 0))) = absZ x % absZ n ∧ uQ (absZ x) (sgZ n (decide (n < 0))) = wrap64 (absZ x / absZ n) ∧ 0 ≤ absZ x % absZ n ∧ absZ x % absZ n < absZ n ∧ 0 ≤ absZ x / absZ n := by
  have h0 : n ≠ 0 := by
    intro e
    rw [(sg_zero hn).2 e, (umod_zero _).1] at h
    exact absurd h (by decide)
  have h0' : ¬ sgZ n (decide (n < 0)) = 0 := fun e => h0 ((sg_zero hn).1 e)
  have hA : 0 < absZ n := by unfold absZ; split <;> omega
  have h1 := Int.emod_nonneg (absZ x) (show absZ n ≠ 0 by omega)
  have h2 := Int.emod_lt_of_pos (absZ x) hA
  have h3 := Int.ediv_nonneg (absZ_nn x) (absZ_nn n)
  have h4 : absZ n ≤ 9223372036854775808 := by unfold InC at hn; unfold absZ; split <;> omega
  have e1 : uR (absZ x) (sgZ n (decide (n < 0))) = wrap64 (absZ x % absZ n) := by unfold uR; rw [if_pos h, abs_T hx, sg_abs hn]
  have e2 : uQ (absZ x) (sgZ n (decide (n < 0))) = wrap64 (absZ x / absZ n) := by unfold uQ; rw [if_pos h, abs_T hx, sg_abs hn]
  refine ⟨h0, ?_, ?_, e2, h1, h2, h3⟩
  · unfold uE at h
    rw [if_neg h0', abs_T hx, sg_abs hn] at h
    by_cases h5 : 18446744073709551616 ≤ absZ x / absZ n
    · rw [if_pos h5] at h; exact absurd h (by decide)
    · omega
  · rw [e1]; exact wrap64_id ⟨by omega, by omega⟩
/-- The quotient without signs, with its sign, went round: there is none. -/
theorem symm_round {x n : Int} (hx : InD x) (hn : InC n) (h : uE (absZ x) (sgZ n (decide (n < 0))) = 0)
    (hq : (sgZ (uQ (absZ x) (sgZ n (decide (n < 0)))) (decide (x < 0) != decide (n < 0)) != 0) = true)
    (hs : (decide (sgZ (uQ (absZ x) (sgZ n (decide (n < 0)))) (decide (x < 0) != decide (n < 0)) < 0) != (decide (x < 0) != decide (n < 0))) = true) : sE x n = -11 ∧ sR x n = 0 ∧ sQ x n = 0 := by
  obtain ⟨h0, h1, h2, h3, h4, h5, h6⟩ := symm_some hx hn h
  rw [h3] at hq hs
  have key : sE x n = -11 := by
    unfold sE
    rw [if_neg h0, if_neg]
    rw [(td_is x n).1]
    generalize absZ x / absZ n = N at *
    generalize (decide (x < 0) != decide (n < 0)) = m at *
    unfold sgZ at hq hs
    unfold sgI
    cases m
    · simp at hq hs ⊢
      unfold wrap64 at *; omega
    · simp at hq hs ⊢
      unfold wrap64 at *; omega
  exact ⟨key, by simp [sR, key], by simp [sQ, key]⟩
theorem symm_fits {x n : Int} (hx : InD x) (hn : InC n) (h : uE (absZ x) (sgZ n (decide (n < 0))) = 0)
    (hq : (sgZ (uQ (absZ x) (sgZ n (decide (n < 0)))) (decide (x < 0) != decide (n < 0)) != 0) = false ∨
      (decide (sgZ (uQ (absZ x) (sgZ n (decide (n < 0)))) (decide (x < 0) != decide (n < 0)) < 0) != (decide (x < 0) != decide (n < 0))) = false) :
    sE x n = 0 ∧ sR x n = sgZ (uR (absZ x) (sgZ n (decide (n < 0)))) (decide (x < 0)) ∧ sQ x n = sgZ (uQ (absZ x) (sgZ n (decide (n < 0)))) (decide (x < 0) != decide (n < 0)) := by
  obtain ⟨h0, h1, h2, h3, h4, h5, h6⟩ := symm_some hx hn h
  have hA : absZ n ≤ 9223372036854775808 := by unfold InC at hn; unfold absZ; split <;> omega
  rw [h2]
  rw [h3] at hq ⊢
  have hm : x.tmod n = sgZ (absZ x % absZ n) (decide (x < 0)) := by
    rw [(td_is x n).2]
    unfold sgI sgZ
    split
    · exact (wrap64_id ⟨by omega, by omega⟩).symm
    · rfl
  have hd : x.tdiv n = sgZ (wrap64 (absZ x / absZ n)) (decide (x < 0) != decide (n < 0)) := by
    rw [(td_is x n).1]
    generalize absZ x / absZ n = N at *
    generalize (decide (x < 0) != decide (n < 0)) = m at *
    unfold sgZ at hq ⊢
    unfold sgI
    cases m
    · simp at hq ⊢
      unfold wrap64 at *; omega
    · simp at hq ⊢
      unfold wrap64 at *; omega
  have hin : InC (x.tdiv n) := by rw [hd]; exact sg_in (wrap64_in _) _
  have key : sE x n = 0 := by unfold sE; rw [if_neg h0]; exact if_pos hin
  exact ⟨key, by simp [sR, key, hm], by simp [sQ, key, hd]⟩

/-! ### rounded down -/
theorem fl_unique {x n q r : Int} (e : x = q * n + r) (hp : 0 < n → 0 ≤ r ∧ r < n) (hm : n < 0 → n < r ∧ r ≤ 0) (h0 : n ≠ 0) : x.fdiv n = q ∧ x.fmod n = r := by
  have key : x.fdiv n = q := by
    rcases Int.lt_or_gt_of_ne h0 with h | h
    · obtain ⟨a, b⟩ := hm h
      have e1 : x.fdiv n = (-x).fdiv (-n) := (Int.neg_fdiv_neg x n).symm
      rw [e1, Int.fdiv_eq_ediv_of_nonneg _ (by omega)]
      exact (div_mod_of (Y := -x) (U := -n) (q := q) (r := -r) (by omega) (by rw [Int.mul_neg]; omega) (by omega) (by omega)).1
    · obtain ⟨a, b⟩ := hp h
      rw [Int.fdiv_eq_ediv_of_nonneg _ (by omega)]
      exact (div_mod_of h e a b).1
  refine ⟨key, ?_⟩
  have h1 := Int.mul_fdiv_add_fmod x n
  rw [key, Int.mul_comm] at h1
  omega
theorem td_sum (x n : Int) : x.tdiv n * n + x.tmod n = x := by
  have := Int.mul_tdiv_add_tmod x n
  rw [Int.mul_comm]; exact this
theorem td_bound {x n : Int} (h0 : n ≠ 0) : (0 ≤ x → 0 ≤ x.tmod n) ∧ (x ≤ 0 → x.tmod n ≤ 0) ∧ -absZ n < x.tmod n ∧ x.tmod n < absZ n := by
  have hA : 0 < absZ n := by unfold absZ; split <;> omega
  have h1 := Int.emod_nonneg (absZ x) (show absZ n ≠ 0 by omega)
  have h2 := Int.emod_lt_of_pos (absZ x) hA
  by_cases hx : x = 0
  · subst hx; simp; omega
  · rw [(td_is x n).2]
    unfold sgI
    by_cases h : x < 0 <;> simp [h] <;> omega
theorem floor_zero (x : Int) : fE x 0 = -10 ∧ fR x 0 = 0 ∧ fQ x 0 = 0 := by simp [fE, fR, fQ]
/-- Where nothing is left on the other side, both quotients are one. -/
theorem fl_same {x n : Int} (h0 : n ≠ 0) (h : x.tmod n = 0 ∨ (x.tmod n < 0 ↔ n < 0)) : x.fdiv n = x.tdiv n ∧ x.fmod n = x.tmod n := by
  obtain ⟨b1, b2, b3, b4⟩ := td_bound (x := x) h0
  refine fl_unique (td_sum x n).symm (fun hn => ?_) (fun hn => ?_) h0
  · unfold absZ at b3 b4; rw [if_neg (by omega)] at b3 b4; omega
  · unfold absZ at b3 b4; rw [if_pos hn] at b3 b4; omega
theorem fl_less {x n : Int} (h0 : n ≠ 0) (h : x.tmod n ≠ 0) (h' : ¬ (x.tmod n < 0 ↔ n < 0)) : x.fdiv n = x.tdiv n - 1 ∧ x.fmod n = x.tmod n + n := by
  obtain ⟨b1, b2, b3, b4⟩ := td_bound (x := x) h0
  have hs := td_sum x n
  refine fl_unique (by rw [Int.sub_mul]; omega) (fun hn => ?_) (fun hn => ?_) h0
  · unfold absZ at b3 b4; rw [if_neg (by omega)] at b3 b4; omega
  · unfold absZ at b3 b4; rw [if_pos hn] at b3 b4; omega
theorem s_cases (x n : Int) : (n = 0 ∧ sE x n = -10 ∧ sR x n = 0 ∧ sQ x n = 0) ∨ (n ≠ 0 ∧ InC (x.tdiv n) ∧ sE x n = 0 ∧ sR x n = x.tmod n ∧ sQ x n = x.tdiv n) ∨ (n ≠ 0 ∧ ¬ InC (x.tdiv n) ∧ sE x n = -11 ∧ sR x n = 0 ∧ sQ x n = 0) := by
  by_cases h0 : n = 0
  · subst h0; exact .inl ⟨rfl, symm_zero x⟩
  · by_cases h : InC (x.tdiv n)
    · have e : sE x n = 0 := by unfold sE; rw [if_neg h0]; exact if_pos h
      exact .inr (.inl ⟨h0, h, e, by simp [sR, e], by simp [sQ, e]⟩)
    · have e : sE x n = -11 := by unfold sE; rw [if_neg h0]; exact if_neg h
      exact .inr (.inr ⟨h0, h, e, by simp [sR, e], by simp [sQ, e]⟩)
theorem f_cases (x n : Int) : (n = 0 ∧ fE x n = -10 ∧ fR x n = 0 ∧ fQ x n = 0) ∨ (n ≠ 0 ∧ InC (x.fdiv n) ∧ fE x n = 0 ∧ fR x n = x.fmod n ∧ fQ x n = x.fdiv n) ∨ (n ≠ 0 ∧ ¬ InC (x.fdiv n) ∧ fE x n = -11 ∧ fR x n = 0 ∧ fQ x n = 0) := by
  by_cases h0 : n = 0
  · subst h0; exact .inl ⟨rfl, floor_zero x⟩
  · by_cases h : InC (x.fdiv n)
    · have e : fE x n = 0 := by unfold fE; rw [if_neg h0]; exact if_pos h
      exact .inr (.inl ⟨h0, h, e, by simp [fR, e], by simp [fQ, e]⟩)
    · have e : fE x n = -11 := by unfold fE; rw [if_neg h0]; exact if_neg h
      exact .inr (.inr ⟨h0, h, e, by simp [fR, e], by simp [fQ, e]⟩)
/-- A quotient that is no cell, rounded towards 0, is none rounded down. -/
theorem far_far {x n : Int} (h0 : n ≠ 0) (h : ¬ InC (x.tdiv n)) : ¬ InC (x.fdiv n) := by
  by_cases hr : x.tmod n = 0 ∨ (x.tmod n < 0 ↔ n < 0)
  · rw [(fl_same h0 hr).1]; exact h
  · rw [(fl_less h0 (fun e => hr (.inl e)) (fun e => hr (.inr e))).1]
    have hA : 0 ≤ absZ x / absZ n := Int.ediv_nonneg (absZ_nn x) (absZ_nn n)
    have hb := td_bound (x := x) h0
    have hd := (td_is x n).1
    have hneg : x.tdiv n ≤ 0 := by
      rw [hd]
      unfold sgI
      by_cases hx : x < 0 <;> by_cases hn : n < 0 <;> simp [hx, hn] <;> omega
    unfold InC at *
    omega
theorem floor_same {x n : Int} (h : (sR x n == 0) = true ∨ (decide (sR x n < 0) == decide (n < 0)) = true) : fE x n = sE x n ∧ fR x n = sR x n ∧ fQ x n = sQ x n := by
  rcases s_cases x n with ⟨rfl, a, b, c⟩ | ⟨h0, hi, a, b, c⟩ | ⟨h0, hi, a, b, c⟩
  · rw [a, b, c]; exact floor_zero x
  · rw [b] at h
    have hr : x.tmod n = 0 ∨ (x.tmod n < 0 ↔ n < 0) := by simpa using h
    obtain ⟨e1, e2⟩ := fl_same h0 hr
    rcases f_cases x n with ⟨e, _⟩ | ⟨_, _, d, e, f⟩ | ⟨_, hj, _⟩
    · exact absurd e h0
    · rw [a, b, c, d, e, f, e1, e2]; exact ⟨rfl, rfl, rfl⟩
    · rw [e1] at hj; exact absurd hi hj
  · rcases f_cases x n with ⟨e, _⟩ | ⟨_, hj, _⟩ | ⟨_, _, d, e, f⟩
    · exact absurd e h0
    · exact absurd hj (far_far h0 hi)
    · rw [a, b, c, d, e, f]; exact ⟨rfl, rfl, rfl⟩
theorem floor_less {x n : Int} (hn : InC n) (h1 : (sR x n == 0) = false) (h2 : (decide (sR x n < 0) == decide (n < 0)) = false) :
    sE x n = 0 ∧ ((sQ x n == -9223372036854775808) = true → fE x n = -11 ∧ fR x n = 0 ∧ fQ x n = 0) ∧ ((sQ x n == -9223372036854775808) = false → fE x n = 0 ∧ fR x n = wrap64 (sR x n + n) ∧ fQ x n = wrap64 (sQ x n - 1)) := by
  rcases s_cases x n with ⟨_, _, b, _⟩ | ⟨h0, hi, a, b, c⟩ | ⟨_, _, _, b, _⟩
  · rw [b] at h1; exact absurd h1 (by decide)
  · rw [b] at h1 h2
    have hr : x.tmod n ≠ 0 := by simpa using h1
    have hr' : ¬ (x.tmod n < 0 ↔ n < 0) := by
      intro e; have : decide (x.tmod n < 0) = decide (n < 0) := by simp [e]
      rw [this] at h2; simp at h2
    obtain ⟨e1, e2⟩ := fl_less h0 hr hr'
    obtain ⟨b1, b2, b3, b4⟩ := td_bound (x := x) h0
    have hA : absZ n ≤ 9223372036854775808 := by unfold InC at hn; unfold absZ; split <;> omega
    refine ⟨a, fun hm => ?_, fun hm => ?_⟩
    · rw [c] at hm
      have hm' : x.tdiv n = -9223372036854775808 := by simpa using hm
      rcases f_cases x n with ⟨e, _⟩ | ⟨_, hj, _⟩ | ⟨_, _, d, e, f⟩
      · exact absurd e h0
      · rw [e1, hm'] at hj; unfold InC at hj; omega
      · exact ⟨d, e, f⟩
    · rw [c] at hm
      have hm' : ¬ x.tdiv n = -9223372036854775808 := by simpa using hm
      rcases f_cases x n with ⟨e, _⟩ | ⟨_, hj, d, e, f⟩ | ⟨_, hj, _⟩
      · exact absurd e h0
      · rw [b, c, d, e, f, e1, e2]
        refine ⟨rfl, (wrap64_id ?_).symm, (wrap64_id ?_).symm⟩
        · unfold InC at hn ⊢
          rcases Int.lt_or_gt_of_ne h0 with hq | hq
          · unfold absZ at b3 b4; rw [if_pos hq] at b3 b4; omega
          · unfold absZ at b3 b4; rw [if_neg (by omega)] at b3 b4; omega
        · rw [e1] at hj; exact hj
      · rw [e1] at hj; unfold InC at hi hj; omega
  · rw [b] at h1; exact absurd h1 (by decide)
end Go.Proofs.Yticeeckahdjjmaa
