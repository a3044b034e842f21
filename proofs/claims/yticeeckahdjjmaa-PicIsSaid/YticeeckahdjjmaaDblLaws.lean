/-
  Plain facts on doubles that the statements of layer 2 ask for: order, products, quotients that are made again, quotients of cells. Nothing of a translated program is walked here.
-/
import Derived.Test.YticeeckahdjjmaaDblSymm
namespace Go.Proofs.Yticeeckahdjjmaa
open Go.RowKit

/-! ### order -/
theorem cmp_back (x y : Int) : (dCmp x y != wrap64 (-dCmp y x)) = false := by
  unfold dCmp wrap64
  by_cases h : x < y
  · have h2 : ¬ y < x := by omega
    simp [h, h2]
  · by_cases h2 : y < x <;> simp [h, h2]
theorem cmp_eq0 {x y : Int} (h : x = y) : (dCmp x y == 0) = true := by subst h; simp [dCmp]
theorem cmp_ne0 {x y : Int} (h : ¬ x = y) : (dCmp x y == 0) = false := by
  unfold dCmp
  by_cases h1 : x < y
  · simp [h1]
  · have h2 : y < x := by omega
    simp [h1, h2]
theorem cmp_le {x y : Int} (h : x ≤ y) : decide (dCmp x y ≤ 0) = true := by
  unfold dCmp
  by_cases h1 : x < y
  · simp [h1]
  · have h2 : ¬ y < x := by omega
    simp [h1, h2]
theorem cmp_gt {x y : Int} (h : y < x) : decide (dCmp x y ≤ 0) = false := by
  have h1 : ¬ x < y := by omega
  simp [dCmp, h, h1]
theorem cmp_not {x y : Int} (h : x ≤ y) : decide (0 < dCmp x y) = false := by
  unfold dCmp
  by_cases h1 : x < y
  · simp [h1]
  · have h2 : ¬ y < x := by omega
    simp [h1, h2]
theorem cmp_lt (x y : Int) : decide (dCmp x y < 0) = decide (x < y) := by
  unfold dCmp
  by_cases h1 : x < y
  · simp [h1]
  · by_cases h2 : y < x <;> simp [h1, h2]
theorem cmp_lt' (x y : Int) : decide (0 < dCmp x y) = decide (y < x) := by
  unfold dCmp
  by_cases h1 : x < y
  · have h2 : ¬ y < x := by omega
    simp [h1, h2]
  · by_cases h2 : y < x <;> simp [h1, h2]
theorem d_ne {x y : Int} (hx : InD x) (hy : InD y) (h : ¬ x = y) : (dLo x == dLo y) = false ∨ ((dLo x == dLo y) = true ∧ (dHi x == dHi y) = false) := by
  by_cases h1 : dLo x = dLo y
  · refine .inr ⟨by simpa using h1, ?_⟩
    have : ¬ dHi x = dHi y := fun h2 => h (d_eqv hx hy h1 h2)
    simpa using this
  · exact .inl (by simpa using h1)

/-! ### products -/
theorem uProd_comm (a b : Int) : uProd b a = uProd a b := by unfold uProd; exact Int.mul_comm _ _
theorem prod_symm {a b : Int} (ha : InC a) (h0 : b ≠ 0) : sR (a * b) b = 0 ∧ sQ (a * b) b = a ∧ sE (a * b) b = 0 := by
  have e1 : (a * b).tdiv b = a := Int.mul_tdiv_cancel a h0
  have e2 : (a * b).tmod b = 0 := Int.mul_tmod_left a b
  rcases s_cases (a * b) b with ⟨h, _⟩ | ⟨_, _, a', b', c'⟩ | ⟨_, h, _⟩
  · exact absurd h h0
  · rw [a', b', c', e1, e2]; exact ⟨rfl, rfl, rfl⟩
  · rw [e1] at h; exact absurd ha h
theorem prod_floor {a b : Int} (ha : InC a) (h0 : b ≠ 0) : fR (a * b) b = 0 ∧ fQ (a * b) b = a ∧ fE (a * b) b = 0 := by
  obtain ⟨s1, s2, s3⟩ := prod_symm ha h0
  obtain ⟨f1, f2, f3⟩ := floor_same (x := a * b) (n := b) (.inl (by simp [s1]))
  rw [f1, f2, f3]; exact ⟨s1, s2, s3⟩
theorem uProd_T (a b : Int) : uProd a b % 340282366920938463463374607431768211456 = uProd a b := by
  unfold uProd
  have h1 : 0 ≤ (a % 18446744073709551616) * (b % 18446744073709551616) := Int.mul_nonneg (by omega) (by omega)
  have h2 : (a % 18446744073709551616) * (b % 18446744073709551616) ≤ 18446744073709551615 * 18446744073709551615 := Int.mul_le_mul (by omega) (by omega) (by omega) (by omega)
  omega
theorem prod_umod {a b : Int} (ha : InC a) (hb : InC b) (h0 : b ≠ 0) : uR (uProd a b) b = 0 ∧ uQ (uProd a b) b = a ∧ uE (uProd a b) b = 0 := by
  have hU := u_pos hb h0
  have e1 : uProd a b / (b % 18446744073709551616) = a % 18446744073709551616 := by unfold uProd; exact Int.mul_ediv_cancel _ (by omega)
  have e2 : uProd a b % (b % 18446744073709551616) = 0 := by unfold uProd; exact Int.mul_emod_left _ _
  have e : uE (uProd a b) b = 0 := by unfold uE; rw [if_neg h0, uProd_T, e1, if_neg (by omega)]
  refine ⟨?_, ?_, e⟩
  · unfold uR; rw [if_pos e, uProd_T, e2]; simp [wrap64]
  · unfold uQ; rw [if_pos e, uProd_T, e1]
    unfold InC at ha
    unfold wrap64; omega

/-! ### made again -/
theorem u_again {x n : Int} (hn : InC n) (h : uE x n = 0) : (uProd (uQ x n) n + uR x n % 18446744073709551616) % 340282366920938463463374607431768211456 = x % 340282366920938463463374607431768211456 ∧ cUlt (uR x n) n = true ∧ InC (uR x n) ∧ n ≠ 0 := by
  have h0 : n ≠ 0 := by intro e; rw [e, (umod_zero x).1] at h; exact absurd h (by decide)
  have hU := u_pos hn h0
  have hr0 := Int.emod_nonneg (x % 340282366920938463463374607431768211456) (show n % 18446744073709551616 ≠ 0 by omega)
  have hr1 := Int.emod_lt_of_pos (x % 340282366920938463463374607431768211456) hU
  have hq0 := Int.ediv_nonneg (show 0 ≤ x % 340282366920938463463374607431768211456 by omega) (show 0 ≤ n % 18446744073709551616 by omega)
  have hq1 : x % 340282366920938463463374607431768211456 / (n % 18446744073709551616) < 18446744073709551616 := by
    unfold uE at h
    rw [if_neg h0] at h
    by_cases h5 : 18446744073709551616 ≤ x % 340282366920938463463374607431768211456 / (n % 18446744073709551616)
    · rw [if_pos h5] at h; exact absurd h (by decide)
    · omega
  have hs := Int.mul_ediv_add_emod (x % 340282366920938463463374607431768211456) (n % 18446744073709551616)
  have e1 : uR x n = wrap64 (x % 340282366920938463463374607431768211456 % (n % 18446744073709551616)) := by unfold uR; rw [if_pos h]
  have e2 : uQ x n = wrap64 (x % 340282366920938463463374607431768211456 / (n % 18446744073709551616)) := by unfold uQ; rw [if_pos h]
  have e3 : uR x n % 18446744073709551616 = x % 340282366920938463463374607431768211456 % (n % 18446744073709551616) := by
    rw [e1, wrap64_emod]; omega
  have e4 : uQ x n % 18446744073709551616 = x % 340282366920938463463374607431768211456 / (n % 18446744073709551616) := by
    rw [e2, wrap64_emod]; omega
  refine ⟨?_, ?_, ?_, h0⟩
  · unfold uProd
    rw [e3, e4, Int.mul_comm, hs]; omega
  · rw [cUlt_is, e3]; simpa using hr1
  · rw [e1]; exact wrap64_in _
theorem abs_cell {n : Int} (hn : InC n) : absZ n ≤ 9223372036854775808 := by unfold InC at hn; unfold absZ; split <;> omega
theorem s_again {x n : Int} (hn : InC n) (h : sE x n = 0) : sQ x n * n + sR x n = x ∧ InC (sQ x n) ∧ InC (sR x n) ∧ ((sR x n == 0) = true ∨ (sR x n == 0) = false ∧ decide (sR x n < 0) = decide (x < 0)) := by
  rcases s_cases x n with ⟨_, a, _⟩ | ⟨h0, hi, a, b, c⟩ | ⟨_, _, a, _⟩
  · rw [a] at h; exact absurd h (by decide)
  · obtain ⟨b1, b2, b3, b4⟩ := td_bound (x := x) h0
    have hA := abs_cell hn
    rw [b, c]
    refine ⟨td_sum x n, hi, ⟨by omega, by omega⟩, ?_⟩
    by_cases hz : x.tmod n = 0
    · exact .inl (by simpa using hz)
    · refine .inr ⟨by simpa using hz, ?_⟩
      congr 1
      rw [eq_iff_iff]
      omega
  · rw [a] at h; exact absurd h (by decide)
theorem fl_sum (x n : Int) : x.fdiv n * n + x.fmod n = x := by
  have := Int.mul_fdiv_add_fmod x n
  rw [Int.mul_comm]; exact this
theorem fl_bound {x n : Int} (h0 : n ≠ 0) : (0 < n → 0 ≤ x.fmod n ∧ x.fmod n < n) ∧ (n < 0 → n < x.fmod n ∧ x.fmod n ≤ 0) := by
  obtain ⟨b1, b2, b3, b4⟩ := td_bound (x := x) h0
  unfold absZ at b3 b4
  by_cases h : x.tmod n = 0 ∨ (x.tmod n < 0 ↔ n < 0)
  · rw [(fl_same h0 h).2]
    constructor
    · intro hn; rw [if_neg (by omega)] at b3 b4; omega
    · intro hn; rw [if_pos hn] at b3 b4; omega
  · rw [(fl_less h0 (fun e => h (.inl e)) (fun e => h (.inr e))).2]
    constructor
    · intro hn; rw [if_neg (by omega)] at b3 b4; omega
    · intro hn; rw [if_pos hn] at b3 b4; omega
theorem f_again {x n : Int} (hn : InC n) (h : fE x n = 0) : fQ x n * n + fR x n = x ∧ InC (fQ x n) ∧ InC (fR x n) ∧ ((fR x n == 0) = true ∨ (fR x n == 0) = false ∧ decide (fR x n < 0) = decide (n < 0)) := by
  rcases f_cases x n with ⟨_, a, _⟩ | ⟨h0, hi, a, b, c⟩ | ⟨_, _, a, _⟩
  · rw [a] at h; exact absurd h (by decide)
  · obtain ⟨b1, b2⟩ := fl_bound (x := x) h0
    rw [b, c]
    refine ⟨fl_sum x n, hi, ?_, ?_⟩
    · unfold InC at hn ⊢; omega
    · by_cases hz : x.fmod n = 0
      · exact .inl (by simpa using hz)
      · refine .inr ⟨by simpa using hz, ?_⟩
        congr 1
        rw [eq_iff_iff]
        omega
  · rw [a] at h; exact absurd h (by decide)
/-- Both are told, or none, or they are one apart at the end. -/
theorem sf_cases (x n : Int) : (n = 0 ∧ sE x n = -10 ∧ fE x n = -10) ∨ (n ≠ 0 ∧ sE x n = 0 ∧ fE x n = 0 ∧ (sQ x n = fQ x n ∨ sQ x n = fQ x n + 1) ∧ InC (sQ x n) ∧ InC (fQ x n)) ∨ (n ≠ 0 ∧ sE x n = 0 ∧ fE x n = -11 ∧ sQ x n = -9223372036854775808 ∧ fR x n = 0) ∨ (n ≠ 0 ∧ sE x n = -11 ∧ fE x n = -11 ∧ sR x n = 0 ∧ fR x n = 0) := by
  rcases s_cases x n with ⟨h0, a, _⟩ | ⟨h0, hi, a, b, c⟩ | ⟨h0, hi, a, b, c⟩
  · subst h0; exact .inl ⟨rfl, a, (floor_zero x).1⟩
  · have hd : x.fdiv n = x.tdiv n ∨ x.fdiv n = x.tdiv n - 1 := by
      by_cases h : x.tmod n = 0 ∨ (x.tmod n < 0 ↔ n < 0)
      · exact .inl (fl_same h0 h).1
      · exact .inr (fl_less h0 (fun e => h (.inl e)) (fun e => h (.inr e))).1
    rcases f_cases x n with ⟨e, _⟩ | ⟨_, hj, d, e, f⟩ | ⟨_, hj, d, e, f⟩
    · exact absurd e h0
    · rw [c, f]
      refine .inr (.inl ⟨h0, a, d, ?_, hi, hj⟩)
      omega
    · rw [c]
      refine .inr (.inr (.inl ⟨h0, a, d, ?_, e⟩))
      unfold InC at hi hj
      omega
  · rcases f_cases x n with ⟨e, _⟩ | ⟨_, hj, _⟩ | ⟨_, _, d, e, f⟩
    · exact absurd e h0
    · exact absurd hj (far_far h0 hi)
    · exact .inr (.inr (.inr ⟨h0, a, d, b, e⟩))
/-! ### cells -/
theorem cell_symm {a n : Int} (ha : InC a) : sE a n = cBad a n ∧ sR a n = cR a n ∧ sQ a n = cQ a n := by
  rcases bad_sym a n with h | ⟨h, rfl⟩ | ⟨h, rfl, rfl⟩
  · obtain ⟨h0, _⟩ := bad_ok h
    rcases s_cases a n with ⟨e, _⟩ | ⟨_, _, d, e, f⟩ | ⟨_, hj, _⟩
    · exact absurd e h0
    · rw [d, e, f, h, cQ_ok h, cR_ok h]; exact ⟨rfl, rfl, rfl⟩
    · exact absurd (tdiv_in ha h) hj
  · obtain ⟨q1, q2, _⟩ := QR_bad (a := a) (b := 0) (by rw [h]; decide)
    rw [h, q1, q2]; exact symm_zero a
  · obtain ⟨q1, q2, _⟩ := QR_bad (a := -9223372036854775808) (b := -1) (by rw [h]; decide)
    rw [h, q1, q2]; decide
theorem cell_floor {a n : Int} (ha : InC a) (hn : InC n) : fE a n = cBad a n ∧ fR a n = cFr a n ∧ fQ a n = cFq a n := by
  obtain ⟨s1, s2, s3⟩ := cell_symm (n := n) ha
  cases h1 : (sR a n == 0)
  · cases h2 : (decide (sR a n < 0) == decide (n < 0))
    · obtain ⟨e0, e1, e2⟩ := floor_less hn h1 h2
      have hu : cUp a n = true := by
        unfold cUp
        rw [← s2]
        have h1' : ¬ sR a n = 0 := by simpa using h1
        have h2' : ¬ (sR a n < 0 ↔ n < 0) := by
          intro e; have : decide (sR a n < 0) = decide (n < 0) := by simp [e]
          rw [this] at h2; simp at h2
        simp [h1', h2']
      have h3 : (sQ a n == -9223372036854775808) = false := by
        rcases s_cases a n with ⟨_, a', _⟩ | ⟨h0, hi, a', b, c⟩ | ⟨_, _, a', _⟩
        · rw [a'] at e0; exact absurd e0 (by decide)
        · rw [c]
          rw [b] at h1
          have h1' : ¬ a.tmod n = 0 := by simpa using h1
          have hs := td_sum a n
          obtain ⟨b1, b2, b3, b4⟩ := td_bound (x := a) h0
          have : ¬ a.tdiv n = -9223372036854775808 := by
            intro e
            rw [e] at hs
            unfold absZ at b3 b4
            unfold InC at ha
            by_cases hq : n < 0
            · rw [if_pos hq] at b3 b4; omega
            · rw [if_neg hq] at b3 b4; omega
          simpa using this
        · rw [a'] at e0; exact absurd e0 (by decide)
      obtain ⟨g1, g2, g3⟩ := e2 h3
      rw [g1, g2, g3, ← s1, e0, s2, s3]
      unfold cFr cFq
      rw [hu]
      exact ⟨rfl, rfl, rfl⟩
    · obtain ⟨g1, g2, g3⟩ := floor_same (x := a) (n := n) (.inr h2)
      have hu : cUp a n = false := by
        unfold cUp
        rw [← s2]
        have h2' : (sR a n < 0 ↔ n < 0) := by simpa using h2
        simp [h2']
      rw [g1, g2, g3, s1, s2, s3]
      unfold cFr cFq
      rw [hu]
      exact ⟨rfl, rfl, rfl⟩
  · obtain ⟨g1, g2, g3⟩ := floor_same (x := a) (n := n) (.inl h1)
    have hu : cUp a n = false := by
      unfold cUp
      rw [← s2]
      have h1' : sR a n = 0 := by simpa using h1
      simp [h1']
    rw [g1, g2, g3, s1, s2, s3]
    unfold cFr cFq
    rw [hu]
    exact ⟨rfl, rfl, rfl⟩
end Go.Proofs.Yticeeckahdjjmaa
