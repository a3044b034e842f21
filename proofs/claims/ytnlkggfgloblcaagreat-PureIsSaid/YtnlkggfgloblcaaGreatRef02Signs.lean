/-
  Plain facts on how the document divides with signs: the quotient of the sizes, its sign, and whether it is a cell. Nothing of a translated program is walked here.
-/
import Derived.Test.YtnlkggfgloblcaaGreatDblLaws
namespace Go.Proofs.YtnlkggfgloblcaaGreat
open Go.RowKit

theorem abs_sgI {x : Int} {s : Bool} (hs : decide (x < 0) = s) : sgI x s = absZ x := by
  subst hs; unfold sgI absZ; simp
/-- The parts of a division with signs: N is the quotient of the sizes, R what is left of them. -/
structure Signs (x n : Int) (s t : Bool) (N R : Int) : Prop where
  eN : sgI x s % 340282366920938463463374607431768211456 / (sgZ n t % 18446744073709551616) = N
  eR : sgI x s % 340282366920938463463374607431768211456 % (sgZ n t % 18446744073709551616) = R
  n0 : 0 ≤ N
  n1 : N ≤ 170141183460469231731687303715884105728
  r0 : 0 ≤ R
  r1 : R ≤ 9223372036854775807
  td : x.tdiv n = sgI N (s != t)
  tm : x.tmod n = sgI R s
  far : R ≠ 0 → N ≤ 85070591730234615865843651857942052864
theorem signs_of {x n : Int} (hx : InD x) (hn : InC n) (h0 : n ≠ 0) (s t : Bool) (hs : decide (x < 0) = s) (ht : decide (n < 0) = t) : ∃ N R, Signs x n s t N R := by
  have e1 : sgI x s = absZ x := abs_sgI hs
  have e2 : sgZ n t % 18446744073709551616 = absZ n := by subst ht; exact sg_abs hn
  have e3 := abs_T hx
  have hA : 0 < absZ n := by unfold absZ; split <;> omega
  have hA2 := abs_cell hn
  have hX : absZ x ≤ 170141183460469231731687303715884105728 := by unfold InD at hx; unfold absZ; split <;> omega
  have h1 := Int.emod_nonneg (absZ x) (show absZ n ≠ 0 by omega)
  have h2 := Int.emod_lt_of_pos (absZ x) hA
  have h3 := Int.ediv_nonneg (absZ_nn x) (absZ_nn n)
  have h4 : absZ x / absZ n ≤ absZ x := Int.ediv_le_self _ (absZ_nn x)
  refine ⟨absZ x / absZ n, absZ x % absZ n, by rw [e1, e2, e3], by rw [e1, e2, e3], h3, by omega, h1, by omega, ?_, ?_, fun hr => ?_⟩
  · rw [(td_is x n).1, hs, ht]
  · rw [(td_is x n).2, hs]
  · have hn2 : 2 ≤ absZ n := by
      rcases (show absZ n = 1 ∨ 2 ≤ absZ n by omega) with h | h
      · rw [h, Int.emod_one] at hr; exact absurd rfl hr
      · exact h
    have h5 := Int.mul_ediv_add_emod (absZ x) (absZ n)
    have h6 : 2 * (absZ x / absZ n) ≤ absZ n * (absZ x / absZ n) := Int.mul_le_mul_of_nonneg_right hn2 h3
    omega
/-- A double is a cell's just if its low cell's double is it. -/
theorem cell_is {V : Int} (h : InD V) : (dHi V == dHi (dLo V)) = decide (-9223372036854775808 ≤ V ∧ V ≤ 9223372036854775807) := by
  rw [dHi_is h, dHi_cell (dLo_in V)]
  unfold InD at h
  unfold dLo wrap64
  rw [Bool.eq_iff_iff]
  simp
  split <;> omega
theorem dLo_dLo (V : Int) : dLo (dLo V) = dLo V := dLo_cell (dLo_in V)
theorem hi_far {N : Int} (h0 : 0 ≤ N) (h1 : N ≤ 170141183460469231731687303715884105728) : decide (dHi N < 0) = decide (170141183460469231731687303715884105728 ≤ N) := by
  unfold dHi wrap64
  congr 1; rw [eq_iff_iff]; omega
theorem s_none {x n : Int} (h0 : n ≠ 0) (h : ¬ InC (x.tdiv n)) : sE x n = -11 ∧ sR x n = 0 ∧ sQ x n = 0 := by
  rcases s_cases x n with ⟨e, _⟩ | ⟨_, hi, _⟩ | ⟨_, _, a, b, c⟩
  · exact absurd e h0
  · exact absurd hi h
  · exact ⟨a, b, c⟩
theorem s_some {x n : Int} (h0 : n ≠ 0) (h : InC (x.tdiv n)) : sE x n = 0 ∧ sR x n = x.tmod n ∧ sQ x n = x.tdiv n := by
  rcases s_cases x n with ⟨e, _⟩ | ⟨_, _, a, b, c⟩ | ⟨_, hi, _⟩
  · exact absurd e h0
  · exact ⟨a, b, c⟩
  · exact absurd h hi
theorem f_none {x n : Int} (h0 : n ≠ 0) (h : ¬ InC (x.fdiv n)) : fE x n = -11 ∧ fR x n = 0 ∧ fQ x n = 0 := by
  rcases f_cases x n with ⟨e, _⟩ | ⟨_, hi, _⟩ | ⟨_, _, a, b, c⟩
  · exact absurd e h0
  · exact absurd hi h
  · exact ⟨a, b, c⟩
theorem f_some {x n : Int} (h0 : n ≠ 0) (h : InC (x.fdiv n)) : fE x n = 0 ∧ fR x n = x.fmod n ∧ fQ x n = x.fdiv n := by
  rcases f_cases x n with ⟨e, _⟩ | ⟨_, _, a, b, c⟩ | ⟨_, hi, _⟩
  · exact absurd e h0
  · exact ⟨a, b, c⟩
  · exact absurd h hi
/-- The ways through the document's Symm, behind the quotient of the sizes: V is the quotient with its sign. -/
def RSymmWay (x n : Int) (s m : Bool) (N R : Int) : Prop :=
  (m = false ∧ decide (dHi N < 0) = true ∧ Hid (sE x n = -11 ∧ sR x n = 0 ∧ sQ x n = 0)) ∨
  ((m = false → decide (dHi N < 0) = false) ∧ (dHi (sgI N m) == dHi (dLo (sgI N m))) = false ∧ Hid (sE x n = -11 ∧ sR x n = 0 ∧ sQ x n = 0)) ∨
  ((m = false → decide (dHi N < 0) = false) ∧ dHi (dLo (sgI N m)) = dHi (sgI N m) ∧ Hid (sE x n = 0 ∧ sR x n = sgZ R s ∧ sQ x n = dLo (sgI N m)))
theorem rsymm_way {x n : Int} (h0 : n ≠ 0) {s t : Bool} {N R : Int} (S : Signs x n s t N R) : RSymmWay x n s (s != t) N R := by
  have hV : (s != t) = true → InD (sgI N (s != t)) := fun e => by rw [e]; have := S.n0; have := S.n1; unfold sgI InD; simp; omega
  generalize hm : (s != t) = m at hV
  have htd : x.tdiv n = sgI N m := by rw [S.td, hm]
  by_cases hf : m = false ∧ 170141183460469231731687303715884105728 ≤ N
  · refine .inl ⟨hf.1, by rw [hi_far S.n0 S.n1]; simpa using hf.2, s_none h0 ?_⟩
    rw [htd, hf.1]; unfold sgI InC; simp; omega
  · have hIn : InD (sgI N m) := by
      cases hm' : m
      · have := S.n0; have := S.n1
        unfold sgI InD; simp
        rw [hm'] at hf; simp at hf; omega
      · rw [← hm']; exact hV hm'
    have hlow : m = false → decide (dHi N < 0) = false := fun e => by rw [hi_far S.n0 S.n1]; simp; rw [e] at hf; simp at hf; omega
    have hc := cell_is hIn
    by_cases hi : InC (sgI N m)
    · have hc' : dHi (sgI N m) = dHi (dLo (sgI N m)) := by
        have e : decide (-9223372036854775808 ≤ sgI N m ∧ sgI N m ≤ 9223372036854775807) = true := decide_eq_true hi
        rw [e] at hc; simpa using hc
      refine .inr (.inr ⟨hlow, hc'.symm, ?_⟩)
      have hsm := s_some (x := x) h0 (by rw [htd]; exact hi)
      refine ⟨hsm.1, ?_, ?_⟩
      · rw [hsm.2.1, S.tm]; have := S.r0; have := S.r1
        unfold sgI sgZ; split
        · exact (wrap64_id ⟨by omega, by omega⟩).symm
        · rfl
      · rw [hsm.2.2, htd, dLo_cell hi]
    · refine .inr (.inl ⟨hlow, ?_, s_none h0 (by rw [htd]; exact hi)⟩)
      have e : decide (-9223372036854775808 ≤ sgI N m ∧ sgI N m ≤ 9223372036854775807) = false := decide_eq_false hi
      rw [hc, e]
end Go.Proofs.YtnlkggfgloblcaaGreat
