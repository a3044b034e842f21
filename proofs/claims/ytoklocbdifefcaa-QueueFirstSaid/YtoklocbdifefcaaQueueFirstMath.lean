/-
  Who stands first in a queue: nobody goes ahead of it, nobody else has its number; who is left when it is taken. Nothing of a translated program is imported.
-/
import Derived.Test.YtoklocbdifefcaaQueueMath
namespace Go.Proofs.Ytoklocbdifefcaa

theorem first_take {l : List It} (h : l ≠ []) : nthL l 0 = l.drop 1 ∧ nthD l 0 = (l.getD 0 i0).d ∧ nthB l = true := by
  have ea : atN l 0 = 0 := by unfold atN; simp
  refine ⟨?_, ?_, ?_⟩
  · unfold nthL ouL; rw [if_neg h, ea]; simp
  · unfold nthD; rw [if_neg h, ea]
  · cases l
    · exact absurd rfl h
    · rfl
theorem first_pair {n : Int} {l : List It} (g : Gd n l) (i : Nat) (h0 : 0 < i) (hi : i < l.length) : (l.getD 0 i0).d ≠ (l.getD i i0).d ∧ ahB (l.getD 0 i0) (l.getD i i0) = true := by
  have := (List.pairwise_iff_getElem.1 g.2) 0 i (by omega) hi h0
  rw [getD_lt hi, getD_lt (show 0 < l.length by omega)]
  exact ⟨this.1, this.2.2⟩
theorem first_ahead {n : Int} {l : List It} (g : Gd n l) (i : Nat) (hi : i < l.length) : ¬ (l.getD 0 i0).p < (l.getD i i0).p ∧ ((l.getD i i0).p = (l.getD 0 i0).p → ¬ (l.getD i i0).t < (l.getD 0 i0).t) := by
  rcases Nat.eq_zero_or_pos i with rfl | h0
  · exact ⟨by omega, fun _ => by omega⟩
  · have := ah_iff.1 (first_pair g i h0 hi).2
    omega
theorem drop_get (l : List It) (i : Nat) (h : i + 1 < l.length) : (l.drop 1).getD i i0 = l.getD (i + 1) i0 := by
  rw [getD_lt h, getD_lt (by simp; omega)]
  simp
end Go.Proofs.Ytoklocbdifefcaa
