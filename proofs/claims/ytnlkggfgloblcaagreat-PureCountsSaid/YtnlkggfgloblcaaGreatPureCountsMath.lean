/-
  Plain facts for PureCounts: as many are left as it is said.
-/
import Derived.Test.YtnlkggfgloblcaaGreatPureLaws
namespace Go.Proofs.YtnlkggfgloblcaaGreat
open Go.RowKit

theorem puE_host {k : Nat} (h1 : 18 ≤ k) (h2 : k ≤ 74) (l x : List Int) : puE k l x ≠ -21 := by
  by_cases hk : k = 31
  · subst hk
    rw [puE_roll]
    unfold pickE
    split <;> decide
  · rw [puE_lay hk]
    have hT : puT k l x ≠ -21 := by
      unfold puT
      generalize x.getD 0 0 = a
      generalize x.getD 1 0 = b
      generalize x.getD 2 0 = c
      generalize x.getD 3 0 = d
      rcases op_split k h1 h2 with rfl | rfl | rfl | rfl | rfl | rfl | rfl | rfl | rfl | rfl | rfl | rfl | rfl | rfl | rfl | rfl | rfl | rfl | rfl | rfl | rfl | rfl | rfl | rfl | rfl | rfl | rfl | rfl | rfl | rfl | rfl | rfl | rfl | rfl | rfl | rfl | rfl | rfl | rfl | rfl | rfl | rfl | rfl | rfl | rfl | rfl | rfl | rfl | rfl | rfl | rfl | rfl | rfl | rfl | rfl | rfl | rfl
      · show (0 : Int) ≠ -21; decide
      · show (0 : Int) ≠ -21; decide
      · show (0 : Int) ≠ -21; decide
      · show (0 : Int) ≠ -21; decide
      · show (0 : Int) ≠ -21; decide
      · show (0 : Int) ≠ -21; decide
      · show (0 : Int) ≠ -21; decide
      · show (0 : Int) ≠ -21; decide
      · show (0 : Int) ≠ -21; decide
      · show (0 : Int) ≠ -21; decide
      · show (0 : Int) ≠ -21; decide
      · show (0 : Int) ≠ -21; decide
      · show pickE l.length a ≠ -21
        unfold pickE
        split
        · decide
        · decide
      · show (0 : Int) ≠ -21; decide
      · show (0 : Int) ≠ -21; decide
      · show (0 : Int) ≠ -21; decide
      · show (0 : Int) ≠ -21; decide
      · show (0 : Int) ≠ -21; decide
      · show cBad a b ≠ -21
        unfold cBad
        split
        · decide
        · split <;> decide
      · show cBad a b ≠ -21
        unfold cBad
        split
        · decide
        · split <;> decide
      · show cBad a b ≠ -21
        unfold cBad
        split
        · decide
        · split <;> decide
      · show fE (a * b) c ≠ -21
        unfold fE
        split
        · decide
        · split <;> decide
      · show fE (a * b) c ≠ -21
        unfold fE
        split
        · decide
        · split <;> decide
      · show (0 : Int) ≠ -21; decide
      · show (0 : Int) ≠ -21; decide
      · show (0 : Int) ≠ -21; decide
      · show (0 : Int) ≠ -21; decide
      · show (0 : Int) ≠ -21; decide
      · show (0 : Int) ≠ -21; decide
      · show (0 : Int) ≠ -21; decide
      · show (0 : Int) ≠ -21; decide
      · show (0 : Int) ≠ -21; decide
      · show (0 : Int) ≠ -21; decide
      · show (0 : Int) ≠ -21; decide
      · show (0 : Int) ≠ -21; decide
      · show (0 : Int) ≠ -21; decide
      · show (0 : Int) ≠ -21; decide
      · show (0 : Int) ≠ -21; decide
      · show (0 : Int) ≠ -21; decide
      · show (0 : Int) ≠ -21; decide
      · show (0 : Int) ≠ -21; decide
      · show (0 : Int) ≠ -21; decide
      · show (0 : Int) ≠ -21; decide
      · show (0 : Int) ≠ -21; decide
      · show (0 : Int) ≠ -21; decide
      · show (0 : Int) ≠ -21; decide
      · show (0 : Int) ≠ -21; decide
      · show uE (dV a b) c ≠ -21
        unfold uE
        split
        · decide
        · split <;> decide
      · show fE (dV a b) c ≠ -21
        unfold fE
        split
        · decide
        · split <;> decide
      · show sE (dV a b) c ≠ -21
        unfold sE
        split
        · decide
        · split <;> decide
      · show (0 : Int) ≠ -21; decide
      · show (0 : Int) ≠ -21; decide
      · show (0 : Int) ≠ -21; decide
      · show (0 : Int) ≠ -21; decide
      · show (0 : Int) ≠ -21; decide
      · show (0 : Int) ≠ -21; decide
      · show (0 : Int) ≠ -21; decide
    unfold unE pushE
    split
    · split <;> decide
    · exact hT
theorem counts_host (o : Int) (d : List Int) (h : doE o d ≠ 0) : (puG o = false ∧ doE o d = -21) ∨ (puG o = true ∧ doE o d ≠ -21) := by
  cases hg : puG o
  · exact Or.inl ⟨rfl, by simp [doE, hg]⟩
  · refine Or.inr ⟨rfl, ?_⟩
    obtain ⟨k, rfl, h1, h2⟩ := puG_some hg
    unfold doE
    rw [if_neg (by rw [hg]; decide)]
    split
    · decide
    · split
      · decide
      · exact puE_host h1 h2 _ _
/-- What is there behind an operation that throws nothing. -/
theorem counts_ok {o : Int} {d : List Int} (h : doE o d = 0) : puG o = true ∧ puN o ≤ d.length ∧ d.length ≤ 64 ∧ (doL o d).length ≤ 64 ∧
    ((o = 31 ∧ (doL o d).length + 1 = d.length) ∨ (o = 30 ∧ (doL o d).length = d.length) ∨
     (o ≠ 31 ∧ o ≠ 30 ∧ ∃ y, doL o d = d.take (d.length - puN o) ++ y ∧ (opL o = (0, false) ∨ opL o = ((y.length : Int), true)))) := by
  obtain ⟨k, rfl, h1, h2, h3, h4, h5, h6⟩ := doE_zero h
  refine ⟨by rw [puG_is]; exact decide_eq_true (by omega), h3, h4, doL_length h, ?_⟩
  by_cases hk : k = 31
  · subst hk
    refine Or.inl ⟨rfl, ?_⟩
    have hn : puN ((31 : Nat) : Int) = 1 := puN_at 31 (by decide) (by decide)
    rw [h6, puL_roll, rollL_length]
    rw [hn] at h3 ⊢
    simp; omega
  · obtain ⟨_, _, h8⟩ := puE_zero hk h5
    by_cases hp : k = 30
    · subst hp
      refine Or.inr (Or.inl ⟨rfl, ?_⟩)
      have hn : puN ((30 : Nat) : Int) = 1 := puN_at 30 (by decide) (by decide)
      rw [h6, h8, List.length_append]
      rw [hn] at h3 ⊢
      show (d.take _).length + 1 = _
      simp; omega
    · refine Or.inr (Or.inr ⟨by omega, by omega, puY k (d.take (d.length - puN (k : Int))) (d.drop (d.length - puN (k : Int))), by rw [h6, h8], ?_⟩)
      by_cases h29 : k = 29
      · subst h29
        exact Or.inl (by decide +kernel)
      · have hl := puD_length k h1 h2 (d.take (d.length - puN (k : Int))) ((d.drop (d.length - puN (k : Int))).getD 0 0) ((d.drop (d.length - puN (k : Int))).getD 1 0) ((d.drop (d.length - puN (k : Int))).getD 2 0) ((d.drop (d.length - puN (k : Int))).getD 3 0) h29 hk
        refine Or.inr ?_
        unfold opL
        rw [← hl, if_neg (by omega)]
        rfl
end Go.Proofs.YtnlkggfgloblcaaGreat
