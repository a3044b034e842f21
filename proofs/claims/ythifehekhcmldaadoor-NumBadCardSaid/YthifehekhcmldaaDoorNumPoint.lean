/-
  Plain facts on a text and the same with a point behind it. Nothing of a translated program is imported.
-/
import Derived.Test.YthifehekhcmldaaDoorNumForms
namespace Go.Proofs.YthifehekhcmldaaDoor
open Go.RowKit

theorem drop_snoc (i : List UInt8) (z : UInt8) (j : Nat) : (i ++ [z]).drop j = [] ∨ ∃ t, (i ++ [z]).drop j = t ++ [z] := by
  by_cases h : j ≤ i.length
  · exact .inr ⟨i.drop j, by rw [List.drop_append_of_le_length h]⟩
  · exact .inl (List.drop_eq_nil_of_le (by simp; omega))
theorem mkL_drop (l : List UInt8) : ∃ j, mkL l = l.drop j := by
  unfold mkL
  split
  · exact ⟨1, rfl⟩
  · exact ⟨0, rfl⟩
theorem p2_drop (l : List UInt8) : ∃ j, p2 l = l.drop j := by
  obtain ⟨j, hj⟩ := mkL_drop l
  unfold p2 Lib.trimPrefix
  split
  · exact ⟨j + 1, by rw [hj, List.drop_drop]; rfl⟩
  · exact ⟨j, hj⟩
theorem p3_same {l i : List UInt8} {z : UInt8} (hl : l = i ++ [z]) (hz : (z == 46) = false) : pD l = false ∧ p3 l = p2 l := by
  obtain ⟨j, hj⟩ := p2_drop l
  unfold pD p3
  rw [hj, hl]
  rcases drop_snoc i z j with h | ⟨t, h⟩
  · rw [h]; exact suf_nil
  · rw [h, (suf_snoc t z).1, (suf_snoc t z).2, hz]; exact ⟨rfl, rfl⟩
theorem pre_point (m : List UInt8) : Lib.hasPrefix (m ++ [46]) [45] = Lib.hasPrefix m [45] ∧ Lib.trimPrefix (m ++ [46]) [45] = Lib.trimPrefix m [45] ++ [46] := by
  cases m with
  | nil => exact ⟨rfl, rfl⟩
  | cons c t =>
    rw [List.cons_append, (pre_cons _ _).1, (pre_cons _ _).2, (pre_cons _ _).1, (pre_cons _ _).2]
    refine ⟨rfl, ?_⟩
    split <;> rfl
theorem mk_point {b : Int} {l : List UInt8} (hne : l ≠ []) : mkB b (l ++ [46]) = mkB b l ∧ mkL (l ++ [46]) = mkL l ++ [46] := by
  cases l with
  | nil => exact absurd rfl hne
  | cons c t =>
    refine ⟨rfl, ?_⟩
    have e : mkA (c :: t ++ [46]) = mkA (c :: t) := rfl
    unfold mkL
    rw [e]
    cases mkA (c :: t) <;> rfl
theorem p_point {b : Int} {l : List UInt8} (hne : l ≠ []) : mkB b (l ++ [46]) = mkB b l ∧ pM (l ++ [46]) = pM l ∧ pD (l ++ [46]) = true ∧ p3 (l ++ [46]) = p2 l := by
  obtain ⟨h1, h2⟩ := mk_point (b := b) hne
  obtain ⟨h3, h4⟩ := pre_point (mkL l)
  have h5 : p2 (l ++ [46]) = p2 l ++ [46] := by unfold p2; rw [h2, h4]
  refine ⟨h1, ?_, ?_, ?_⟩
  · unfold pM; rw [h2, h3]
  · unfold pD; rw [h5, (suf_snoc _ _).1]; rfl
  · unfold p3; rw [h5, (suf_snoc _ _).2]; rfl
theorem q_point {l : List UInt8} : qB (l ++ [46]) = false := by
  unfold qB
  by_cases h : l.length = 2
  · have e : (l ++ [46]).getD 2 0 = 46 := by
      match l, h with
      | [a, c], _ => rfl
    rw [e]
    simp only [show ((46 : UInt8) == 39) = false from rfl, Bool.and_false]
  · have e : decide ((l ++ [46]).length = 3) = false := by simp; omega
    rw [e]; rfl
/-- With a point it is both cells of what without it is the low one. -/
theorem point_form {b : Int} {l i : List UInt8} {z : UInt8} (hl : l = i ++ [z]) (hz : (z == 46) = false) (hq : qB l = false) :
    pB b (l ++ [46]) = pB b l ∧ (pB b l = true → ∃ x, pL b l = [dLo x] ∧ pL b (l ++ [46]) = [dLo x, dHi x]) := by
  have hne : l ≠ [] := by rw [hl]; simp
  obtain ⟨h1, h2, h3, h4⟩ := p_point (b := b) hne
  obtain ⟨h5, h6⟩ := p3_same hl hz
  have e1 : pB b l = nB (mkB b l) (p2 l) := by unfold pB; rw [hq, h6]; rfl
  have e2 : pB b (l ++ [46]) = nB (mkB b l) (p2 l) := by unfold pB; rw [q_point, h1, h4]; rfl
  refine ⟨e2.trans e1.symm, fun hp => ?_⟩
  rw [e1] at hp
  refine ⟨pX b l, ?_, ?_⟩
  · unfold pL; rw [hq, h6, hp, h5]; rfl
  · have ex : pX b (l ++ [46]) = pX b l := by unfold pX; rw [h1, h2, h4, h6]
    unfold pL; rw [q_point, h1, h4, hp, h3, ex]; rfl
end Go.Proofs.YthifehekhcmldaaDoor
