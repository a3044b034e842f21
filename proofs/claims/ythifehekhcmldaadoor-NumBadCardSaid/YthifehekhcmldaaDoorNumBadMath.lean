/-
  Plain facts: a text of digits with another sign in it is no number; nor is nothing, a minus, a point or a mark alone. Nothing of a translated program is imported.
-/
import Derived.Test.YthifehekhcmldaaDoorNumPoint
namespace Go.Proofs.YthifehekhcmldaaDoor
open Go.RowKit

theorem bad_form {b : Int} {p q : List UInt8} {c : UInt8} (hD : dB b (p ++ q) = true) (hc : dgB (c.toNat : Int) b = false) (h45 : c ≠ 45) (h46 : c ≠ 46) (h35 : c ≠ 35) (h36 : c ≠ 36) (h37 : c ≠ 37) (h39 : c ≠ 39) : pB b (p ++ c :: q) = false := by
  rw [dB_append, Bool.and_eq_true] at hD
  obtain ⟨x, t, hx, x45, x39, x35, x36, x37⟩ : ∃ x t, p ++ c :: q = x :: t ∧ x ≠ 45 ∧ x ≠ 39 ∧ x ≠ 35 ∧ x ≠ 36 ∧ x ≠ 37 := by
    by_cases hp : p = []
    · subst hp; exact ⟨c, q, rfl, h45, h39, h35, h36, h37⟩
    · obtain ⟨x, t, e, h⟩ := dgs_head hD.1 hp
      exact ⟨x, t ++ c :: q, by rw [e]; rfl, h⟩
  obtain ⟨i, z, hz, z46⟩ : ∃ i z, p ++ c :: q = i ++ [z] ∧ (z == 46) = false := by
    by_cases hq : q = []
    · subst hq; exact ⟨p, c, rfl, beq_eq_false_iff_ne.2 h46⟩
    · obtain ⟨i, z, e, h⟩ := dgs_last hD.2 hq
      exact ⟨p ++ c :: i, z, by rw [e]; simp, h⟩
  have hA : mkA (p ++ c :: q) = false := by rw [hx]; exact mk_head x35 x36 x37
  have hqB : qB (p ++ c :: q) = false := by rw [hx]; exact q_head x39
  have hp2 : p2 (p ++ c :: q) = p ++ c :: q := by
    unfold p2
    rw [(mkA_none (b := b) hA).2, hx, (pre_cons _ _).2, beq_eq_false_iff_ne.2 x45]; rfl
  have hp3 := (p3_same hz z46).2
  unfold pB
  rw [hqB, (mkA_none (b := b) hA).1, hp3, hp2]
  have : dB b (p ++ c :: q) = false := by
    rw [dB_append, show dB b (c :: q) = (dgB (c.toNat : Int) b && dB b q) from rfl, hc]; simp
  simp only [nB, this]; simp
theorem bad_nil (b : Int) : pB b [] = false := rfl
theorem bad_minus (b : Int) : pB b [45] = false := by
  unfold pB; rw [show qB [45] = false from rfl, show p3 [45] = [] by decide +kernel]; rfl
theorem bad_point (b : Int) : pB b [46] = false := by
  unfold pB; rw [show qB [46] = false from rfl, show p3 [46] = [] by decide +kernel]; rfl
theorem bad_mark (b : Int) : pB b [36] = false := by
  unfold pB; rw [show qB [36] = false from rfl, show p3 [36] = [] by decide +kernel]; rfl
end Go.Proofs.YthifehekhcmldaaDoor
