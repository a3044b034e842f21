/-
  What is laid of a picture lies in its user's area; where a digit throws nothing is laid. Nothing of a translated program is imported.
-/
import Derived.Test.YticeeckahdjjmaaPicMath
namespace Go.Proofs.Yticeeckahdjjmaa
open Go.RowKit

/-- Is a place outside of a user's area? -/
def OutA (u : Int) (j : Nat) : Prop := (j : Int) < u ∨ u + 128 ≤ (j : Int)
theorem hL_parts {l : List UInt8} {u : Int} (c : Int) (h : hE l u = 0) : ∃ i y : Nat, u = (i : Int) ∧ i + 16 ≤ l.length ∧ i + 32 ≤ y ∧ y < i + 128 ∧ y < l.length ∧ hL l u c = splice (splice l (i + 8) (mB (oX l u 8 - 1))) y [b8 c] := by
  obtain ⟨h1, h2, h3, h4⟩ := hE_ok h
  obtain ⟨i, hi, _, hin, hin2, _⟩ := oE_at (k := 8) h1
  obtain ⟨y, m, hy, hm, hlen⟩ := thB_yes h4
  refine ⟨i, y, hi, by omega, by omega, by omega, by omega, ?_⟩
  unfold hL
  rw [if_pos h, show (u + 8).toNat = i + 8 by omega, show (oX l u 8 - 1).toNat = y by omega]
theorem hL_length (l : List UInt8) (u c : Int) : (hL l u c).length = l.length := by
  by_cases h : hE l u = 0
  · obtain ⟨i, y, _, h1, _, _, h4, e⟩ := hL_parts c h
    have h5 := length_splice l (i + 8) (mB (oX l u 8 - 1)) (by rw [mB_length]; omega)
    rw [e, length_splice _ _ _ (by simp only [List.length_singleton]; omega), h5]
  · unfold hL; rw [if_neg h]
theorem hL_out (l : List UInt8) (u c : Int) (j : Nat) (hj : OutA u j) : (hL l u c)[j]? = l[j]? := by
  by_cases h : hE l u = 0
  · obtain ⟨i, y, hi, h1, h2, h3, h4, e⟩ := hL_parts c h
    have h5 := length_splice l (i + 8) (mB (oX l u 8 - 1)) (by rw [mB_length]; omega)
    unfold OutA at hj
    rw [e, splice_get _ _ _ _ (by simp only [List.length_singleton]; omega), List.length_singleton, if_neg (by omega), splice_get _ _ _ _ (by rw [mB_length]; omega), mB_length, if_neg (by omega)]
  · unfold hL; rw [if_neg h]
theorem dL_length (l : List UInt8) (u : Int) (q : Nat) : (dL l u q).length = l.length := by
  unfold dL
  split
  · exact hL_length _ _ _
  · rfl
theorem dL_out (l : List UInt8) (u : Int) (q j : Nat) (hj : OutA u j) : (dL l u q)[j]? = l[j]? := by
  unfold dL
  split
  · exact hL_out _ _ _ _ hj
  · rfl
theorem dL_no {l : List UInt8} {u : Int} (q : Nat) (h : ¬ dE l u = 0) : dL l u q = l := by unfold dL; rw [if_neg h]
theorem aM_length : ∀ (k : Nat) (l : List UInt8) (u : Int) (q : Nat), (aM k l u q).length = l.length
  | 0, _, _, _ => rfl
  | k + 1, l, u, q => by
    unfold aM
    split
    · split
      · exact dL_length _ _ _
      · rw [aM_length k, dL_length]
    · rfl
theorem aM_out : ∀ (k : Nat) (l : List UInt8) (u : Int) (q j : Nat), OutA u j → (aM k l u q)[j]? = l[j]?
  | 0, _, _, _, _, _ => rfl
  | k + 1, l, u, q, j, hj => by
    unfold aM
    split
    · split
      · exact dL_out _ _ _ _ hj
      · rw [aM_out k _ _ _ _ hj, dL_out _ _ _ _ hj]
    · rfl
end Go.Proofs.Yticeeckahdjjmaa
