/-
  Plain facts for PureBelow: what lies below does not matter to an operation that looks no deeper than it needs.
-/
import Derived.Test.YtnlkggfgloblcaaGreatPureLaws
namespace Go.Proofs.YtnlkggfgloblcaaGreat
open Go.RowKit

theorem puD_below (k : Nat) (h1 : 18 ≤ k) (h2 : k ≤ 74) (e1 : k ≠ 30) (e2 : k ≠ 31) (e3 : k ≠ 32) (l l' : List Int) (a b c d : Int) : puD k l a b c d = puD k l' a b c d := by
  rcases op_split k h1 h2 with rfl | rfl | rfl | rfl | rfl | rfl | rfl | rfl | rfl | rfl | rfl | rfl | rfl | rfl | rfl | rfl | rfl | rfl | rfl | rfl | rfl | rfl | rfl | rfl | rfl | rfl | rfl | rfl | rfl | rfl | rfl | rfl | rfl | rfl | rfl | rfl | rfl | rfl | rfl | rfl | rfl | rfl | rfl | rfl | rfl | rfl | rfl | rfl | rfl | rfl | rfl | rfl | rfl | rfl | rfl | rfl | rfl
  · rfl
  · rfl
  · rfl
  · rfl
  · rfl
  · rfl
  · rfl
  · rfl
  · rfl
  · rfl
  · rfl
  · rfl
  · exact absurd rfl e1
  · exact absurd rfl e2
  · exact absurd rfl e3
  · rfl
  · rfl
  · rfl
  · rfl
  · rfl
  · rfl
  · rfl
  · rfl
  · rfl
  · rfl
  · rfl
  · rfl
  · rfl
  · rfl
  · rfl
  · rfl
  · rfl
  · rfl
  · rfl
  · rfl
  · rfl
  · rfl
  · rfl
  · rfl
  · rfl
  · rfl
  · rfl
  · rfl
  · rfl
  · rfl
  · rfl
  · rfl
  · rfl
  · rfl
  · rfl
  · rfl
  · rfl
  · rfl
  · rfl
  · rfl
  · rfl
  · rfl
theorem puD_six (k : Nat) (h1 : 18 ≤ k) (h2 : k ≤ 74) (l : List Int) (a b c d : Int) : (puD k l a b c d).1.length ≤ 6 := by
  rcases op_split k h1 h2 with rfl | rfl | rfl | rfl | rfl | rfl | rfl | rfl | rfl | rfl | rfl | rfl | rfl | rfl | rfl | rfl | rfl | rfl | rfl | rfl | rfl | rfl | rfl | rfl | rfl | rfl | rfl | rfl | rfl | rfl | rfl | rfl | rfl | rfl | rfl | rfl | rfl | rfl | rfl | rfl | rfl | rfl | rfl | rfl | rfl | rfl | rfl | rfl | rfl | rfl | rfl | rfl | rfl | rfl | rfl | rfl | rfl
  · exact Nat.le_of_ble_eq_true rfl
  · exact Nat.le_of_ble_eq_true rfl
  · exact Nat.le_of_ble_eq_true rfl
  · exact Nat.le_of_ble_eq_true rfl
  · exact Nat.le_of_ble_eq_true rfl
  · exact Nat.le_of_ble_eq_true rfl
  · exact Nat.le_of_ble_eq_true rfl
  · exact Nat.le_of_ble_eq_true rfl
  · exact Nat.le_of_ble_eq_true rfl
  · exact Nat.le_of_ble_eq_true rfl
  · exact Nat.le_of_ble_eq_true rfl
  · show (if a = 0 then [0] else [a, a] : List Int).length ≤ 6; split <;> simp
  · exact Nat.le_of_ble_eq_true rfl
  · exact Nat.le_of_ble_eq_true rfl
  · exact Nat.le_of_ble_eq_true rfl
  · exact Nat.le_of_ble_eq_true rfl
  · exact Nat.le_of_ble_eq_true rfl
  · exact Nat.le_of_ble_eq_true rfl
  · exact Nat.le_of_ble_eq_true rfl
  · exact Nat.le_of_ble_eq_true rfl
  · exact Nat.le_of_ble_eq_true rfl
  · exact Nat.le_of_ble_eq_true rfl
  · exact Nat.le_of_ble_eq_true rfl
  · exact Nat.le_of_ble_eq_true rfl
  · exact Nat.le_of_ble_eq_true rfl
  · exact Nat.le_of_ble_eq_true rfl
  · exact Nat.le_of_ble_eq_true rfl
  · exact Nat.le_of_ble_eq_true rfl
  · exact Nat.le_of_ble_eq_true rfl
  · exact Nat.le_of_ble_eq_true rfl
  · exact Nat.le_of_ble_eq_true rfl
  · exact Nat.le_of_ble_eq_true rfl
  · exact Nat.le_of_ble_eq_true rfl
  · exact Nat.le_of_ble_eq_true rfl
  · exact Nat.le_of_ble_eq_true rfl
  · exact Nat.le_of_ble_eq_true rfl
  · exact Nat.le_of_ble_eq_true rfl
  · exact Nat.le_of_ble_eq_true rfl
  · exact Nat.le_of_ble_eq_true rfl
  · exact Nat.le_of_ble_eq_true rfl
  · exact Nat.le_of_ble_eq_true rfl
  · exact Nat.le_of_ble_eq_true rfl
  · exact Nat.le_of_ble_eq_true rfl
  · exact Nat.le_of_ble_eq_true rfl
  · exact Nat.le_of_ble_eq_true rfl
  · exact Nat.le_of_ble_eq_true rfl
  · exact Nat.le_of_ble_eq_true rfl
  · exact Nat.le_of_ble_eq_true rfl
  · exact Nat.le_of_ble_eq_true rfl
  · exact Nat.le_of_ble_eq_true rfl
  · exact Nat.le_of_ble_eq_true rfl
  · exact Nat.le_of_ble_eq_true rfl
  · exact Nat.le_of_ble_eq_true rfl
  · exact Nat.le_of_ble_eq_true rfl
  · exact Nat.le_of_ble_eq_true rfl
  · exact Nat.le_of_ble_eq_true rfl
  · exact Nat.le_of_ble_eq_true rfl
theorem below_at {o : Int} {d u : List Int} (hN : puN o ≤ d.length) (hL : u.length + d.length ≤ 50) (e1 : o ≠ 30) (e2 : o ≠ 31) (e3 : o ≠ 32) : doE o (u ++ d) = doE o d ∧ doL o (u ++ d) = u ++ doL o d := by
  cases hg : puG o
  · have h1 : doE o d = -21 := by simp [doE, hg]
    have h2 : doE o (u ++ d) = -21 := by simp [doE, hg]
    unfold doL
    rw [if_neg (by rw [h2]; decide), if_neg (by rw [h1]; decide), h1, h2]
    exact ⟨rfl, rfl⟩
  · obtain ⟨k, rfl, h1, h2⟩ := puG_some hg
    have k1 : k ≠ 30 := by omega
    have k2 : k ≠ 31 := by omega
    have k3 : k ≠ 32 := by omega
    have eT : (u ++ d).length - puN (k : Int) = u.length + (d.length - puN (k : Int)) := by simp; omega
    have eL : (u ++ d).take (u.length + (d.length - puN (k : Int))) = u ++ d.take (d.length - puN (k : Int)) := by rw [List.take_append, List.take_of_length_le (by omega), Nat.add_sub_cancel_left]
    have eX : (u ++ d).drop (u.length + (d.length - puN (k : Int))) = d.drop (d.length - puN (k : Int)) := by rw [List.drop_append, List.drop_eq_nil_of_le (by omega), Nat.add_sub_cancel_left, List.nil_append]
    have hlt : (d.take (d.length - puN (k : Int))).length ≤ d.length := by simp
    generalize hl : d.take (d.length - puN (k : Int)) = l at *
    generalize hx : d.drop (d.length - puN (k : Int)) = x at *
    have hT : puT k (u ++ l) x = puT k l x := by unfold puT; rw [puD_below k h1 h2 k1 k2 k3 (u ++ l) l]
    have hY : puY k (u ++ l) x = puY k l x := by unfold puY; rw [puD_below k h1 h2 k1 k2 k3 (u ++ l) l]
    have h6 : (puY k l x).length ≤ 6 := puD_six k h1 h2 l _ _ _ _
    have hEd : doE (k : Int) d = puE k l x := by
      unfold doE
      rw [if_neg (by rw [hg]; decide), if_neg (by omega), if_neg (by omega), hl, hx]
      rfl
    have hEu : doE (k : Int) (u ++ d) = puE k (u ++ l) x := by
      unfold doE
      rw [if_neg (by rw [hg]; decide), if_neg (by simp; omega), if_neg (by simp; omega), eT, eL, eX]
      rfl
    have hEE : puE k (u ++ l) x = puE k l x := by
      rw [puE_lay k2, puE_lay k2, hT, hY]
      unfold unE
      split
      · rw [pushE_ok (pushB_no (by rw [List.length_append]; omega)), pushE_ok (pushB_no (by omega))]
      · rfl
    refine ⟨by rw [hEu, hEd, hEE], ?_⟩
    unfold doL
    rw [hEu, hEd, hEE, eT, eL, eX, hl, hx]
    split
    · show puL k (u ++ l) x = u ++ puL k l x
      rw [puL_lay k2, puL_lay k2, hT, hY]
      rename_i h0
      rw [puE_lay k2] at h0
      obtain ⟨h00, h01, _⟩ := unE_zero h0
      rw [h00, unL_ok, unL_ok, pushL_ok h01, pushL_ok (pushB_no (by rw [List.length_append]; omega)), List.append_assoc]
    · rfl
end Go.Proofs.YtnlkggfgloblcaaGreat
