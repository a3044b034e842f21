/-
  Bytes of a cell as the document lays them, one by one. Nothing of a translated program is imported.
-/
import Derived.Test.YtkehlaphiillpaaMemMath
namespace Go.Proofs.Ytkehlaphiillpaa
open Go.RowKit

/-- A number without so many of its low bytes. -/
def vS (x : Int) : Nat → Int
  | 0 => x
  | j + 1 => vS x j / 256
theorem vS_shift (x : Int) : ∀ j, vS x (j + 1) = vS (x / 256) j
  | 0 => rfl
  | j + 1 => by rw [vS, vS_shift x j]; rfl
theorem mD_at : ∀ (k : Nat) (x : Int) (j : Nat), j < k → (mD k x)[j]? = some (b8 (vS x j))
  | 0, _, _, h => absurd h (by omega)
  | k + 1, x, 0, _ => rfl
  | k + 1, x, j + 1, h => by rw [mD, List.getElem?_cons_succ, mD_at k (x / 256) j (by omega), vS_shift]
theorem mB_at (x : Int) (j : Nat) (h : j < 8) : (mB x)[j]? = some (b8 (vS x j)) := by rw [mB_mD]; exact mD_at 8 x j h
theorem parts_next (l : List UInt8) (i : Nat) (x : Int) (j : Nat) (hj : j < 8) (hi : i + 8 ≤ l.length) : splice (splice l i ((mB x).take j)) (i + j) [b8 (vS x j)] = splice l i ((mB x).take (j + 1)) := by
  have h1 : ((mB x).take j).length = j := by rw [List.length_take, mB_length]; omega
  have h2 : ((mB x).take (j + 1)).length = j + 1 := by rw [List.length_take, mB_length]; omega
  have h3 := length_splice l i ((mB x).take j) (by omega)
  apply List.ext_getElem?
  intro m
  rw [splice_get _ _ _ _ (by simp only [List.length_singleton]; omega), splice_get _ _ _ _ (by omega), splice_get l ((mB x).take (j + 1)) _ _ (by omega), h1, h2, List.length_singleton]
  by_cases hm : m = i + j
  · subst hm
    rw [if_pos (by omega), if_pos (by omega), show i + j - (i + j) = 0 by omega, show i + j - i = j by omega, List.getElem?_take_of_lt (by omega), mB_at x j hj]
    rfl
  · rw [if_neg (by omega)]
    by_cases h4 : i ≤ m ∧ m < i + j
    · rw [if_pos h4, if_pos (by omega), List.getElem?_take_of_lt (by omega), List.getElem?_take_of_lt (by omega)]
    · rw [if_neg h4, if_neg (by omega)]
/-- What is left of a cell without a sign behind so many bytes. -/
def uS (x : Int) : Nat → Int
  | 0 => x % 18446744073709551616
  | j + 1 => uS x j / 256
theorem uS_vS (x : Int) : vS x 0 = uS x 0 + 18446744073709551616 * (x / 18446744073709551616) ∧ vS x 1 = uS x 1 + 72057594037927936 * (x / 18446744073709551616) ∧ vS x 2 = uS x 2 + 281474976710656 * (x / 18446744073709551616) ∧ vS x 3 = uS x 3 + 1099511627776 * (x / 18446744073709551616) ∧
    vS x 4 = uS x 4 + 4294967296 * (x / 18446744073709551616) ∧ vS x 5 = uS x 5 + 16777216 * (x / 18446744073709551616) ∧ vS x 6 = uS x 6 + 65536 * (x / 18446744073709551616) ∧ vS x 7 = uS x 7 + 256 * (x / 18446744073709551616) := by
  have h0 : vS x 0 = uS x 0 + 18446744073709551616 * (x / 18446744073709551616) := by show x = x % 18446744073709551616 + _; omega
  generalize x / 18446744073709551616 = K at *
  have h1 : vS x 1 = uS x 1 + 72057594037927936 * K := by have a : vS x 1 = vS x 0 / 256 := rfl; have b : uS x 1 = uS x 0 / 256 := rfl; omega
  have h2 : vS x 2 = uS x 2 + 281474976710656 * K := by have a : vS x 2 = vS x 1 / 256 := rfl; have b : uS x 2 = uS x 1 / 256 := rfl; omega
  have h3 : vS x 3 = uS x 3 + 1099511627776 * K := by have a : vS x 3 = vS x 2 / 256 := rfl; have b : uS x 3 = uS x 2 / 256 := rfl; omega
  have h4 : vS x 4 = uS x 4 + 4294967296 * K := by have a : vS x 4 = vS x 3 / 256 := rfl; have b : uS x 4 = uS x 3 / 256 := rfl; omega
  have h5 : vS x 5 = uS x 5 + 16777216 * K := by have a : vS x 5 = vS x 4 / 256 := rfl; have b : uS x 5 = uS x 4 / 256 := rfl; omega
  have h6 : vS x 6 = uS x 6 + 65536 * K := by have a : vS x 6 = vS x 5 / 256 := rfl; have b : uS x 6 = uS x 5 / 256 := rfl; omega
  have h7 : vS x 7 = uS x 7 + 256 * K := by have a : vS x 7 = vS x 6 / 256 := rfl; have b : uS x 7 = uS x 6 / 256 := rfl; omega
  exact ⟨h0, h1, h2, h3, h4, h5, h6, h7⟩
theorem uS_byte (x : Int) (j : Nat) (hj : j < 8) : uS x j % 256 = ((b8 (vS x j)).toNat : Int) := by
  rw [b8_val]
  obtain ⟨h0, h1, h2, h3, h4, h5, h6, h7⟩ := uS_vS x
  match j, hj with
  | 0, _ => omega
  | 1, _ => omega
  | 2, _ => omega
  | 3, _ => omega
  | 4, _ => omega
  | 5, _ => omega
  | 6, _ => omega
  | 7, _ => omega
theorem uS_in (x : Int) : ∀ j, 0 ≤ uS x j ∧ uS x j < 18446744073709551616
  | 0 => by show 0 ≤ x % _ ∧ x % _ < _; omega
  | j + 1 => by have := uS_in x j; show 0 ≤ uS x j / 256 ∧ uS x j / 256 < _; omega
/-- Some bytes as a number, the lowest first. -/
theorem mH_lt : ∀ l : List UInt8, mH l < 256 ^ l.length
  | [] => by simp [mH]
  | b :: r => by
    have h := mH_lt r
    have hb := u8_lt b
    simp only [mH, List.length_cons, Nat.pow_succ]
    omega
theorem mT_cons (l : List UInt8) (a k : Nat) (h : a < l.length) : mT l a (k + 1) = l[a] :: mT l (a + 1) k := by
  unfold mT
  rw [List.drop_eq_getElem_cons h, List.take_succ_cons]
/-- A cell's bytes from the j-th on, as a number. -/
def gH (l : List UInt8) (i j : Nat) : Nat := mH (mT l (i + j) (8 - j))
theorem gH_8 (l : List UInt8) (i : Nat) : gH l i 8 = 0 := by unfold gH mT; simp [mH]
theorem gH_step (l : List UInt8) (i j : Nat) (hj : j < 8) (hi : i + 8 ≤ l.length) : gH l i j = gH l i (j + 1) * 256 + (l[i + j]'(by omega)).toNat ∧ gH l i (j + 1) * 256 + (l[i + j]'(by omega)).toNat < 18446744073709551616 := by
  have e : gH l i j = gH l i (j + 1) * 256 + (l[i + j]'(by omega)).toNat := by
    unfold gH
    rw [show 8 - j = (8 - (j + 1)) + 1 by omega, mT_cons l (i + j) _ (by omega)]
    simp only [mH]
    rw [show i + (j + 1) = i + j + 1 by omega]
    omega
  refine ⟨e, ?_⟩
  rw [← e]
  unfold gH
  have h := mH_lt (mT l (i + j) (8 - j))
  rw [mT_length _ _ _ (by omega)] at h
  have h2 : (256 : Nat) ^ (8 - j) ≤ 256 ^ 8 := Nat.pow_le_pow_right (by decide) (by omega)
  have h3 : (256 : Nat) ^ 8 = 18446744073709551616 := by decide
  omega
theorem gH_0 (l : List UInt8) (i : Nat) (hi : i + 8 ≤ l.length) : wrap64 (gH l i 0 : Int) = mC (mT l i 8) := by
  unfold gH mC
  rw [mN_mH (mT_length l i 8 hi)]
  rfl
theorem gH_lt (l : List UInt8) (i : Nat) (hi : i + 8 ≤ l.length) : gH l i 0 < 18446744073709551616 := by
  have h := gH_step l i 0 (by decide) hi
  omega
end Go.Proofs.Ytkehlaphiillpaa
