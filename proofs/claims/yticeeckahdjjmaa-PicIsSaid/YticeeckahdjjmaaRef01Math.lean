/-
  Plain arithmetic of the document's own answers for layer 1: digits of two, and cells made of them.
-/
import Derived.Test.YticeeckahdjjmaaCellDiv
namespace Go.Proofs.Yticeeckahdjjmaa
open Go.RowKit

/-- Digit i of two of a cell; 0 beyond. -/
def bitZ (a i : Int) : Int := if 0 ≤ i ∧ i ≤ 63 then a % 18446744073709551616 / 2 ^ i.toNat % 2 else 0
theorem bitZ_in {a i : Int} (h0 : 0 ≤ i) (h1 : i ≤ 63) : bitZ a i = a % 18446744073709551616 / 2 ^ i.toNat % 2 := by
  unfold bitZ; rw [if_pos ⟨h0, h1⟩]
theorem bitZ_out {a i : Int} (h : i < 0 ∨ 63 < i) : bitZ a i = 0 := by
  unfold bitZ; rw [if_neg (by omega)]
theorem bitZ_01 (a i : Int) : bitZ a i = 0 ∨ bitZ a i = 1 := by
  unfold bitZ; split
  · omega
  · exact .inl rfl
/-- The walk's own form of a digit. -/
theorem bitZ_walk {a i : Int} (h0 : 0 ≤ i) (h1 : i ≤ 63) : wrap64 (bits .and .u64 (IntKind.u64.wrap a / 2 ^ i.toNat) 1) = bitZ a i := by
  rw [u64w, bitZ_in h0 h1]
  obtain ⟨b0, b1, b2⟩ := shr_bound a i.toNat
  generalize a % 18446744073709551616 / 2 ^ i.toNat = x at *
  have hx : x < 18446744073709551616 := by omega
  rw [u64_and x 1 b0 hx (by decide) (by decide), show (1 : Int).toNat = 1 from rfl, nat_mask1]
  unfold wrap64; omega

/-! ### below, without signs -/
theorem half_eq {A p : Int} (hp : 0 < p) : A / (p * 2) = A / p / 2 := by
  rw [Int.ediv_ediv_of_nonneg (by omega)]
theorem ult_at {a b k : Int} (h0 : 0 ≤ k) (h1 : k ≤ 63) (he : a % 18446744073709551616 / 2 ^ (k + 1).toNat = b % 18446744073709551616 / 2 ^ (k + 1).toNat)
    (hd : (bitZ a k != bitZ b k) = true) : (bitZ b k == 1) = cUlt a b := by
  rw [cUlt_is]
  have hd' : bitZ a k ≠ bitZ b k := by simpa using hd
  rw [bitZ_in h0 h1, bitZ_in h0 h1] at hd'
  rw [bitZ_in h0 h1]
  have hp := pow_pos' k.toNat
  rw [show (k + 1).toNat = k.toNat + 1 by omega, Int.pow_succ, half_eq hp, half_eq hp] at he
  generalize a % 18446744073709551616 = A at *
  generalize b % 18446744073709551616 = B at *
  generalize (2 : Int) ^ k.toNat = p at *
  rcases Int.lt_or_le A B with h | h
  · have : A / p ≤ B / p := Int.ediv_le_ediv hp (by omega)
    have hb : B / p % 2 = 1 := by omega
    simp [hb, h]
  · have : B / p ≤ A / p := Int.ediv_le_ediv hp h
    have hb : B / p % 2 = 0 := by omega
    have hn : ¬ A < B := by omega
    simp [hb, hn]
theorem ult_on {a b k : Int} (h0 : 0 ≤ k) (h1 : k ≤ 63) (he : a % 18446744073709551616 / 2 ^ (k + 1).toNat = b % 18446744073709551616 / 2 ^ (k + 1).toNat)
    (hd : (bitZ a k != bitZ b k) = false) : a % 18446744073709551616 / 2 ^ (k - 1 + 1).toNat = b % 18446744073709551616 / 2 ^ (k - 1 + 1).toNat := by
  have hd' : bitZ a k = bitZ b k := by simpa using hd
  rw [bitZ_in h0 h1, bitZ_in h0 h1] at hd'
  have hp := pow_pos' k.toNat
  rw [show (k + 1).toNat = k.toNat + 1 by omega, Int.pow_succ, half_eq hp, half_eq hp] at he
  rw [show (k - 1 + 1).toNat = k.toNat by omega]
  generalize a % 18446744073709551616 / 2 ^ k.toNat = A at *
  generalize b % 18446744073709551616 / 2 ^ k.toNat = B at *
  omega
theorem ult_end {a b : Int} (he : a % 18446744073709551616 / 2 ^ ((-1 : Int) + 1).toNat = b % 18446744073709551616 / 2 ^ ((-1 : Int) + 1).toNat) : cUlt a b = false := by
  rw [cUlt_is]
  simp at he
  simp [he]

/-! ### aligned -/
theorem al_bits (x : Int) : (bitZ x 0 = 0 ∧ bitZ x 1 = 0 ∧ bitZ x 2 = 0) ↔ x % 8 = 0 := by
  rw [bitZ_in (by decide) (by decide), bitZ_in (by decide) (by decide), bitZ_in (by decide) (by decide)]
  show (x % 18446744073709551616 / 1 % 2 = 0 ∧ x % 18446744073709551616 / 2 % 2 = 0 ∧ x % 18446744073709551616 / 4 % 2 = 0) ↔ _
  omega
theorem al_end (n : Int) (k : Nat) (hk : (k : Int) ≤ (-n) % 8) (h : wrap64 (n + k) % 8 = 0) : wrap64 (n + k) = cAl n := by
  rw [cAl_is]; unfold wrap64 at *; omega
theorem al_on (n : Int) (k : Nat) (hk : (k : Int) ≤ (-n) % 8) (h : ¬ wrap64 (n + k) % 8 = 0) : ((k + 1 : Nat) : Int) ≤ (-n) % 8 := by
  unfold wrap64 at *; omega

/-! ### a cell of digits -/
/-- The number of the m highest of 64 digits, in the walk's own form. -/
def mkF (z : Nat → Int) : Nat → Int
  | 0 => 0
  | m + 1 => IntKind.u64.wrap (IntKind.u64.wrap (mkF z m * 2) + IntKind.u64.wrap (bits .and .i64 (z (63 - m)) 1))
theorem and1 (x : Int) : bits .and .i64 x 1 = x % 2 := bits_and_low 1 (by decide) x
theorem mkF_is (z : Nat → Int) (X : Nat) (hX : X < 18446744073709551616) (hz : ∀ j, j < 64 → z j % 2 = ((X / 2 ^ j % 2 : Nat) : Int)) :
    ∀ m, m ≤ 64 → mkF z m = ((X / 2 ^ (64 - m) : Nat) : Int)
  | 0, _ => by
    have : X / 2 ^ 64 = 0 := Nat.div_eq_of_lt hX
    simp [mkF, this]
  | m + 1, hm => by
    have ih := mkF_is z X hX hz m (by omega)
    have hd := hz (63 - m) (by omega)
    have e1 : 64 - (m + 1) = 63 - m := by omega
    have e2 : 64 - m = 63 - m + 1 := by omega
    have e3 : X / 2 ^ (64 - m) = X / 2 ^ (63 - m) / 2 := by rw [e2, Nat.pow_succ, Nat.div_div_eq_div_mul]
    have hle : X / 2 ^ (63 - m) ≤ X := Nat.div_le_self _ _
    rw [mkF, ih, u64w, u64w, u64w, and1, hd, e1, e3]
    generalize X / 2 ^ (63 - m) = q at *
    omega
theorem mkF_all (z : Nat → Int) (X : Nat) (hX : X < 18446744073709551616) (hz : ∀ j, j < 64 → z j % 2 = ((X / 2 ^ j % 2 : Nat) : Int)) : mkF z 64 = (X : Int) := by
  rw [mkF_is z X hX hz 64 (Nat.le_refl _)]; simp

/-- Digit j of two of a natural number, by its test. -/
theorem digit (X j : Nat) : X / 2 ^ j % 2 = (X.testBit j).toNat := by
  rw [Nat.testBit_eq_decide_div_mod_eq]
  rcases Nat.mod_two_eq_zero_or_one (X / 2 ^ j) with h | h <;> simp [h]
theorem bitZ_nat (a : Int) (j : Nat) (hj : j ≤ 63) : bitZ a j = (((a % 18446744073709551616).toNat / 2 ^ j % 2 : Nat) : Int) := by
  rw [bitZ_in (by omega) (by omega)]
  have e : a % 18446744073709551616 = (((a % 18446744073709551616).toNat : Nat) : Int) := by omega
  rw [e, Int.toNat_natCast, Int.toNat_natCast, Int.natCast_emod, Int.natCast_ediv, Int.natCast_pow]
  rfl
/-- What the slice of Shl holds behind its loop; of Shr. -/
def zShl (a n : Int) (j : Nat) : Int := if n ≤ j then bitZ a (j - n) else 0
def zShr (a n : Int) (j : Nat) : Int := bitZ a (j + n)
theorem shl_made (a : Int) (n : Nat) (hn : n ≤ 63) : wrap64 (mkF (zShl a n) 64) = cShl a n := by
  have hX : ((a % 18446744073709551616).toNat <<< n) % 2 ^ 64 < 18446744073709551616 := Nat.mod_lt _ (by decide)
  rw [mkF_all (zShl a n) (((a % 18446744073709551616).toNat <<< n) % 2 ^ 64) hX]
  · rw [cShl_is a (by omega) (by omega)]
    apply wrap64_congr
    rw [Nat.shiftLeft_eq, Int.natCast_emod, Int.natCast_mul, Int.natCast_pow, Int.toNat_of_nonneg (by omega), Int.toNat_natCast]
    show (a % 18446744073709551616 * 2 ^ n % 18446744073709551616) % 18446744073709551616 = _
    rw [Int.emod_emod, Int.mul_emod, Int.emod_emod, ← Int.mul_emod]
  · intro j hj
    rw [digit, Nat.testBit_mod_two_pow, Nat.testBit_shiftLeft]
    unfold zShl
    by_cases h : n ≤ j
    · rw [if_pos (by omega), show (j : Int) - (n : Int) = ((j - n : Nat) : Int) by omega, bitZ_nat a (j - n) (by omega), digit]
      simp [hj, h]
      cases (a % 18446744073709551616).toNat.testBit (j - n) <;> rfl
    · rw [if_neg (by omega)]
      simp [h]
theorem shr_made (a : Int) (n : Nat) (hn : n ≤ 63) : wrap64 (mkF (zShr a n) 64) = cShr a n := by
  have hA : (a % 18446744073709551616).toNat < 18446744073709551616 := by omega
  have hX : (a % 18446744073709551616).toNat >>> n < 18446744073709551616 := Nat.lt_of_le_of_lt (Nat.shiftRight_le _ _) hA
  rw [mkF_all (zShr a n) ((a % 18446744073709551616).toNat >>> n) hX]
  · rw [cShr_is a (by omega) (by omega), Nat.shiftRight_eq_div_pow, Int.natCast_ediv, Int.natCast_pow, Int.toNat_of_nonneg (by omega), Int.toNat_natCast]
    rfl
  · intro j hj
    rw [digit, Nat.testBit_shiftRight]
    unfold zShr
    by_cases h : j + n ≤ 63
    · rw [show (j : Int) + (n : Int) = ((j + n : Nat) : Int) by omega, bitZ_nat a (j + n) h, digit, Nat.add_comm n j]
      cases (a % 18446744073709551616).toNat.testBit (j + n) <;> rfl
    · rw [bitZ_out (by omega), Nat.testBit_lt_two_pow (Nat.lt_of_lt_of_le hA (Nat.pow_le_pow_right (n := 2) (by decide) (show 64 ≤ n + j by omega)))]
      rfl
end Go.Proofs.Yticeeckahdjjmaa
