/-
  Plain arithmetic of divisions of doubles: digit by digit without signs, rounded towards 0, rounded down. Nothing of a translated program is imported.
-/
import Derived.Test.YticeeckahdjjmaaDblMath
import Derived.Laws.BitsAllLaws
import Derived.Laws.BitsLemmas
namespace Go.Proofs.Yticeeckahdjjmaa
open Go.RowKit

/-! ### digit by digit -/
theorem div_mod_of {Y U q r : Int} (hU : 0 < U) (e : Y = q * U + r) (h0 : 0 ≤ r) (h1 : r < U) : Y / U = q ∧ Y % U = r := by
  subst e
  constructor
  · rw [Int.add_comm, Int.add_mul_ediv_right _ _ (by omega), Int.ediv_eq_zero_of_lt h0 h1]; omega
  · rw [Int.add_comm, Int.add_mul_emod_self_right, Int.emod_eq_of_lt h0 h1]
theorem bits_or_low (x b : Int) (hb : b = 0 ∨ b = 1) : bits .or .i64 (wrap64 (2 * x)) b = wrap64 (2 * x + b) := by
  show IntKind.i64.wrap ((BitVec.ofInt 64 (wrap64 (2 * x)) ||| BitVec.ofInt 64 b).toNat : Int) = _
  rw [BitVec.toNat_or, ofInt64, ofInt64, wrapi64]
  have e1 : (wrap64 (2 * x) % 18446744073709551616).toNat = 2 * ((x % 9223372036854775808).toNat) := by unfold wrap64; omega
  have e2 : (b % 18446744073709551616).toNat = b.toNat := by omega
  rw [e1, e2]
  have e3 : 2 * (x % 9223372036854775808).toNat ||| b.toNat = 2 * (x % 9223372036854775808).toNat + b.toNat := by
    have := Nat.two_pow_add_eq_or_of_lt (i := 1) (b := b.toNat) (by omega) (x % 9223372036854775808).toNat
    simp at this
    exact this.symm
  rw [e3]
  apply wrap64_congr
  omega
/-- One digit: L is left, Q the quotient's digits so far, b the next digit, Z the digits behind it. -/
theorem digit_step (L Q b Z u : Int) (h0 : 0 ≤ L) (h1 : L < u % 18446744073709551616) (hQ : 0 ≤ Q) (hZ : 0 ≤ Z) (hs : Z + Q < 9223372036854775808) (hb : b = 0 ∨ b = 1) :
    ∃ l', bits .or .i64 (cShl (wrap64 L) 1) (cShr (wrap64 (b * 9223372036854775808 + Z + Q)) 63) = l' ∧ l' = wrap64 (2 * L + b) ∧ cShl (wrap64 (b * 9223372036854775808 + Z + Q)) 1 = wrap64 (2 * Z + 2 * Q) ∧
    ((decide (wrap64 L < 0) || !cUlt l' u) = decide (u % 18446744073709551616 ≤ 2 * L + b)) ∧ wrap64 (l' - u) = wrap64 (2 * L + b - u % 18446744073709551616) ∧ wrap64 (wrap64 (2 * Z + 2 * Q) + 1) = wrap64 (2 * Z + (2 * Q + 1)) := by
  have e1 : cShl (wrap64 L) 1 = wrap64 (2 * L) := by
    rw [cShl_is _ (by decide) (by decide)]; show wrap64 (wrap64 L * 2) = _; rw [wrap64_mul, Int.mul_comm]
  have e2 : cShr (wrap64 (b * 9223372036854775808 + Z + Q)) 63 = b := by
    rw [cShr_is _ (by decide) (by decide)]; show wrap64 (wrap64 (b * 9223372036854775808 + Z + Q) % 18446744073709551616 / 9223372036854775808) = _
    unfold wrap64; omega
  have e3 : cShl (wrap64 (b * 9223372036854775808 + Z + Q)) 1 = wrap64 (2 * Z + 2 * Q) := by
    rw [cShl_is _ (by decide) (by decide)]; show wrap64 (wrap64 (b * 9223372036854775808 + Z + Q) * 2) = _
    rw [wrap64_mul]; apply wrap64_congr; omega
  refine ⟨_, rfl, ?_, e3, ?_, ?_, ?_⟩
  · rw [e1, e2, bits_or_low _ _ hb]
  · rw [e1, e2, bits_or_low _ _ hb, cUlt_is, wrap64_emod]
    unfold wrap64
    generalize hU : u % 18446744073709551616 = U at *
    by_cases hl : L < 9223372036854775808
    · have n1 : ¬ (L + 9223372036854775808) % 18446744073709551616 - 9223372036854775808 < 0 := by omega
      have e4 : (2 * L + b) % 18446744073709551616 = 2 * L + b := by omega
      rw [e4]
      by_cases hc : 2 * L + b < U
      · have hc' : ¬ U ≤ 2 * L + b := by omega
        simp [n1, hc, hc']
      · have hc' : U ≤ 2 * L + b := by omega
        simp [n1, hc, hc']
    · have n1 : (L + 9223372036854775808) % 18446744073709551616 - 9223372036854775808 < 0 := by omega
      have hc' : U ≤ 2 * L + b := by omega
      simp [n1, hc']
  · rw [e1, e2, bits_or_low _ _ hb]; apply wrap64_congr; unfold wrap64; omega
  · apply wrap64_congr; unfold wrap64; omega
/-- What is left, and the quotient with the digits that are still to come, behind k digits. -/
def dgL (X U : Int) (k : Nat) : Int := wrap64 (X / 2 ^ (64 - k) % U)
def dgQ (X U : Int) (k : Nat) : Int := wrap64 (X % 2 ^ (64 - k) * 2 ^ k + X / 2 ^ (64 - k) / U)
theorem dg_parts (X U : Int) (k : Nat) (hk : k < 64) (hX : 0 ≤ X) (hU : 0 < U) (hH : X / 18446744073709551616 < U) :
    ∃ L Q b Z : Int, 0 ≤ L ∧ L < U ∧ 0 ≤ Q ∧ 0 ≤ Z ∧ Z + Q < 9223372036854775808 ∧ (b = 0 ∨ b = 1) ∧ dgL X U k = wrap64 L ∧ dgQ X U k = wrap64 (b * 9223372036854775808 + Z + Q) ∧
      (U ≤ 2 * L + b → dgL X U (k + 1) = wrap64 (2 * L + b - U) ∧ dgQ X U (k + 1) = wrap64 (2 * Z + (2 * Q + 1))) ∧
      (¬ U ≤ 2 * L + b → dgL X U (k + 1) = wrap64 (2 * L + b) ∧ dgQ X U (k + 1) = wrap64 (2 * Z + 2 * Q)) := by
  have ek : 64 - k = 63 - k + 1 := by omega
  have ek' : 64 - (k + 1) = 63 - k := by omega
  have hp : (0 : Int) < 2 ^ (63 - k) := pow_pos' _
  have hr : (0 : Int) < 2 ^ k := pow_pos' _
  have hpr : (2 : Int) ^ (63 - k) * 2 ^ k = 9223372036854775808 := by rw [← Int.pow_add, show 63 - k + k = 63 by omega]; rfl
  have hr' : (2 : Int) ^ (k + 1) = 2 ^ k * 2 := Int.pow_succ _ _
  have hp' : (2 : Int) ^ (64 - k) = 2 ^ (63 - k) * 2 := by rw [ek, Int.pow_succ]
  unfold dgL dgQ
  rw [ek', hr', hp']
  generalize (2 : Int) ^ (63 - k) = p at *
  generalize (2 : Int) ^ k = r at *
  -- A = X / (2p), Y = X / p
  have hA : X / (p * 2) = X / p / 2 := by rw [Int.ediv_ediv_of_nonneg (by omega)]
  have hB : X % (p * 2) = (X / p % 2) * p + X % p := by
    have h1 := Int.mul_ediv_add_emod X p
    have h2 := Int.mul_ediv_add_emod X (p * 2)
    rw [hA] at h2
    have h3 := Int.mul_ediv_add_emod (X / p) 2
    generalize X / p = Y at *
    generalize hq : Y / 2 = A at *
    have e : X % (p * 2) = X - p * 2 * A := by omega
    rw [e]
    have e2 : Y = 2 * A + Y % 2 := by omega
    have e3 : X = p * Y + X % p := by omega
    have e4 : p * Y = p * 2 * A + p * (Y % 2) := by
      rw [show p * 2 * A = p * (2 * A) by grind, ← Int.mul_add, ← e2]
    rw [Int.mul_comm (Y % 2) p]; omega
  have hm0 : 0 ≤ X % p := Int.emod_nonneg _ (by omega)
  have hm1 : X % p < p := Int.emod_lt_of_pos _ hp
  have hY0 : 0 ≤ X / p := Int.ediv_nonneg hX (by omega)
  -- A < r * U
  have hM : X < 18446744073709551616 * U := by
    have := Int.lt_mul_ediv_self_add (x := X) (k := 18446744073709551616) (by decide)
    omega
  rw [hB, hA]
  generalize hYd : X / p = Y at *
  have hAr : Y / 2 < r * U := by
    have h1 : p * Y ≤ X := by rw [← hYd]; have := Int.mul_ediv_add_emod X p; omega
    have h2 : p * Y < p * (2 * (r * U)) := by
      have : p * (2 * (r * U)) = 18446744073709551616 * U := by
        rw [show p * (2 * (r * U)) = (p * r) * 2 * U by grind, hpr]; rfl
      omega
    have h3 : Y < 2 * (r * U) := Int.lt_of_mul_lt_mul_left h2 (by omega)
    omega
  have hA0 : 0 ≤ Y / 2 := by omega
  have hL0 : 0 ≤ Y / 2 % U := Int.emod_nonneg _ (by omega)
  have hL1 : Y / 2 % U < U := Int.emod_lt_of_pos _ hU
  have hQ0 : 0 ≤ Y / 2 / U := Int.ediv_nonneg hA0 (by omega)
  have hQ1 : Y / 2 / U < r := Int.ediv_lt_of_lt_mul hU hAr
  have hZ0 : 0 ≤ X % p * r := Int.mul_nonneg hm0 (by omega)
  have hZ1 : X % p * r ≤ 9223372036854775808 - r := by
    have h1 : X % p * r ≤ (p - 1) * r := Int.mul_le_mul_of_nonneg_right (by omega) (by omega)
    have h2 : (p - 1) * r = p * r - r := by grind
    omega
  have hsum := Int.mul_ediv_add_emod (Y / 2) U
  refine ⟨Y / 2 % U, Y / 2 / U, Y % 2, X % p * r, hL0, hL1, hQ0, hZ0, by omega, by omega, rfl, ?_, ?_, ?_⟩
  · have : (Y % 2 * p + X % p) * r = Y % 2 * (p * r) + X % p * r := by grind
    rw [this, hpr]
  · intro hc
    have hq : Y / U = 2 * (Y / 2 / U) + 1 ∧ Y % U = 2 * (Y / 2 % U) + Y % 2 - U := by
      have e : Y = (2 * (Y / 2 / U) + 1) * U + (2 * (Y / 2 % U) + Y % 2 - U) := by
        have : (2 * (Y / 2 / U) + 1) * U = 2 * (U * (Y / 2 / U)) + U := by grind
        omega
      have hlt : 2 * (Y / 2 % U) + Y % 2 - U < U := by omega
      exact div_mod_of hU e (by omega) hlt
    rw [hq.1, hq.2]
    refine ⟨rfl, ?_⟩
    rw [show X % p * (r * 2) = 2 * (X % p * r) by grind]
  · intro hc
    have hq : Y / U = 2 * (Y / 2 / U) ∧ Y % U = 2 * (Y / 2 % U) + Y % 2 := by
      have e : Y = (2 * (Y / 2 / U)) * U + (2 * (Y / 2 % U) + Y % 2) := by
        have : (2 * (Y / 2 / U)) * U = 2 * (U * (Y / 2 / U)) := by grind
        omega
      have hlt : 2 * (Y / 2 % U) + Y % 2 < U := by omega
      exact div_mod_of hU e (by omega) hlt
    rw [hq.1, hq.2]
    refine ⟨rfl, ?_⟩
    rw [show X % p * (r * 2) = 2 * (X % p * r) by grind]
end Go.Proofs.Yticeeckahdjjmaa
