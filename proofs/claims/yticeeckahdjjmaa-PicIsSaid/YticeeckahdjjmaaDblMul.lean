/-
  What the calls UMul and Mul of package dbl answer, and Mul64 of math/bits: the product of both without signs, and with them. The world has new blocks alone.
-/
import Derived.Test.YticeeckahdjjmaaDblCmp
import Derived.Shelf.Bits.Mul64
import Derived.Deep.RegionWith
namespace Go.Proofs.Yticeeckahdjjmaa
open Go.RowKit Go.Shelf
theorem uprod_hi (a b : Int) : ((((a % 18446744073709551616).toNat * (b % 18446744073709551616).toNat / 18446744073709551616 : Nat) : Int)) = uProd a b / 18446744073709551616 := by
  unfold uProd
  rw [Int.natCast_ediv, Int.natCast_mul, Int.toNat_of_nonneg (by omega), Int.toNat_of_nonneg (by omega)]; rfl
theorem uprod_lo (a b : Int) : ((((a % 18446744073709551616).toNat * (b % 18446744073709551616).toNat % 18446744073709551616 : Nat) : Int)) = uProd a b % 18446744073709551616 := by
  unfold uProd
  rw [Int.natCast_emod, Int.natCast_mul, Int.toNat_of_nonneg (by omega), Int.toNat_of_nonneg (by omega)]; rfl
theorem umul_lo (x : Int) : IntKind.i64.wrap (x % 18446744073709551616) = dLo x := by rw [wrapi64]; unfold dLo wrap64; omega
theorem umul_hi (x : Int) : IntKind.i64.wrap (x / 18446744073709551616) = dHi x := by rw [wrapi64]; unfold dHi wrap64; omega
theorem bits_and_flag (p : Bool) (x : Int) (h : InC x) : bits .and .i64 (flagZ p) x = if p then x else 0 := by
  unfold InC at h
  show IntKind.i64.wrap ((BitVec.ofInt 64 (flagZ p) &&& BitVec.ofInt 64 x).toNat : Int) = _
  cases p
  · rw [show flagZ false = 0 from rfl, show BitVec.ofInt 64 0 = 0#64 by decide, BitVec.zero_and, wrapi64]; simp [wrap64]
  · rw [show flagZ true = -1 from rfl, show BitVec.ofInt 64 (-1) = BitVec.allOnes 64 by decide, BitVec.allOnes_and, ofInt64, wrapi64]
    unfold wrap64
    simp
    omega
theorem mul_hi (a b : Int) (ha : InC a) (hb : InC b) : wrap64 (dHi (uProd a b) - wrap64 (bits .and .i64 (flagZ (decide (a < 0))) b + bits .and .i64 (flagZ (decide (b < 0))) a)) = dHi (a * b) := by
  rw [bits_and_flag _ _ hb, bits_and_flag _ _ ha]
  unfold InC at ha hb
  have e1 : a % 18446744073709551616 = a + (if a < 0 then 18446744073709551616 else 0) := by split <;> omega
  have e2 : b % 18446744073709551616 = b + (if b < 0 then 18446744073709551616 else 0) := by split <;> omega
  unfold uProd dHi
  rw [e1, e2]
  by_cases h1 : a < 0 <;> by_cases h2 : b < 0 <;> simp only [h1, h2, decide_true, decide_false, if_true, if_false]
  · rw [show (a + 18446744073709551616) * (b + 18446744073709551616) = a * b + (a + b + 18446744073709551616) * 18446744073709551616 by grind, Int.add_mul_ediv_right _ _ (by decide)]
    generalize a * b / 18446744073709551616 = q
    unfold wrap64; simp; omega
  · rw [show (a + 18446744073709551616) * (b + 0) = a * b + b * 18446744073709551616 by grind, Int.add_mul_ediv_right _ _ (by decide)]
    generalize a * b / 18446744073709551616 = q
    unfold wrap64; simp; omega
  · rw [show (a + 0) * (b + 18446744073709551616) = a * b + a * 18446744073709551616 by grind, Int.add_mul_ediv_right _ _ (by decide)]
    generalize a * b / 18446744073709551616 = q
    unfold wrap64; simp; omega
  · rw [show (a + 0) * (b + 0) = a * b by grind]
    generalize a * b / 18446744073709551616 = q
    unfold wrap64; simp
theorem mul_lo (a b : Int) : dLo (uProd a b) = dLo (a * b) := by
  unfold uProd dLo
  apply wrap64_congr
  rw [← Int.mul_emod]
end Go.Proofs.Yticeeckahdjjmaa
