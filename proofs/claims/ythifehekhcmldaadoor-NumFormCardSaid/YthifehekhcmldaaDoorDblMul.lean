/-
  What the calls UMul and Mul of package dbl answer, and Mul64 of math/bits: the product of both without signs, and with them. The world has new blocks alone.
-/
import Derived.Test.YthifehekhcmldaaDoorDblCmp
import Derived.Shelf.Bits.Mul64
import Derived.Deep.RegionWith
namespace Go.Proofs.YthifehekhcmldaaDoor
open Go.RowKit Go.Shelf
/-- Where the library's Mul64 lies in this translation: its function's number, and its types'. -/
def renMul : Ren := ⟨fun f => if f = 264 then 41 else 0, fun t => if t = 53 then 69 else if t = 46 then 65 else 0, fun _ => 0⟩
theorem laysMul : Lays.n264 Tryd.prog renMul where
  mixed := by kernel_rfl
  f264 := by kernel_rfl
  t46 := by kernel_rfl
  a46 := fun _ => by kernel_rfl
  z46 := fun _ => by kernel_rfl
  v46 := fun _ => by kernel_rfl
  t53 := by kernel_rfl
  a53 := fun _ => by kernel_rfl
  z53 := fun _ => by kernel_rfl
  v53 := fun _ => by kernel_rfl
theorem mul64_any (x y : Nat) (hx : x < 18446744073709551616) (hy : y < 18446744073709551616) (w : World) :
    Calls Tryd.prog 41 #[.int .u64 x, .int .u64 y] w fun e w' => e = .returned (.tuple #[.int .u64 ((x * y / 18446744073709551616 : Nat) : Int), .int .u64 ((x * y % 18446744073709551616 : Nat) : Int)]) ∧ w = w' :=
  (Any.bits_Mul64 laysMul x y hx hy w).mono fun _ _ h => ⟨h.1, h.2.symm⟩
theorem uprod_hi (a b : Int) : ((((a % 18446744073709551616).toNat * (b % 18446744073709551616).toNat / 18446744073709551616 : Nat) : Int)) = uProd a b / 18446744073709551616 := by
  unfold uProd
  rw [Int.natCast_ediv, Int.natCast_mul, Int.toNat_of_nonneg (by omega), Int.toNat_of_nonneg (by omega)]; rfl
theorem uprod_lo (a b : Int) : ((((a % 18446744073709551616).toNat * (b % 18446744073709551616).toNat % 18446744073709551616 : Nat) : Int)) = uProd a b % 18446744073709551616 := by
  unfold uProd
  rw [Int.natCast_emod, Int.natCast_mul, Int.toNat_of_nonneg (by omega), Int.toNat_of_nonneg (by omega)]; rfl
theorem mul64_int (a b : Int) (w : World) :
    Calls Tryd.prog 41 #[.int .u64 (IntKind.u64.wrap a), .int .u64 (IntKind.u64.wrap b)] w fun e w' => e = .returned (.tuple #[.int .u64 (uProd a b / 18446744073709551616), .int .u64 (uProd a b % 18446744073709551616)]) ∧ w = w' := by
  have h := mul64_any (a % 18446744073709551616).toNat (b % 18446744073709551616).toNat (by omega) (by omega) w
  rw [uprod_hi, uprod_lo, Int.toNat_of_nonneg (by omega), Int.toNat_of_nonneg (by omega)] at h
  rw [u64w, u64w]
  exact h
theorem umul_lo (x : Int) : IntKind.i64.wrap (x % 18446744073709551616) = dLo x := by rw [wrapi64]; unfold dLo wrap64; omega
theorem umul_hi (x : Int) : IntKind.i64.wrap (x / 18446744073709551616) = dHi x := by rw [wrapi64]; unfold dHi wrap64; omega
set_option maxHeartbeats 400000 in
theorem dumul_any (a b : Int) (w : World) :
    Calls Tryd.prog 39 #[.int .i64 a, .int .i64 b] w fun e w' => e = .returned (.agg #[.int .i64 (dLo (uProd a b)), .int .i64 (dHi (uProd a b))]) ∧ Grown w w' := by
  go_enter Tryd.func39, Tryd.ntmps39
  go_wp2_with (go_at_call 41; refine (mul64_int _ _ _).mono ?_; rintro e w' ⟨rfl, rfl⟩)
  refine bodyPost_ret (v := .agg #[.int .i64 (wrap64 (uProd a b % 18446744073709551616)), .int .i64 (wrap64 (uProd a b / 18446744073709551616))]) (by simp [results, Tryd.results39, go_sem]) rfl ⟨ret_dbl (by rw [← wrapi64]; exact umul_lo _) rfl, (Grown.refl w).alloc _ _⟩
theorem bits_and_flag (p : Bool) (x : Int) (h : InC x) : bits .and .i64 (flagZ p) x = if p then x else 0 := by
  unfold InC at h
  show IntKind.i64.wrap ((BitVec.ofInt 64 (flagZ p) &&& BitVec.ofInt 64 x).toNat : Int) = _
  cases p
  · rw [show flagZ false = 0 from rfl, show BitVec.ofInt 64 0 = 0#64 by decide, BitVec.zero_and, wrapi64]; simp [wrap64]
  · rw [show flagZ true = -1 from rfl, show BitVec.ofInt 64 (-1) = BitVec.allOnes 64 by decide, BitVec.allOnes_and, ofInt64, wrapi64]
    unfold wrap64
    simp
    omega
theorem mul_hi (a b : Int) (ha : InC a) (hb : InC b) : wrap64 (dHi (uProd a b) - wrap64 (bits .and .i64 (flagZ (decide (a < 0))) b + bits .and .i64 (flagZ (decide (b < 0))) a)) = dHi (a * b) := by
  rw [bits_and_flag _ _ hb, bits_and_flag _ _ ha]
  unfold InC at ha hb
  have e1 : a % 18446744073709551616 = a + (if a < 0 then 18446744073709551616 else 0) := by split <;> omega
  have e2 : b % 18446744073709551616 = b + (if b < 0 then 18446744073709551616 else 0) := by split <;> omega
  unfold uProd dHi
  rw [e1, e2]
  by_cases h1 : a < 0 <;> by_cases h2 : b < 0 <;> simp only [h1, h2, decide_true, decide_false, if_true, if_false]
  · rw [show (a + 18446744073709551616) * (b + 18446744073709551616) = a * b + (a + b + 18446744073709551616) * 18446744073709551616 by grind, Int.add_mul_ediv_right _ _ (by decide)]
    generalize a * b / 18446744073709551616 = q
    unfold wrap64; simp; omega
  · rw [show (a + 18446744073709551616) * (b + 0) = a * b + b * 18446744073709551616 by grind, Int.add_mul_ediv_right _ _ (by decide)]
    generalize a * b / 18446744073709551616 = q
    unfold wrap64; simp; omega
  · rw [show (a + 0) * (b + 18446744073709551616) = a * b + a * 18446744073709551616 by grind, Int.add_mul_ediv_right _ _ (by decide)]
    generalize a * b / 18446744073709551616 = q
    unfold wrap64; simp; omega
  · rw [show (a + 0) * (b + 0) = a * b by grind]
    generalize a * b / 18446744073709551616 = q
    unfold wrap64; simp
theorem mul_lo (a b : Int) : dLo (uProd a b) = dLo (a * b) := by
  unfold uProd dLo
  apply wrap64_congr
  rw [← Int.mul_emod]
end Go.Proofs.YthifehekhcmldaaDoor
