/-
  What the calls UMul and Mul of package dbl answer, and Mul64 of math/bits: the product of both without signs, and with them. The world has new blocks alone.
-/
import Derived.Test.YtnlkggfgloblcaaGreatDblCmp
import Derived.Shelf.Bits.Mul64
import Derived.Deep.RegionWith
namespace Go.Proofs.YtnlkggfgloblcaaGreat
open Go.RowKit Go.Shelf
/-- Where the library's Mul64 lies in this translation: its function's number, and its types'. -/
def renMul : Ren := ⟨fun f => if f = 264 then 139 else 0, fun t => if t = 53 then 78 else if t = 46 then 58 else 0, fun _ => 0⟩
theorem laysMul : Lays.n264 Tryz.prog renMul where
  mixed := by kernel_rfl
  f264 := by kernel_rfl
  t46 := by kernel_rfl
  a46 := fun _ => by kernel_rfl
  z46 := fun _ => by kernel_rfl
  v46 := fun _ => by kernel_rfl
  t53 := by kernel_rfl
  a53 := fun _ => by kernel_rfl
  z53 := fun _ => by kernel_rfl
  v53 := fun _ => by kernel_rfl
theorem mul64_any (x y : Nat) (hx : x < 18446744073709551616) (hy : y < 18446744073709551616) (w : World) :
    Calls Tryz.prog 139 #[.int .u64 x, .int .u64 y] w fun e w' => e = .returned (.tuple #[.int .u64 ((x * y / 18446744073709551616 : Nat) : Int), .int .u64 ((x * y % 18446744073709551616 : Nat) : Int)]) ∧ w = w' :=
  (Any.bits_Mul64 laysMul x y hx hy w).mono fun _ _ h => ⟨h.1, h.2.symm⟩
theorem uprod_hi (a b : Int) : ((((a % 18446744073709551616).toNat * (b % 18446744073709551616).toNat / 18446744073709551616 : Nat) : Int)) = uProd a b / 18446744073709551616 := by
  unfold uProd
  rw [Int.natCast_ediv, Int.natCast_mul, Int.toNat_of_nonneg (by omega), Int.toNat_of_nonneg (by omega)]; rfl
theorem uprod_lo (a b : Int) : ((((a % 18446744073709551616).toNat * (b % 18446744073709551616).toNat % 18446744073709551616 : Nat) : Int)) = uProd a b % 18446744073709551616 := by
  unfold uProd
  rw [Int.natCast_emod, Int.natCast_mul, Int.toNat_of_nonneg (by omega), Int.toNat_of_nonneg (by omega)]; rfl
theorem mul64_int (a b : Int) (w : World) :
    Calls Tryz.prog 139 #[.int .u64 (IntKind.u64.wrap a), .int .u64 (IntKind.u64.wrap b)] w fun e w' => e = .returned (.tuple #[.int .u64 (uProd a b / 18446744073709551616), .int .u64 (uProd a b % 18446744073709551616)]) ∧ w = w' := by
  have h := mul64_any (a % 18446744073709551616).toNat (b % 18446744073709551616).toNat (by omega) (by omega) w
  rw [uprod_hi, uprod_lo, Int.toNat_of_nonneg (by omega), Int.toNat_of_nonneg (by omega)] at h
  rw [u64w, u64w]
  exact h
theorem umul_lo (x : Int) : IntKind.i64.wrap (x % 18446744073709551616) = dLo x := by rw [wrapi64]; unfold dLo wrap64; omega
theorem umul_hi (x : Int) : IntKind.i64.wrap (x / 18446744073709551616) = dHi x := by rw [wrapi64]; unfold dHi wrap64; omega
set_option maxHeartbeats 400000 in
theorem dumul_any (a b : Int) (w : World) :
    Calls Tryz.prog 96 #[.int .i64 a, .int .i64 b] w fun e w' => e = .returned (.agg #[.int .i64 (dLo (uProd a b)), .int .i64 (dHi (uProd a b))]) ∧ Grown w w' := by
  go_enter Tryz.func96, Tryz.ntmps96
  go_wp2_with (go_at_call 139; refine (mul64_int _ _ _).mono ?_; rintro e w' ⟨rfl, rfl⟩)
  refine bodyPost_ret (v := .agg #[.int .i64 (wrap64 (uProd a b % 18446744073709551616)), .int .i64 (wrap64 (uProd a b / 18446744073709551616))]) (by simp [results, Tryz.results96, go_sem]) rfl ⟨ret_dbl (by rw [← wrapi64]; exact umul_lo _) rfl, (Grown.refl w).alloc _ _⟩
theorem bits_and_flag (p : Bool) (x : Int) (h : InC x) : bits .and .i64 (flagZ p) x = if p then x else 0 := by
  unfold InC at h
  show IntKind.i64.wrap ((BitVec.ofInt 64 (flagZ p) &&& BitVec.ofInt 64 x).toNat : Int) = _
  cases p
  · rw [show flagZ false = 0 from rfl, show BitVec.ofInt 64 0 = 0#64 by decide, BitVec.zero_and, wrapi64]; simp [wrap64]
  · rw [show flagZ true = -1 from rfl, show BitVec.ofInt 64 (-1) = BitVec.allOnes 64 by decide, BitVec.allOnes_and, ofInt64, wrapi64]
    unfold wrap64
    simp
    omega
theorem mul_hi (a b : Int) (ha : InC a) (hb : InC b) : wrap64 (dHi (uProd a b) - wrap64 (bits .and .i64 (flagZ (decide (a < 0))) b + bits .and .i64 (flagZ (decide (b < 0))) a)) = dHi (a * b) := by
  rw [bits_and_flag _ _ hb, bits_and_flag _ _ ha]
  unfold InC at ha hb
  have e1 : a % 18446744073709551616 = a + (if a < 0 then 18446744073709551616 else 0) := by split <;> omega
  have e2 : b % 18446744073709551616 = b + (if b < 0 then 18446744073709551616 else 0) := by split <;> omega
  unfold uProd dHi
  rw [e1, e2]
  by_cases h1 : a < 0 <;> by_cases h2 : b < 0 <;> simp only [h1, h2, decide_true, decide_false, if_true, if_false]
  · rw [show (a + 18446744073709551616) * (b + 18446744073709551616) = a * b + (a + b + 18446744073709551616) * 18446744073709551616 by grind, Int.add_mul_ediv_right _ _ (by decide)]
    generalize a * b / 18446744073709551616 = q
    unfold wrap64; simp; omega
  · rw [show (a + 18446744073709551616) * (b + 0) = a * b + b * 18446744073709551616 by grind, Int.add_mul_ediv_right _ _ (by decide)]
    generalize a * b / 18446744073709551616 = q
    unfold wrap64; simp; omega
  · rw [show (a + 0) * (b + 18446744073709551616) = a * b + a * 18446744073709551616 by grind, Int.add_mul_ediv_right _ _ (by decide)]
    generalize a * b / 18446744073709551616 = q
    unfold wrap64; simp; omega
  · rw [show (a + 0) * (b + 0) = a * b by grind]
    generalize a * b / 18446744073709551616 = q
    unfold wrap64; simp
theorem mul_lo (a b : Int) : dLo (uProd a b) = dLo (a * b) := by
  unfold uProd dLo
  apply wrap64_congr
  rw [← Int.mul_emod]
set_option maxHeartbeats 400000 in
theorem dmul_any (a b : Int) (ha : InC a) (hb : InC b) (w : World) :
    Calls Tryz.prog 98 #[.int .i64 a, .int .i64 b] w fun e w' => e = .returned (.agg #[.int .i64 (dLo (a * b)), .int .i64 (dHi (a * b))]) ∧ Grown w w' := by
  have H1 := Lib.hid (mul_hi a b ha hb)
  have H2 := Lib.hid (mul_lo a b)
  clear ha hb
  go_enter Tryz.func98, Tryz.ntmps98
  go_wp2_with (go_at_call 96; refine (dumul_any _ _ _).mono ?_; rintro e w1 ⟨rfl, hw1⟩; obtain ⟨c0, c1, f0, f1⟩ := resD hw1 (R := w.heap.size) (by simp) ⟨by simp [go_sem]; rfl, by simp [go_sem]; rfl, by simp [go_sem], by simp [go_sem]⟩; have hsz : w.heap.size < w1.heap.size := by have := hw1.2.2; simp at this; omega)
  go_region_with (go_at_call 138; refine (flag_z _ _).mono ?_; rintro e w' ⟨rfl, rfl⟩)
  all_goals
    go_wp2
    refine bodyPost_ret (v := .agg #[.int .i64 (dLo (uProd a b)), .int .i64 (wrap64 (dHi (uProd a b) - wrap64 (bits .and .i64 (flagZ (decide (a < 0))) b + bits .and .i64 (flagZ (decide (b < 0))) a)))]) (by simp [results, Tryz.results98, go_sem, c0, c1, hsz]) rfl ⟨ret_dbl H2.out H1.out, ?_⟩
    exact ((((grown_trans ((Grown.refl w).alloc _ _) hw1).setCell (Nat.le_refl _) _).setCell (Nat.le_refl _) _).alloc _ _).drew
end Go.Proofs.YtnlkggfgloblcaaGreat
