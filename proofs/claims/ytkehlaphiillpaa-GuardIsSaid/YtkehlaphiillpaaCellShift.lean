/-
  Plain arithmetic of shifts of cells: no condition but where one is typed.
-/
import Derived.Test.YtkehlaphiillpaaCellMath
namespace Go.Proofs.Ytkehlaphiillpaa
open Go.RowKit

theorem wrap64_congr {x y : Int} (h : x % 18446744073709551616 = y % 18446744073709551616) : wrap64 x = wrap64 y := by unfold wrap64; omega
theorem wrap64_emod (x : Int) : wrap64 x % 18446744073709551616 = x % 18446744073709551616 := by unfold wrap64; omega
theorem emod_wrap64 (x : Int) : wrap64 (x % 18446744073709551616) = wrap64 x := by unfold wrap64; omega
theorem wrap64_mul (x y : Int) : wrap64 (wrap64 x * y) = wrap64 (x * y) := by
  apply wrap64_congr
  rw [Int.mul_emod, wrap64_emod, ← Int.mul_emod]
theorem wrap64_mul' (x y : Int) : wrap64 (x * wrap64 y) = wrap64 (x * y) := by
  rw [Int.mul_comm, wrap64_mul, Int.mul_comm]
theorem u64w_small {k : Int} (h0 : 0 ≤ k) (h1 : k ≤ 64) : min (IntKind.u64.wrap k).toNat 64 = k.toNat := by
  rw [u64w]; omega
theorem cShl_is (a : Int) {k : Int} (h0 : 0 ≤ k) (h1 : k ≤ 64) : cShl a k = wrap64 (a * 2 ^ k.toNat) := by
  unfold cShl
  rw [u64w_small h0 h1, u64w, u64w, emod_wrap64]
  apply wrap64_congr
  rw [Int.mul_emod, Int.emod_emod, ← Int.mul_emod]
theorem cShr_is (a : Int) {k : Int} (h0 : 0 ≤ k) (h1 : k ≤ 64) : cShr a k = wrap64 (a % 18446744073709551616 / 2 ^ k.toNat) := by
  unfold cShr
  rw [u64w_small h0 h1, u64w]
theorem pow_pos' (k : Nat) : (0 : Int) < 2 ^ k := Int.pow_pos (by decide)
theorem pow_dvd {k : Nat} (h : k ≤ 64) : ((2 : Int) ^ k) ∣ 18446744073709551616 :=
  ⟨2 ^ (64 - k), by rw [← Int.pow_add, show k + (64 - k) = 64 by omega]; decide⟩

theorem sh_1 (a : Int) {k : Int} (h0 : 0 ≤ k) (h1 : k ≤ 64) : cShl (cShr (cShl a k) k) k = cShl a k := by
  rw [cShl_is _ h0 h1, cShr_is _ h0 h1, cShl_is a h0 h1, wrap64_mul, wrap64_emod]
  have hd := pow_dvd (k := k.toNat) (by omega)
  rw [Int.ediv_mul_cancel (Int.dvd_of_emod_eq_zero (by rw [Int.emod_emod_of_dvd _ hd]; exact Int.mul_emod_left _ _)), emod_wrap64]
theorem shr_bound (a : Int) (k : Nat) : 0 ≤ a % 18446744073709551616 / 2 ^ k ∧ a % 18446744073709551616 / 2 ^ k * 2 ^ k ≤ a % 18446744073709551616 ∧ a % 18446744073709551616 / 2 ^ k ≤ a % 18446744073709551616 := by
  have hp := pow_pos' k
  exact ⟨Int.ediv_nonneg (by omega) (by omega), Int.ediv_mul_le _ (by omega), Int.ediv_le_self _ (by omega)⟩
theorem sh_2 (a : Int) {k : Int} (h0 : 0 ≤ k) (h1 : k ≤ 64) : cShr (cShl (cShr a k) k) k = cShr a k := by
  rw [cShr_is _ h0 h1, cShl_is _ h0 h1, cShr_is a h0 h1, wrap64_mul, wrap64_emod]
  have hp := pow_pos' k.toNat
  obtain ⟨b0, b1, b2⟩ := shr_bound a k.toNat
  have hm : 0 ≤ a % 18446744073709551616 / 2 ^ k.toNat * 2 ^ k.toNat := Int.mul_nonneg b0 (by omega)
  rw [Int.emod_eq_of_lt hm (by omega), Int.mul_ediv_cancel _ (by omega)]
theorem sh_3 (a : Int) {k : Int} (h0 : 0 ≤ k) (h1 : k < 64) : cShl (cShl a k) 1 = cShl a (k + 1) := by
  rw [cShl_is _ (by decide) (by decide), cShl_is _ h0 (by omega), cShl_is a (by omega) (by omega), wrap64_mul, show (k + 1).toNat = k.toNat + 1 by omega, Int.pow_succ, Int.mul_assoc]
  rfl
theorem sh_far {n : Int} (h : InC n) (h1 : n < 0 ∨ 63 < n) : min (IntKind.u64.wrap n).toNat 64 = 64 := by
  unfold InC at h
  rw [u64w]; omega
theorem sh_4 (a : Int) {n : Int} (h : InC n) (h1 : n < 0 ∨ 63 < n) : cShl a n = 0 := by
  unfold cShl
  rw [sh_far h h1, u64w, u64w, show (2 : Int) ^ 64 = 18446744073709551616 by decide, Int.mul_emod_left]
  unfold wrap64; decide
theorem sh_5 (a : Int) {n : Int} (h : InC n) (h1 : n < 0 ∨ 63 < n) : cShr a n = 0 := by
  unfold cShr
  rw [sh_far h h1, u64w, show (2 : Int) ^ 64 = 18446744073709551616 by decide]
  unfold wrap64; omega
theorem sh_6 {a : Int} (h : InC a) : cShr a 0 = a := by
  rw [cShr_is _ (by decide) (by decide)]
  unfold wrap64 InC at *
  simp
  omega
theorem sh_7 (a : Int) {k : Int} (h0 : 0 ≤ k) (h1 : k ≤ 64) : cShl a k = wrap64 (a * cShl 1 k) := by
  rw [cShl_is a h0 h1, cShl_is 1 h0 h1, wrap64_mul', Int.one_mul]
end Go.Proofs.Ytkehlaphiillpaa
