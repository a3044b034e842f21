/-
  Plain arithmetic of a division of two 64-bit parts by a small number, as math/bits lays it out: the number is shifted up, and the quotient found in two halves. Nothing of a translated program is imported.
-/
import Derived.Test.YticeeckahdjjmaaCellShift
namespace Go.Proofs.Yticeeckahdjjmaa
open Go.RowKit

theorem dm_of {Y U q r : Int} (hU : 0 < U) (e : Y = q * U + r) (h0 : 0 ≤ r) (h1 : r < U) : Y / U = q ∧ Y % U = r := by
  subst e
  constructor
  · rw [Int.add_comm, Int.add_mul_ediv_right _ _ (by omega), Int.ediv_eq_zero_of_lt h0 h1]; omega
  · rw [Int.add_comm, Int.add_mul_emod_self_right, Int.emod_eq_of_lt h0 h1]
theorem u64wrap (x : Int) : IntKind.u64.wrap x = x % 18446744073709551616 := rfl

section
variable (h l y P R N : Int)
/-- The high part, shifted up; the low one's halves; the quotient's halves and what is left behind them. -/
def dvU : Int := h * P + l / R
def dvL : Int := l * P % 18446744073709551616
def dvA : Int := dvL l P / 4294967296
def dvB : Int := dvL l P % 4294967296
def dvQ1 : Int := dvU h l P R / N
def dvR1 : Int := dvU h l P R % N
def dvV : Int := dvR1 h l P R N * 4294967296 + dvA l P
def dvQ0 : Int := dvV h l P R N / N
def dvR0 : Int := dvV h l P R N % N
structure DvIn : Prop where
  h0 : 0 ≤ h
  h1 : h < y
  l0 : 0 ≤ l
  l1 : l < 18446744073709551616
  p : 0 < P
  r : 0 < R
  pr : P * R = 18446744073709551616
  n : y * P = N * 4294967296
  n0 : 0 < N
  n1 : N < 4294967296
variable {h l y P R N}
theorem dvL_is (d : DvIn h l y P R N) : dvL l P = l % R * P ∧ l * P = l / R * 18446744073709551616 + dvL l P ∧ 0 ≤ dvL l P ∧ dvL l P < 18446744073709551616 := by
  have e : l * P = (l / R) * 18446744073709551616 + l % R * P := by
    have h1 := Int.mul_ediv_add_emod l R
    have h2 : l * P = (R * (l / R) + l % R) * P := by rw [h1]
    rw [h2, ← d.pr]; grind
  have m0 := Int.emod_nonneg l (show R ≠ 0 by have := d.r; omega)
  have m1 := Int.emod_lt_of_pos l d.r
  have k0 : 0 ≤ l % R * P := Int.mul_nonneg m0 (by have := d.p; omega)
  have k1 : l % R * P < 18446744073709551616 := by
    rw [← d.pr, Int.mul_comm P R]
    exact Int.mul_lt_mul_of_pos_right m1 d.p
  have := dm_of (U := 18446744073709551616) (by decide) e k0 k1
  unfold dvL
  refine ⟨this.2, by rw [this.2]; exact e, by omega, by omega⟩
theorem dvU_is (d : DvIn h l y P R N) : 0 ≤ h * P ∧ h * P < 18446744073709551616 ∧ 0 ≤ l / R ∧ l / R < P ∧ 0 ≤ dvU h l P R ∧ dvU h l P R < N * 4294967296 := by
  have a0 : 0 ≤ h * P := Int.mul_nonneg d.h0 (by have := d.p; omega)
  have a1 : (h + 1) * P ≤ y * P := Int.mul_le_mul_of_nonneg_right (by have := d.h1; omega) (by have := d.p; omega)
  have b0 : 0 ≤ l / R := Int.ediv_nonneg d.l0 (by have := d.r; omega)
  have b1 : l / R < P := Int.ediv_lt_of_lt_mul d.r (by rw [d.pr]; exact d.l1)
  have e := d.n
  have n1 := d.n1
  have e1 : (h + 1) * P = h * P + P := by grind
  unfold dvU
  generalize h * P = X at *
  generalize y * P = Y at *
  generalize l / R = Z at *
  refine ⟨by omega, by omega, by omega, by omega, by omega, by omega⟩
theorem dvQ_is (d : DvIn h l y P R N) : 0 ≤ dvQ1 h l P R N ∧ dvQ1 h l P R N < 4294967296 ∧ 0 ≤ dvR1 h l P R N ∧ dvR1 h l P R N < N ∧ dvU h l P R = dvQ1 h l P R N * N + dvR1 h l P R N ∧
    0 ≤ dvA l P ∧ dvA l P < 4294967296 ∧ 0 ≤ dvV h l P R N ∧ dvV h l P R N < N * 4294967296 := by
  obtain ⟨_, _, _, _, u0, u1⟩ := dvU_is d
  obtain ⟨_, _, l0, l1⟩ := dvL_is d
  have n0 := d.n0
  have q0 : 0 ≤ dvQ1 h l P R N := Int.ediv_nonneg u0 (by omega)
  have q1 : dvQ1 h l P R N < 4294967296 := Int.ediv_lt_of_lt_mul n0 (by rw [Int.mul_comm]; exact u1)
  have r0 : 0 ≤ dvR1 h l P R N := Int.emod_nonneg _ (by omega)
  have r1 : dvR1 h l P R N < N := Int.emod_lt_of_pos _ n0
  have e : dvU h l P R = dvQ1 h l P R N * N + dvR1 h l P R N := by
    have := Int.mul_ediv_add_emod (dvU h l P R) N
    unfold dvQ1 dvR1; rw [Int.mul_comm _ N]; omega
  have a0 : 0 ≤ dvA l P := by unfold dvA; omega
  have a1 : dvA l P < 4294967296 := by unfold dvA; omega
  refine ⟨q0, q1, r0, r1, e, a0, a1, by unfold dvV; omega, by unfold dvV; omega⟩
theorem dvQ0_is (d : DvIn h l y P R N) : 0 ≤ dvQ0 h l P R N ∧ dvQ0 h l P R N < 4294967296 ∧ 0 ≤ dvR0 h l P R N ∧ dvR0 h l P R N < N ∧ dvV h l P R N = dvQ0 h l P R N * N + dvR0 h l P R N := by
  obtain ⟨_, _, _, _, _, _, _, v0, v1⟩ := dvQ_is d
  have n0 := d.n0
  refine ⟨Int.ediv_nonneg v0 (by omega), Int.ediv_lt_of_lt_mul n0 (by rw [Int.mul_comm]; exact v1), Int.emod_nonneg _ (by omega), Int.emod_lt_of_pos _ n0, ?_⟩
  have := Int.mul_ediv_add_emod (dvV h l P R N) N
  unfold dvQ0 dvR0; rw [Int.mul_comm _ N]; omega
theorem dv_sum (d : DvIn h l y P R N) : (h * 18446744073709551616 + l) / y = dvQ1 h l P R N * 4294967296 + dvQ0 h l P R N ∧ (h * 18446744073709551616 + l) % y = (dvR0 h l P R N * 4294967296 + dvB l P) / P := by
  obtain ⟨_, eL, l0, l1⟩ := dvL_is d
  obtain ⟨_, _, r0, r1, eU, _, _, _, _⟩ := dvQ_is d
  obtain ⟨_, _, s0, s1, eV⟩ := dvQ0_is d
  have hy : 0 < y := by have := d.h0; have := d.h1; omega
  have hp := d.p
  have hn := d.n
  have b0 : 0 ≤ dvB l P := by unfold dvB; omega
  have b1 : dvB l P < 4294967296 := by unfold dvB; omega
  have eAB : dvL l P = dvA l P * 4294967296 + dvB l P := by unfold dvA dvB; omega
  have e0 : dvU h l P R = h * P + l / R := rfl
  have eV0 : dvV h l P R N = dvR1 h l P R N * 4294967296 + dvA l P := rfl
  generalize dvQ1 h l P R N = Q1 at *
  generalize dvQ0 h l P R N = Q0 at *
  generalize dvR1 h l P R N = R1 at *
  generalize dvR0 h l P R N = R0 at *
  generalize dvV h l P R N = V at *
  generalize dvU h l P R = U at *
  generalize dvA l P = A at *
  generalize dvB l P = B at *
  generalize dvL l P = L at *
  generalize l / R = Z at *
  have e : (h * 18446744073709551616 + l) * P = ((Q1 * 4294967296 + Q0) * y) * P + (R0 * 4294967296 + B) := by
    have k1 : (h * 18446744073709551616 + l) * P = U * 18446744073709551616 + L := by
      rw [Int.add_mul, eL, e0]; grind
    have k2 : ((Q1 * 4294967296 + Q0) * y) * P = (Q1 * 4294967296 + Q0) * (N * 4294967296) := by rw [Int.mul_assoc, hn]
    rw [k1, k2, eU, eAB]
    have k3 : R1 * 4294967296 + A = Q0 * N + R0 := by omega
    have k4 : A = Q0 * N + R0 - R1 * 4294967296 := by omega
    rw [k4]; grind
  generalize hX : h * 18446744073709551616 + l = X at *
  generalize hQ : Q1 * 4294967296 + Q0 = Q at *
  have hr : R0 * 4294967296 + B = (X - Q * y) * P := by
    have : (X - Q * y) * P = X * P - Q * y * P := by grind
    omega
  have hd : (R0 * 4294967296 + B) / P = X - Q * y := by rw [hr]; exact Int.mul_ediv_cancel _ (by omega)
  have hlt : R0 * 4294967296 + B < y * P := by rw [hn]; omega
  have hz0 : 0 ≤ X - Q * y := by rw [← hd]; exact Int.ediv_nonneg (by omega) (by omega)
  have hz1 : X - Q * y < y := by rw [← hd]; exact Int.ediv_lt_of_lt_mul hp hlt
  have := dm_of hy (show X = Q * y + (X - Q * y) by omega) hz0 hz1
  exact ⟨this.1, by rw [this.2, hd]⟩
/-- All that the walk asks for, in its own spelling. -/
theorem dv_facts (d : DvIn h l y P R N) :
    IntKind.u64.wrap (y * P) = N * 4294967296 ∧ N * 4294967296 / 4294967296 = N ∧ IntKind.u64.wrap (h * P) = h * P ∧
    IntKind.u64.wrap ((dvU h l P R).tdiv N) = dvQ1 h l P R N ∧
    IntKind.u64.wrap (dvU h l P R - IntKind.u64.wrap (dvQ1 h l P R N * N)) = dvR1 h l P R N ∧
    IntKind.u64.wrap (IntKind.u64.wrap (IntKind.u64.wrap (dvU h l P R * 4294967296) + dvA l P) - IntKind.u64.wrap (dvQ1 h l P R N * (N * 4294967296))) = dvV h l P R N ∧
    IntKind.u64.wrap ((dvV h l P R N).tdiv N) = dvQ0 h l P R N ∧
    IntKind.u64.wrap (dvV h l P R N - IntKind.u64.wrap (dvQ0 h l P R N * N)) = dvR0 h l P R N ∧
    IntKind.u64.wrap (IntKind.u64.wrap (dvQ1 h l P R N * 4294967296) + dvQ0 h l P R N) = (h * 18446744073709551616 + l) / y ∧
    IntKind.u64.wrap (IntKind.u64.wrap (IntKind.u64.wrap (dvV h l P R N * 4294967296) + dvB l P) - IntKind.u64.wrap (dvQ0 h l P R N * (N * 4294967296))) / P = (h * 18446744073709551616 + l) % y := by
  obtain ⟨h0, h1, z0, z1, u0, u1⟩ := dvU_is d
  obtain ⟨q0, q1, r0, r1, eU, a0, a1, v0, v1⟩ := dvQ_is d
  obtain ⟨p0, p1, s0, s1, eV⟩ := dvQ0_is d
  obtain ⟨k1, k2⟩ := dv_sum d
  have n0 := d.n0
  have n1 := d.n1
  have hn := d.n
  rw [k1, k2]
  have b0 : 0 ≤ dvB l P := by unfold dvB; omega
  have b1 : dvB l P < 4294967296 := by unfold dvB; omega
  have eV0 : dvV h l P R N = dvR1 h l P R N * 4294967296 + dvA l P := rfl
  simp only [u64wrap]
  have t1 : (dvU h l P R).tdiv N = dvQ1 h l P R N := by rw [Int.tdiv_eq_ediv_of_nonneg u0]; rfl
  have t2 : (dvV h l P R N).tdiv N = dvQ0 h l P R N := by rw [Int.tdiv_eq_ediv_of_nonneg v0]; rfl
  rw [t1, t2, hn]
  have c1 : dvQ1 h l P R N * (N * 4294967296) = dvQ1 h l P R N * N * 4294967296 := by rw [Int.mul_assoc]
  have c2 : dvQ0 h l P R N * (N * 4294967296) = dvQ0 h l P R N * N * 4294967296 := by rw [Int.mul_assoc]
  rw [c1, c2]
  generalize dvQ1 h l P R N = Q1 at *
  generalize dvQ0 h l P R N = Q0 at *
  generalize dvR1 h l P R N = R1 at *
  generalize dvR0 h l P R N = R0 at *
  generalize dvV h l P R N = V at *
  generalize dvU h l P R = U at *
  generalize dvA l P = A at *
  generalize dvB l P = B at *
  generalize h * P = X at *
  generalize Q1 * N = Y1 at *
  generalize Q0 * N = Y0 at *
  refine ⟨by omega, by omega, by omega, by omega, by omega, by omega, by omega, by omega, by omega, ?_⟩
  congr 1
  omega
end

theorem bits_or_up (s X z : Nat) (hs : s ≤ 64) (hX : X * 2 ^ s < 18446744073709551616) (hz : z < 2 ^ s) : bits .or .u64 ((X * 2 ^ s : Nat) : Int) (z : Int) = ((X * 2 ^ s + z : Nat) : Int) := by
  show IntKind.u64.wrap ((BitVec.ofInt 64 ((X * 2 ^ s : Nat) : Int) ||| BitVec.ofInt 64 (z : Int)).toNat : Int) = _
  have hp : (2 : Nat) ^ s ≤ 2 ^ 64 := Nat.pow_le_pow_right (by decide) hs
  have e64 : (2 : Nat) ^ 64 = 18446744073709551616 := by decide
  rw [BitVec.toNat_or, ofInt64, ofInt64]
  have e1 : (((X * 2 ^ s : Nat) : Int) % 18446744073709551616).toNat = X * 2 ^ s := by omega
  have e2 : ((z : Int) % 18446744073709551616).toNat = z := by omega
  rw [e1, e2, ← Nat.shiftLeft_eq, ← Nat.shiftLeft_add_eq_or_of_lt hz, Nat.shiftLeft_eq, u64wrap]
  have e3 : X * 2 ^ s + z < 2 ^ 64 := by
    have h1 : 2 ^ s ∣ 2 ^ 64 := Nat.pow_dvd_pow 2 hs
    obtain ⟨c, hc⟩ := h1
    have h2 : X < c := by
      have h4 : X * 2 ^ s < c * 2 ^ s := by rw [Nat.mul_comm c]; omega
      exact Nat.lt_of_mul_lt_mul_right h4
    have h3 : (X + 1) * 2 ^ s ≤ c * 2 ^ s := Nat.mul_le_mul_right _ h2
    rw [Nat.mul_comm c] at h3
    rw [Nat.add_mul] at h3
    omega
  omega
theorem bits_and_up (x : Int) : bits .and .u64 x 4294967295 = x % 4294967296 := by
  show IntKind.u64.wrap ((BitVec.ofInt 64 x &&& BitVec.ofInt 64 4294967295).toNat : Int) = _
  rw [BitVec.toNat_and, ofInt64, ofInt64, u64wrap]
  have e2 : ((4294967295 : Int) % 18446744073709551616).toNat = 2 ^ 32 - 1 := by decide
  rw [e2, Nat.and_two_pow_sub_one_eq_mod]
  omega
end Go.Proofs.Yticeeckahdjjmaa
