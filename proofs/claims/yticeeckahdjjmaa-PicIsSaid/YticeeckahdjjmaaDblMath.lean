/-
  Plain arithmetic of double cells: a double is a whole number, going round at 2^128; what the calls of package dbl answer, said of whole numbers. Nothing of a translated program is imported.
-/
import Derived.Test.YticeeckahdjjmaaCellDiv
namespace Go.Proofs.Yticeeckahdjjmaa
open Go.RowKit

/-- The low cell of a whole number, and the high one. -/
def dLo (x : Int) : Int := wrap64 x
def dHi (x : Int) : Int := wrap64 (x / 18446744073709551616)
/-- A double with its sign: -2^127 to 2^127 - 1. -/
def InD (x : Int) : Prop := -170141183460469231731687303715884105728 ≤ x ∧ x < 170141183460469231731687303715884105728
/-- The number of two cells. -/
def dV (l h : Int) : Int := l % 18446744073709551616 + 18446744073709551616 * h

theorem dLo_in (x : Int) : InC (dLo x) := wrap64_in _
theorem dHi_in (x : Int) : InC (dHi x) := wrap64_in _
theorem dV_in {l h : Int} (hh : InC h) : InD (dV l h) := by unfold InC at hh; unfold InD dV; omega
theorem dLo_dV {l h : Int} (hl : InC l) : dLo (dV l h) = l := by unfold InC at hl; unfold dLo dV wrap64; omega
theorem dHi_dV {l h : Int} (hh : InC h) : dHi (dV l h) = h := by unfold InC at hh; unfold dHi dV wrap64; omega
theorem dbl_of {l h : Int} (hl : InC l) (hh : InC h) : ∃ x, InD x ∧ l = dLo x ∧ h = dHi x :=
  ⟨dV l h, dV_in hh, (dLo_dV hl).symm, (dHi_dV hh).symm⟩
theorem dLo_congr {x y : Int} (h : x % 340282366920938463463374607431768211456 = y % 340282366920938463463374607431768211456) : dLo x = dLo y := by
  unfold dLo wrap64; omega
theorem dHi_congr {x y : Int} (h : x % 340282366920938463463374607431768211456 = y % 340282366920938463463374607431768211456) : dHi x = dHi y := by
  unfold dHi wrap64; omega
theorem d_inj {x y : Int} (h : dLo x = dLo y) (k : dHi x = dHi y) : x % 340282366920938463463374607431768211456 = y % 340282366920938463463374607431768211456 := by
  unfold dLo wrap64 at h; unfold dHi wrap64 at k; omega
theorem d_eqv {x y : Int} (hx : InD x) (hy : InD y) (h : dLo x = dLo y) (k : dHi x = dHi y) : x = y := by
  have := d_inj h k
  unfold InD at *; omega
theorem dHi_is {x : Int} (h : InD x) : dHi x = x / 18446744073709551616 := by unfold InD at h; unfold dHi wrap64; omega
theorem dHi_neg {x : Int} (h : InD x) : dHi x < 0 ↔ x < 0 := by rw [dHi_is h]; omega
theorem dLo_mod (x : Int) : dLo x % 18446744073709551616 = x % 18446744073709551616 := by unfold dLo wrap64; omega
theorem dHi_mod (x : Int) : dHi x % 18446744073709551616 = x / 18446744073709551616 % 18446744073709551616 := by unfold dHi wrap64; omega
theorem dLo_cell {n : Int} (h : InC n) : dLo n = n := wrap64_id h
theorem dHi_cell {n : Int} (h : InC n) : dHi n = if n < 0 then -1 else 0 := by
  unfold InC at h; unfold dHi wrap64; split <;> omega
theorem inD_cell {n : Int} (h : InC n) : InD n := by unfold InC at h; unfold InD; omega
/-- A cell without a sign, as a double. -/
theorem dLo_un (r : Int) (h : InC r) : dLo (r % 18446744073709551616) = r := by unfold InC at h; unfold dLo wrap64; omega
theorem dHi_un (r : Int) : dHi (r % 18446744073709551616) = 0 := by unfold dHi wrap64; omega

/-! ### sums -/
theorem add_lo (x y : Int) : wrap64 (dLo x + dLo y) = dLo (x + y) := by unfold dLo wrap64; omega
theorem add_hi (x y : Int) : wrap64 (wrap64 (dHi x + dHi y) - (if cUlt (dLo (x + y)) (dLo x) then -1 else 0)) = dHi (x + y) := by
  rw [cUlt_is, dLo_mod, dLo_mod]
  unfold dHi wrap64
  by_cases h : (x + y) % 18446744073709551616 < x % 18446744073709551616
  · simp [h]; omega
  · simp [h]; omega
theorem not_lo (x : Int) : -dLo x - 1 = dLo (-x - 1) := by unfold dLo wrap64; omega
theorem not_hi (x : Int) : -dHi x - 1 = dHi (-x - 1) := by unfold dHi wrap64; omega

/-! ### order -/
def dBel (x y : Int) : Bool := decide (x < y)
def dCmp (x y : Int) : Int := if x < y then -1 else if y < x then 1 else 0
theorem bel_is {x y : Int} (hx : InD x) (hy : InD y) : (decide (dHi x < dHi y) || (dHi x == dHi y && cUlt (dLo x) (dLo y))) = dBel x y := by
  rw [dHi_is hx, dHi_is hy, cUlt_is, dLo_mod, dLo_mod]
  unfold dBel
  rw [Bool.eq_iff_iff]; simp; omega

/-! ### products -/
def uProd (a b : Int) : Int := (a % 18446744073709551616) * (b % 18446744073709551616)

/-! ### divisions -/
def uE (x u : Int) : Int := if u = 0 then -10 else if 18446744073709551616 ≤ (x % 340282366920938463463374607431768211456) / (u % 18446744073709551616) then -11 else 0
def uR (x u : Int) : Int := if uE x u = 0 then wrap64 ((x % 340282366920938463463374607431768211456) % (u % 18446744073709551616)) else 0
def uQ (x u : Int) : Int := if uE x u = 0 then wrap64 ((x % 340282366920938463463374607431768211456) / (u % 18446744073709551616)) else 0
def sE (x n : Int) : Int := if n = 0 then -10 else if -9223372036854775808 ≤ x.tdiv n ∧ x.tdiv n ≤ 9223372036854775807 then 0 else -11
def sR (x n : Int) : Int := if sE x n = 0 then x.tmod n else 0
def sQ (x n : Int) : Int := if sE x n = 0 then x.tdiv n else 0
def fE (x n : Int) : Int := if n = 0 then -10 else if -9223372036854775808 ≤ x.fdiv n ∧ x.fdiv n ≤ 9223372036854775807 then 0 else -11
def fR (x n : Int) : Int := if fE x n = 0 then x.fmod n else 0
def fQ (x n : Int) : Int := if fE x n = 0 then x.fdiv n else 0
end Go.Proofs.Yticeeckahdjjmaa
