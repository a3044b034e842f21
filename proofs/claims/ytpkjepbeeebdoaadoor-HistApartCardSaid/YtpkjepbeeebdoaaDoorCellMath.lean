/-
  Plain arithmetic of cells: what the calls of package cell answer, said of whole numbers, and the facts on them that the statements of layer 1 ask for. Nothing of a translated program is imported.
-/
import Derived.WalkKit
import Derived.WalkSpells
import Derived.WalkLawsBesides
namespace Go.Proofs.YtpkjepbeeebdoaaDoor
open Go.RowKit

/-! ### What the calls answer -/
def cAl (a : Int) : Int := bits .andNot .i64 (wrap64 (a + 7)) 7
def cShl (a n : Int) : Int := wrap64 (IntKind.u64.wrap (IntKind.u64.wrap a * 2 ^ min (IntKind.u64.wrap n).toNat 64))
def cShr (a n : Int) : Int := wrap64 (IntKind.u64.wrap a / 2 ^ min (IntKind.u64.wrap n).toNat 64)
def cUlt (a b : Int) : Bool := decide (IntKind.u64.wrap a < IntKind.u64.wrap b)
def cIn (n lo hi : Int) : Bool := cUlt (wrap64 (n - lo)) (wrap64 (hi - lo))
def cBad (a b : Int) : Int := if b = 0 then -10 else if a = -9223372036854775808 ∧ b = -1 then -11 else 0
def cQ (a b : Int) : Int := if cBad a b = 0 then a.tdiv b else 0
def cR (a b : Int) : Int := if cBad a b = 0 then a.tmod b else 0
def cUp (a b : Int) : Bool := decide (cR a b ≠ 0 ∧ ¬ (cR a b < 0 ↔ b < 0))
def cFq (a b : Int) : Int := if cUp a b then wrap64 (cQ a b - 1) else cQ a b
def cFr (a b : Int) : Int := if cUp a b then wrap64 (cR a b + b) else cR a b

/-- A cell: -2^63 to 2^63 - 1. -/
def InC (a : Int) : Prop := -9223372036854775808 ≤ a ∧ a ≤ 9223372036854775807

theorem inC_of_wf {a : Int} (h : (Lit.int .i64 a).wf = true) : InC a := by
  simpa [Lit.wf, IntKind.min, IntKind.max, IntKind.signed, IntKind.bits, InC] using h

theorem wrap64_in (n : Int) : InC (wrap64 n) := by unfold wrap64 InC; omega
theorem wrap64_id {n : Int} (h : InC n) : wrap64 n = n := by unfold InC at h; unfold wrap64; omega

theorem ofInt64 (x : Int) : (BitVec.ofInt 64 x).toNat = (x % 18446744073709551616).toNat := by
  rw [BitVec.toNat_ofInt]; rfl
theorem u64wrap (x : Int) : IntKind.u64.wrap x = x % 18446744073709551616 := rfl
theorem wrapi64 (n : Int) : IntKind.i64.wrap n = wrap64 n := by rw [IntKind.wrap_i64]; unfold wrap64; rfl

/-- The low digits of two of a cell. -/
theorem bits_and_low (k : Nat) (hk : k ≤ 62) (x : Int) : bits .and .i64 x (2 ^ k - 1) = x % 2 ^ k := by
  have hp : (2 : Nat) ^ k ≤ 2 ^ 62 := Nat.pow_le_pow_right (by decide) hk
  have hp0 : 0 < (2 : Nat) ^ k := Nat.pow_pos (by decide)
  have e62 : (2 : Nat) ^ 62 = 4611686018427387904 := by decide
  have hc : ((2 : Int) ^ k) = ((2 ^ k : Nat) : Int) := by simp
  show IntKind.i64.wrap ((BitVec.ofInt 64 x &&& BitVec.ofInt 64 (2 ^ k - 1)).toNat : Int) = _
  rw [BitVec.toNat_and, ofInt64, ofInt64, wrapi64, hc]
  have e1 : ((((2 ^ k : Nat) : Int) - 1) % 18446744073709551616).toNat = 2 ^ k - 1 := by omega
  rw [e1, Nat.and_two_pow_sub_one_eq_mod]
  have hd : (18446744073709551616 : Nat) = 2 ^ k * 2 ^ (64 - k) := by
    rw [← Nat.pow_add, show k + (64 - k) = 64 by omega]
  have e2 : (((x % 18446744073709551616).toNat % 2 ^ k : Nat) : Int) = x % ((2 ^ k : Nat) : Int) := by
    rw [Int.natCast_emod, Int.toNat_of_nonneg (by omega)]
    exact Int.emod_emod_of_dvd x ⟨((2 ^ (64 - k) : Nat) : Int), by rw [← Int.natCast_mul, ← hd]; rfl⟩
  rw [e2]
  exact wrap64_id ⟨by have := Int.emod_nonneg x (b := ((2 ^ k : Nat) : Int)) (by omega); omega, by have := Int.emod_lt_of_pos x (b := ((2 ^ k : Nat) : Int)) (by omega); omega⟩

/-- A cell without its three low digits of two. -/
theorem bits_andNot7 (x : Int) (h : InC x) : bits .andNot .i64 x 7 = x - x % 8 := by
  unfold InC at h
  show IntKind.i64.wrap ((BitVec.ofInt 64 x &&& ~~~ BitVec.ofInt 64 7).toNat : Int) = _
  have e0 : (BitVec.ofInt 64 x &&& ~~~ BitVec.ofInt 64 7) = BitVec.ofInt 64 x - (BitVec.ofInt 64 x &&& BitVec.ofInt 64 7) := by
    generalize BitVec.ofInt 64 x = u
    generalize BitVec.ofInt 64 7 = v
    have hx : u = (u &&& ~~~ v) + (u &&& v) := by
      rw [BitVec.add_eq_or_of_and_eq_zero]
      · ext i hi; simp; cases u[i] <;> cases v[i] <;> simp
      · ext i hi; simp; cases u[i] <;> cases v[i] <;> simp
    rw [BitVec.eq_sub_iff_add_eq]; exact hx.symm
  rw [e0, BitVec.toNat_sub, BitVec.toNat_and, ofInt64, ofInt64, wrapi64]
  have e1 : ((7 : Int) % 18446744073709551616).toNat = 2 ^ 3 - 1 := by decide
  rw [e1, Nat.and_two_pow_sub_one_eq_mod]
  unfold wrap64
  omega

theorem and7 (x : Int) : bits .and .i64 x 7 = x % 8 := bits_and_low 3 (by decide) x
theorem and63 (x : Int) : bits .and .i64 x 63 = x % 64 := bits_and_low 6 (by decide) x
theorem and24 (x : Int) : bits .and .i64 x 16777215 = x % 16777216 := bits_and_low 24 (by decide) x
theorem and40 (x : Int) : bits .and .i64 x 1099511627775 = x % 1099511627776 := bits_and_low 40 (by decide) x
theorem u64w (x : Int) : IntKind.u64.wrap x = x % 18446744073709551616 := IntKind.wrap_u64 x

theorem cAl_is (a : Int) : cAl a = wrap64 (a + 7) - wrap64 (a + 7) % 8 := bits_andNot7 _ (wrap64_in _)
theorem cUlt_is (a b : Int) : cUlt a b = decide (a % 18446744073709551616 < b % 18446744073709551616) := by
  unfold cUlt; rw [u64w, u64w]
theorem cIn_is (n lo hi : Int) : cIn n lo hi = decide ((n - lo) % 18446744073709551616 < (hi - lo) % 18446744073709551616) := by
  unfold cIn; rw [cUlt_is]; unfold wrap64
  have e1 : ((n - lo + 9223372036854775808) % 18446744073709551616 - 9223372036854775808) % 18446744073709551616 = (n - lo) % 18446744073709551616 := by omega
  have e2 : ((hi - lo + 9223372036854775808) % 18446744073709551616 - 9223372036854775808) % 18446744073709551616 = (hi - lo) % 18446744073709551616 := by omega
  rw [e1, e2]

/-! ### divisions -/
theorem cQ_ok {a b : Int} (h : cBad a b = 0) : cQ a b = a.tdiv b := by simp [cQ, h]
theorem cR_ok {a b : Int} (h : cBad a b = 0) : cR a b = a.tmod b := by simp [cR, h]
theorem bad_ok {a b : Int} (h : cBad a b = 0) : b ≠ 0 ∧ ¬ (a = -9223372036854775808 ∧ b = -1) := by
  unfold cBad at h
  by_cases h0 : b = 0
  · simp [h0] at h
  · by_cases h1 : a = -9223372036854775808 ∧ b = -1
    · simp [h1] at h
    · exact ⟨h0, h1⟩
theorem tmod_in {a : Int} (ha : InC a) (b : Int) : InC (a.tmod b) := by
  unfold InC at *
  have h1 : (a.tmod b).natAbs ≤ a.natAbs := by rw [Int.natAbs_tmod]; exact Nat.mod_le _ _
  rcases Int.lt_or_le a 0 with h | h
  · have h3 : (-a).tmod b = -(a.tmod b) := Int.neg_tmod a b
    have := Int.tmod_nonneg (a := -a) b (by omega); omega
  · have := Int.tmod_nonneg (a := a) b h; omega
theorem tdiv_in {a b : Int} (ha : InC a) (h : cBad a b = 0) : InC (a.tdiv b) := by
  obtain ⟨h0, h1⟩ := bad_ok h
  unfold InC at *
  have e : (a.tdiv b).natAbs = a.natAbs / b.natAbs := Int.natAbs_tdiv a b
  by_cases hb : b.natAbs = 1
  · rcases (show b = 1 ∨ b = -1 by omega) with rfl | rfl
    · simp; omega
    · simp; omega
  · have h2 : a.natAbs / b.natAbs ≤ a.natAbs / 2 := Nat.div_le_div_left (by omega) (by decide)
    omega
end Go.Proofs.YtpkjepbeeebdoaaDoor
