/-
  What the document calls Cmp and UMul of layer 2: doubles compared with their signs, the product without signs. Of what was there nothing changes.
-/
import Derived.Test.YticeeckahdjjmaaRef02Small
import Derived.Test.YticeeckahdjjmaaDblLaws
import Derived.Test.YticeeckahdjjmaaDblKeep
namespace Go.Proofs.Yticeeckahdjjmaa
open Go.RowKit
/-- The product of a with the m highest digits of b, both without signs. -/
def uPart (a b : Int) (m : Nat) : Int := (a % 18446744073709551616) * (b % 18446744073709551616 / 2 ^ (64 - m))
theorem uPart_0 (a b : Int) : uPart a b 0 = 0 := by
  unfold uPart
  rw [show (2 : Int) ^ (64 - 0) = 18446744073709551616 by decide, Int.ediv_eq_zero_of_lt (by omega) (by omega), Int.mul_zero]
theorem uPart_64 (a b : Int) : uPart a b 64 = uProd a b := by unfold uPart uProd; simp
theorem uPart_step (a b : Int) (m : Nat) (hm : m < 64) :
    (bitZ b (63 - (m : Int)) = 1 → uPart a b (m + 1) = uPart a b m + uPart a b m + a % 18446744073709551616) ∧ (bitZ b (63 - (m : Int)) ≠ 1 → uPart a b (m + 1) = uPart a b m + uPart a b m) := by
  rw [show (63 : Int) - (m : Int) = ((63 - m : Nat) : Int) by omega, bitZ_in (by omega) (by omega), Int.toNat_natCast]
  unfold uPart
  rw [show 64 - (m + 1) = 63 - m by omega, show 64 - m = 63 - m + 1 by omega, Int.pow_succ, half_eq (pow_pos' _)]
  generalize b % 18446744073709551616 / 2 ^ (63 - m) = q
  generalize a % 18446744073709551616 = p
  have e : q = 2 * (q / 2) + q % 2 := by omega
  constructor
  · intro h
    rw [h] at e
    have : p * q = p * (2 * (q / 2) + 1) := by rw [← e]
    rw [this]; grind
  · intro h
    have h0 : q % 2 = 0 := by omega
    rw [h0] at e
    have : p * q = p * (2 * (q / 2) + 0) := by rw [← e]
    rw [this]; grind
end Go.Proofs.Yticeeckahdjjmaa
