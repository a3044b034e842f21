/-
  Plain facts on numbers as texts: digits and their values, the text of a number by a base, the number of a text, what the calls of package num answer, said of lists of bytes. Nothing of a translated program is imported.
-/
import Derived.Test.YticeeckahdjjmaaDblMath
import Derived.Lib.Strings
namespace Go.Proofs.Yticeeckahdjjmaa
open Go.RowKit

/-! ### bases, digits, signs -/
def baB (b : Int) : Bool := decide (2 ≤ b ∧ b ≤ 36)
/-- The value of a digit of the greatest base; 99 of what is none. -/
def dgV (c : Int) : Int := if 48 ≤ c ∧ c ≤ 57 then c - 48 else if 65 ≤ c ∧ c ≤ 90 then c - 55 else if 97 ≤ c ∧ c ≤ 122 then c - 87 else 99
def dgB (c b : Int) : Bool := baB b && decide (dgV c < b)
def dgX (c b : Int) : Int := if dgB c b then dgV c else 0
/-- A value's digit. -/
def sgn (v : Nat) : UInt8 := UInt8.ofNat (if v < 10 then 48 + v else 55 + v)
def sgL (v : Int) : List UInt8 := if 0 ≤ v ∧ v ≤ 35 then [sgn v.toNat] else []

theorem baB_iff {b : Int} : baB b = true ↔ 2 ≤ b ∧ b ≤ 36 := by simp [baB]
theorem baB_no {b : Int} : baB b = false ↔ ¬ (2 ≤ b ∧ b ≤ 36) := by simp only [baB, decide_eq_false_iff_not]
theorem sgn_nat {v : Nat} (h : v < 36) : (sgn v).toNat = if v < 10 then 48 + v else 55 + v := by
  unfold sgn; rw [UInt8.toNat_ofNat']; split <;> omega
theorem dgV_sgn {v : Nat} (h : v < 36) : dgV ((sgn v).toNat : Int) = v := by
  rw [sgn_nat h]; unfold dgV
  by_cases k : v < 10
  · simp [k]; omega
  · simp [k]; omega
theorem dgB_sgn {v : Nat} {b : Int} (hb : baB b = true) (h : (v : Int) < b) : dgB ((sgn v).toNat : Int) b = true := by
  have := baB_iff.1 hb
  unfold dgB; rw [dgV_sgn (by omega), hb]; simp [h]
theorem dgV_lo (c : Int) : 0 ≤ dgV c := by unfold dgV; repeat' split
                                           all_goals omega
theorem dgV_hi (c : Int) : dgV c ≤ 99 := by unfold dgV; repeat' split
                                            all_goals omega
theorem dgB_lt {c b : Int} (h : dgB c b = true) : 0 ≤ dgV c ∧ dgV c < b ∧ 2 ≤ b ∧ b ≤ 36 := by
  unfold dgB at h
  rw [Bool.and_eq_true, decide_eq_true_eq] at h
  exact ⟨dgV_lo c, h.2, baB_iff.1 h.1⟩
/-- What is a digit is none of the signs that mean something else. -/
theorem dgB_byte {c : Nat} {b : Int} (h : dgB (c : Int) b = true) : (48 ≤ c ∧ c ≤ 57) ∨ (65 ≤ c ∧ c ≤ 90) ∨ (97 ≤ c ∧ c ≤ 122) := by
  have h1 := dgB_lt h
  unfold dgV at h1
  split at h1
  · omega
  · split at h1
    · omega
    · split at h1
      · omega
      · omega
theorem dgB_far {c b : Int} (h : 128 ≤ c) : dgB c b = false := by
  unfold dgB
  have : dgV c = 99 := by unfold dgV; rw [if_neg (by omega), if_neg (by omega), if_neg (by omega)]
  rw [this]
  cases hb : baB b
  · rfl
  · have := baB_iff.1 hb; simp; omega

/-! ### the number of digits -/
def dB (b : Int) (l : List UInt8) : Bool := l.all fun c => dgB (c.toNat : Int) b
def nV (b : Int) (l : List UInt8) : Int := l.foldl (fun x c => x * b + dgV (c.toNat : Int)) 0
def nB (b : Int) (l : List UInt8) : Bool := !l.isEmpty && dB b l
def nX (b : Int) (l : List UInt8) : Int := if nB b l then nV b l else 0
theorem nV_snoc (b : Int) (l : List UInt8) (c : UInt8) : nV b (l ++ [c]) = nV b l * b + dgV (c.toNat : Int) := by simp [nV]
theorem dB_snoc (b : Int) (l : List UInt8) (c : UInt8) : dB b (l ++ [c]) = (dB b l && dgB (c.toNat : Int) b) := by simp [dB]
theorem dB_append (b : Int) (l m : List UInt8) : dB b (l ++ m) = (dB b l && dB b m) := by simp [dB]

/-! ### the text of a number without a sign -/
def uT (b u : Nat) : List UInt8 := if _h : 2 ≤ b ∧ b ≤ u then uT b (u / b) ++ [sgn (u % b)] else [sgn u]
termination_by u
decreasing_by exact Nat.div_lt_self (by omega) (by omega)
theorem uT_small {b u : Nat} (h : u < b) : uT b u = [sgn u] := by rw [uT, dif_neg (by omega)]
theorem uT_more {b u : Nat} (hb : 2 ≤ b) (h : b ≤ u) : uT b u = uT b (u / b) ++ [sgn (u % b)] := by rw [uT, dif_pos ⟨hb, h⟩]
/-- What of the digits is not told yet. -/
def uL (b q : Nat) : List UInt8 := if q = 0 then [] else uT b q
theorem uT_last {b u : Nat} (hb : 2 ≤ b) : uT b u = uL b (u / b) ++ [sgn (u % b)] := by
  unfold uL
  by_cases h : u < b
  · rw [uT_small h, if_pos (Nat.div_eq_of_lt h), Nat.mod_eq_of_lt h]; rfl
  · rw [uT_more hb (by omega), if_neg]
    have := Nat.div_pos (a := u) (b := b) (by omega) (by omega)
    omega
theorem uL_step {b q : Nat} (hb : 2 ≤ b) (h : q ≠ 0) (t : List UInt8) : uL b q ++ t = uL b (q / b) ++ (sgn (q % b) :: t) := by
  have : uL b q = uT b q := by unfold uL; rw [if_neg h]
  rw [this, uT_last hb]; simp
theorem uT_ne {b u : Nat} : uT b u ≠ [] := by rw [uT]; split <;> simp
theorem uT_digits {b : Nat} (hb : baB (b : Int) = true) (u : Nat) : dB (b : Int) (uT b u) = true := by
  have h2 := baB_iff.1 hb
  induction u using Nat.strongRecOn with
  | ind u ih =>
    by_cases h : u < b
    · rw [uT_small h]; simp only [dB, List.all_cons, List.all_nil, Bool.and_true]; exact dgB_sgn hb (by omega)
    · have hm := Nat.mod_lt u (y := b) (by omega)
      rw [uT_more (by omega) (by omega), dB_snoc, ih _ (Nat.div_lt_self (by omega) (by omega)), dgB_sgn hb (by omega)]; rfl
theorem uT_value {b : Nat} (hb : baB (b : Int) = true) (u : Nat) : nV (b : Int) (uT b u) = u := by
  have h2 := baB_iff.1 hb
  induction u using Nat.strongRecOn with
  | ind u ih =>
    by_cases h : u < b
    · rw [uT_small h]; simp only [nV, List.foldl_cons, List.foldl_nil]; rw [dgV_sgn (by omega)]; omega
    · have hm := Nat.mod_lt u (y := b) (by omega)
      rw [uT_more (by omega) (by omega), nV_snoc, ih _ (Nat.div_lt_self (by omega) (by omega)), dgV_sgn (by omega)]
      have e := Nat.div_add_mod u b
      rw [Nat.mul_comm] at e
      exact_mod_cast e
theorem uT_len {b : Nat} (hb : 2 ≤ b) (k : Nat) : ∀ u, u < 2 ^ (k + 1) → (uT b u).length ≤ k + 1 := by
  induction k with
  | zero => intro u hu; rw [uT_small (by omega)]; simp
  | succ k ih =>
    intro u hu
    by_cases h : u < b
    · rw [uT_small h]; simp
    · rw [uT_more hb (by omega), List.length_append]
      have h1 : u / b ≤ u / 2 := Nat.div_le_div_left hb (by omega)
      have h2 : 2 ^ (k + 1 + 1) = 2 * 2 ^ (k + 1) := by rw [Nat.pow_succ]; omega
      have := ih (u / b) (by omega)
      simp only [List.length_cons, List.length_nil]; omega
/-- It begins with a digit that is not 0, if the number is not 0. -/
theorem uT_head {b : Nat} (hb : baB (b : Int) = true) (u : Nat) (h0 : u ≠ 0) : ∃ v : Nat, v ≠ 0 ∧ v < b ∧ ∃ t, uT b u = sgn v :: t := by
  have h2 := baB_iff.1 hb
  induction u using Nat.strongRecOn with
  | ind u ih =>
    by_cases h : u < b
    · exact ⟨u, h0, h, [], uT_small h⟩
    · have hp := Nat.div_pos (a := u) (b := b) (by omega) (by omega)
      obtain ⟨v, hv, hvb, t, ht⟩ := ih _ (Nat.div_lt_self (by omega) (by omega : 1 < b)) (by omega)
      exact ⟨v, hv, hvb, t ++ [sgn (u % b)], by rw [uT_more (by omega) (by omega), ht]; rfl⟩

/-! ### the texts that package num tells -/
def uTx (b n : Int) : List UInt8 := if baB b then uT b.toNat (n % 18446744073709551616).toNat else []
def dTu (b x : Int) : List UInt8 := if baB b then uT b.toNat (x % 340282366920938463463374607431768211456).toNat else []
def dTx (b x : Int) : List UInt8 := if baB b then (if x < 0 then 45 :: uT b.toNat (-x).toNat else uT b.toNat x.toNat) else []

/-! ### what a text means -/
def qB (l : List UInt8) : Bool := decide (l.length = 3) && (l.getD 0 0 == 39 && l.getD 2 0 == 39)
def mkA (l : List UInt8) : Bool := l.head? == some 35 || (l.head? == some 36 || l.head? == some 37)
def mkB (b : Int) (l : List UInt8) : Int := if l.head? = some 35 then 10 else if l.head? = some 36 then 16 else if l.head? = some 37 then 2 else b
def mkL (l : List UInt8) : List UInt8 := if mkA l then l.drop 1 else l
def pM (l : List UInt8) : Bool := Lib.hasPrefix (mkL l) [45]
def p2 (l : List UInt8) : List UInt8 := Lib.trimPrefix (mkL l) [45]
def pD (l : List UInt8) : Bool := Lib.hasSuffix (p2 l) [46]
def p3 (l : List UInt8) : List UInt8 := Lib.trimSuffix (p2 l) [46]
def pX (b : Int) (l : List UInt8) : Int := if pM l then -nV (mkB b l) (p3 l) else nV (mkB b l) (p3 l)
def pB (b : Int) (l : List UInt8) : Bool := if qB l then baB b else nB (mkB b l) (p3 l)
def pL (b : Int) (l : List UInt8) : List Int :=
  if qB l then (if baB b then [((l.getD 1 0).toNat : Int)] else [])
  else if nB (mkB b l) (p3 l) then (if pD l then [dLo (pX b l), dHi (pX b l)] else [dLo (pX b l)]) else []
end Go.Proofs.Yticeeckahdjjmaa
