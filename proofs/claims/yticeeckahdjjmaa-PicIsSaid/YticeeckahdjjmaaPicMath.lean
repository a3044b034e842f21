/-
  Pictured numbers, said of lists of bytes: what the calls of package pic answer. Nothing of a translated program is imported.
-/
import Derived.Test.YticeeckahdjjmaaMemMath
import Derived.Test.YticeeckahdjjmaaNumMath
namespace Go.Proofs.Yticeeckahdjjmaa
open Go.RowKit

/-- May a user's area begin there? -/
def pcT (u : Int) : Bool := decide (0 ≤ u ∧ u ≤ 5120)
/-- The throw of the cell that lies so far behind a user's beginning, and the cell. -/
def oE (n : Nat) (u k : Int) : Int := if pcT u then mE n (u + k) else -9
def oX (l : List UInt8) (u k : Int) : Int := if oE l.length u k = 0 then mC (mT l (u + k).toNat 8) else 0
/-- Base. -/
def bE (l : List UInt8) (u : Int) : Int := if oE l.length u 0 = 0 then (if 2 ≤ oX l u 0 ∧ oX l u 0 ≤ 36 then 0 else -24) else oE l.length u 0
def bX (l : List UInt8) (u : Int) : Int := if bE l u = 0 then oX l u 0 else 0
/-- Begin. -/
def gL (l : List UInt8) (u : Int) : List UInt8 := if oE l.length u 8 = 0 then splice l (u + 8).toNat (mB (u + 128)) else l
/-- Hold. -/
def hE (l : List UInt8) (u : Int) : Int :=
  if oE l.length u 8 = 0 then (if u + 32 < oX l u 8 ∧ oX l u 8 ≤ u + 128 then (if thB l.length (oX l u 8 - 1) 1 = true then 0 else -9) else -17) else oE l.length u 8
def hL (l : List UInt8) (u c : Int) : List UInt8 := if hE l u = 0 then splice (splice l (u + 8).toNat (mB (oX l u 8 - 1))) (oX l u 8 - 1).toNat [b8 c] else l
/-- Digit. -/
def dE (l : List UInt8) (u : Int) : Int := if bE l u = 0 then hE l u else bE l u
def dL (l : List UInt8) (u : Int) (q : Nat) : List UInt8 := if dE l u = 0 then hL l u ((sgn (q % (bX l u).toNat)).toNat : Int) else l
def dQ (l : List UInt8) (u : Int) (q : Nat) : Nat := if dE l u = 0 then q / (bX l u).toNat else 0
/-- All, in so many digits at most: the throw, and the memory where there is none. -/
def aE : Nat → List UInt8 → Int → Nat → Int
  | 0, _, _, _ => -17
  | k + 1, l, u, q => if dE l u = 0 then (if dQ l u q = 0 then 0 else aE k (dL l u q) u (dQ l u q)) else dE l u
def aM : Nat → List UInt8 → Int → Nat → List UInt8
  | 0, l, _, _ => l
  | k + 1, l, u, q => if dE l u = 0 then (if dQ l u q = 0 then dL l u q else aM k (dL l u q) u (dQ l u q)) else l
def aL (l : List UInt8) (u : Int) (q : Nat) : List UInt8 := if aE 200 l u q = 0 then aM 200 l u q else l
/-- Sign. -/
def psE (l : List UInt8) (u n : Int) : Int := if n < 0 then hE l u else if pcT u then 0 else -9
def psL (l : List UInt8) (u n : Int) : List UInt8 := if n < 0 then hL l u 45 else l
/-- End. -/
def nE (l : List UInt8) (u : Int) : Int := if oE l.length u 8 = 0 then (if u + 32 ≤ oX l u 8 ∧ oX l u 8 ≤ u + 128 then 0 else -9) else oE l.length u 8
def nH (l : List UInt8) (u : Int) : Int := if nE l u = 0 then oX l u 8 else 0
def nN (l : List UInt8) (u : Int) : Int := if nE l u = 0 then u + 128 - oX l u 8 else 0

theorem pcT_iff {u : Int} : pcT u = true ↔ 0 ≤ u ∧ u ≤ 5120 := by simp [pcT]
theorem pcT_no {u : Int} : pcT u = false ↔ ¬ (0 ≤ u ∧ u ≤ 5120) := by simp only [pcT, decide_eq_false_iff_not]
/-- A cell of a user that is there. -/
theorem oE_ok {n : Nat} {u k : Int} (h : oE n u k = 0) : pcT u = true ∧ mE n (u + k) = 0 := by
  unfold oE at h
  by_cases ht : pcT u = true
  · rw [if_pos ht] at h; exact ⟨ht, h⟩
  · rw [if_neg ht] at h; omega
theorem oE_at {n : Nat} {u : Int} {k : Nat} (h : oE n u (k : Int) = 0) : ∃ i : Nat, u = (i : Int) ∧ i ≤ 5120 ∧ i + k + 8 ≤ n ∧ (u + (k : Int)).toNat = i + k ∧ mE n (((i + k : Nat)) : Int) = 0 := by
  obtain ⟨h1, h2⟩ := oE_ok h
  have h3 := pcT_iff.1 h1
  obtain ⟨j, hj, hL, _, _⟩ := mE_ok h2
  refine ⟨u.toNat, by omega, by omega, by omega, by omega, ?_⟩
  rw [show ((u.toNat + k : Nat) : Int) = u + (k : Int) by omega]
  exact h2
theorem oX_in (l : List UInt8) (u k : Int) : InC (oX l u k) := by
  unfold oX
  split
  · exact mC_in _
  · unfold InC; omega
theorem hE_ok {l : List UInt8} {u : Int} (h : hE l u = 0) : oE l.length u 8 = 0 ∧ u + 32 < oX l u 8 ∧ oX l u 8 ≤ u + 128 ∧ thB l.length (oX l u 8 - 1) 1 = true := by
  unfold hE at h
  by_cases h1 : oE l.length u 8 = 0
  · rw [if_pos h1] at h
    by_cases h2 : u + 32 < oX l u 8 ∧ oX l u 8 ≤ u + 128
    · rw [if_pos h2] at h
      by_cases h3 : thB l.length (oX l u 8 - 1) 1 = true
      · exact ⟨h1, h2.1, h2.2, h3⟩
      · rw [if_neg h3] at h; omega
    · rw [if_neg h2] at h; omega
  · rw [if_neg h1] at h; omega
theorem bE_ok {l : List UInt8} {u : Int} (h : bE l u = 0) : oE l.length u 0 = 0 ∧ 2 ≤ oX l u 0 ∧ oX l u 0 ≤ 36 ∧ bX l u = oX l u 0 := by
  have h0 := h
  unfold bE at h
  by_cases h1 : oE l.length u 0 = 0
  · rw [if_pos h1] at h
    by_cases h2 : 2 ≤ oX l u 0 ∧ oX l u 0 ≤ 36
    · exact ⟨h1, h2.1, h2.2, by unfold bX; rw [if_pos h0]⟩
    · rw [if_neg h2] at h; omega
  · rw [if_neg h1] at h; omega
theorem dE_ok {l : List UInt8} {u : Int} (h : dE l u = 0) : bE l u = 0 ∧ hE l u = 0 := by
  unfold dE at h
  by_cases h1 : bE l u = 0
  · rw [if_pos h1] at h; exact ⟨h1, h⟩
  · rw [if_neg h1] at h; exact absurd h h1
/-- What a double is divided by is 2 or more: it grows small. -/
theorem dQ_half {l : List UInt8} {u : Int} {q k : Nat} (h : dE l u = 0) (hq : q < 2 ^ (k + 1)) : dQ l u q < 2 ^ k := by
  obtain ⟨h1, _⟩ := dE_ok h
  obtain ⟨_, h2, _, h4⟩ := bE_ok h1
  unfold dQ
  rw [if_pos h]
  have : q / (bX l u).toNat ≤ q / 2 := Nat.div_le_div_left (by omega) (by omega)
  rw [Nat.pow_succ] at hq
  omega
end Go.Proofs.Yticeeckahdjjmaa
