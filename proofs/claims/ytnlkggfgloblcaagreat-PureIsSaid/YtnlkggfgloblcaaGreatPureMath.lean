/-
  Plain facts on the operations of the group 1: what each lays in the place of its cells, and what it throws ahead of that; what Do and All answer, said of lists.
-/
import Derived.Test.YtnlkggfgloblcaaGreatStkMath
import Derived.Test.YtnlkggfgloblcaaGreatDblCalls
import Derived.Test.YtnlkggfgloblcaaGreatDblSymm
import Derived.Test.YtnlkggfgloblcaaGreatOpMath
namespace Go.Proofs.YtnlkggfgloblcaaGreat
open Go.RowKit

/-- What lies there in the place of an operation's cells a, b, c, d (the top is the last one that it needs), l being what is below them; and what it throws, ahead of laying it. (Of ROLL: puL, puE.) -/
def puD : Nat → List Int → Int → Int → Int → Int → List Int × Int
  | 18, _, a, _, _, _ => ([a, a], 0)
  | 19, _, _, _, _, _ => ([], 0)
  | 20, _, a, b, _, _ => ([b, a], 0)
  | 21, _, a, b, _, _ => ([a, b, a], 0)
  | 22, _, a, b, c, _ => ([b, c, a], 0)
  | 23, _, _, b, _, _ => ([b], 0)
  | 24, _, a, b, _, _ => ([b, a, b], 0)
  | 25, _, a, b, _, _ => ([a, b, a, b], 0)
  | 26, _, _, _, _, _ => ([], 0)
  | 27, _, a, b, c, d => ([c, d, a, b], 0)
  | 28, _, a, b, c, d => ([a, b, c, d, a, b], 0)
  | 29, _, a, _, _, _ => (if a = 0 then [0] else [a, a], 0)
  | 30, l, a, _, _, _ => ([pickX l a], pickE l.length a)
  | 31, _, _, _, _, _ => ([], 0)
  | 32, l, _, _, _, _ => ([(l.length : Int)], 0)
  | 33, _, a, b, _, _ => ([wrap64 (a + b)], 0)
  | 34, _, a, b, _, _ => ([wrap64 (a - b)], 0)
  | 35, _, a, b, _, _ => ([wrap64 (a * b)], 0)
  | 36, _, a, b, _, _ => ([cFq a b], cBad a b)
  | 37, _, a, b, _, _ => ([cFr a b], cBad a b)
  | 38, _, a, b, _, _ => ([cFr a b, cFq a b], cBad a b)
  | 39, _, a, b, c, _ => ([fQ (a * b) c], fE (a * b) c)
  | 40, _, a, b, c, _ => ([fR (a * b) c, fQ (a * b) c], fE (a * b) c)
  | 41, _, a, _, _, _ => ([wrap64 (a + 1)], 0)
  | 42, _, a, _, _, _ => ([wrap64 (a - 1)], 0)
  | 43, _, a, _, _, _ => ([cShl a 1], 0)
  | 44, _, a, _, _, _ => ([a / 2], 0)
  | 45, _, a, _, _, _ => ([wrap64 (-a)], 0)
  | 46, _, a, _, _, _ => ([max a (wrap64 (-a))], 0)
  | 47, _, a, b, _, _ => ([min a b], 0)
  | 48, _, a, b, _, _ => ([max a b], 0)
  | 49, _, a, b, _, _ => ([bits .and .i64 a b], 0)
  | 50, _, a, b, _, _ => ([bits .or .i64 a b], 0)
  | 51, _, a, b, _, _ => ([bits .xor .i64 a b], 0)
  | 52, _, a, _, _, _ => ([-a - 1], 0)
  | 53, _, a, b, _, _ => ([cShl a b], 0)
  | 54, _, a, b, _, _ => ([cShr a b], 0)
  | 55, _, a, b, _, _ => ([flagZ (a == b)], 0)
  | 56, _, a, b, _, _ => ([flagZ (a != b)], 0)
  | 57, _, a, b, _, _ => ([flagZ (decide (a < b))], 0)
  | 58, _, a, b, _, _ => ([flagZ (decide (b < a))], 0)
  | 59, _, a, b, _, _ => ([flagZ (cUlt a b)], 0)
  | 60, _, a, _, _, _ => ([flagZ (a == 0)], 0)
  | 61, _, a, _, _, _ => ([flagZ (decide (a < 0))], 0)
  | 62, _, a, b, c, _ => ([flagZ (cIn a b c)], 0)
  | 63, _, a, b, _, _ => ([dLo (uProd a b), dHi (uProd a b)], 0)
  | 64, _, a, b, _, _ => ([dLo (a * b), dHi (a * b)], 0)
  | 65, _, a, b, c, _ => ([uR (dV a b) c, uQ (dV a b) c], uE (dV a b) c)
  | 66, _, a, b, c, _ => ([fR (dV a b) c, fQ (dV a b) c], fE (dV a b) c)
  | 67, _, a, b, c, _ => ([sR (dV a b) c, sQ (dV a b) c], sE (dV a b) c)
  | 68, _, a, _, _, _ => ([dLo a, dHi a], 0)
  | 69, _, a, b, c, d => ([dLo (dV a b + dV c d), dHi (dV a b + dV c d)], 0)
  | 70, _, a, b, _, _ => ([dLo (-dV a b), dHi (-dV a b)], 0)
  | 71, _, a, _, _, _ => ([wrap64 (a * 8)], 0)
  | 72, _, a, _, _, _ => ([wrap64 (a + 8)], 0)
  | 73, _, a, _, _, _ => ([wrap64 (a + 1)], 0)
  | 74, _, a, _, _, _ => ([cAl a], 0)
  | _, _, _, _, _, _ => ([], -21)
def puY (o : Nat) (l x : List Int) : List Int := (puD o l (x.getD 0 0) (x.getD 1 0) (x.getD 2 0) (x.getD 3 0)).1
def puT (o : Nat) (l x : List Int) : Int := (puD o l (x.getD 0 0) (x.getD 1 0) (x.getD 2 0) (x.getD 3 0)).2
/-- What is laid, unless something was thrown. -/
def unL (t : Int) (l y : List Int) : List Int := if t = 0 then pushL l y 64 else l
def unE (t : Int) (L k : Nat) : Int := if t = 0 then pushE (L + k) 64 else t
theorem unL_ok (l y : List Int) : unL 0 l y = pushL l y 64 := rfl
theorem unE_ok (L k : Nat) : unE 0 L k = pushE (L + k) 64 := rfl
theorem unL_no {t : Int} (h : t ≠ 0) (l y : List Int) : unL t l y = l := by simp [unL, h]
theorem unE_no {t : Int} (h : t ≠ 0) (L k : Nat) : unE t L k = t := by simp [unE, h]
/-- What an operation leaves of a stack whose cells are l and, on top, those that it needs, x. -/
def puL (o : Nat) (l x : List Int) : List Int := if o = 31 then rollL l (x.getD 0 0) else unL (puT o l x) l (puY o l x)
def puE (o : Nat) (l x : List Int) : Int := if o = 31 then pickE l.length (x.getD 0 0) else unE (puT o l x) l.length (puY o l x).length
/-- How many cells it needs. -/
def puN (o : Int) : Nat := (opR o).2.1.toNat
/-- Is it of the group 1? -/
def puG (o : Int) : Bool := decide ((opR o).2.2.2 = 1)
def doE (o : Int) (d : List Int) : Int :=
  if puG o = false then -21 else if d.length < puN o then -4 else if 64 < d.length then -3 else puE o.toNat (d.take (d.length - puN o)) (d.drop (d.length - puN o))
def doL (o : Int) (d : List Int) : List Int :=
  if doE o d = 0 then puL o.toNat (d.take (d.length - puN o)) (d.drop (d.length - puN o)) else d
/-- All of some operations. -/
def alE : List Int → List Int → Int
  | [], _ => 0
  | o :: r, d => if doE o d = 0 then alE r (doL o d) else doE o d
def alL : List Int → List Int → List Int
  | [], d => d
  | o :: r, d => if doE o d = 0 then alL r (doL o d) else d
/-- All of a list are cells. -/
def AllC (l : List Int) : Prop := ∀ x ∈ l, InC x

theorem puG_is (o : Int) : puG o = decide (18 ≤ o ∧ o ≤ 74) := by
  by_cases h : 0 ≤ o ∧ o < 111
  · obtain ⟨k, rfl⟩ : ∃ k : Nat, o = (k : Int) := ⟨o.toNat, by omega⟩
    have h1 := opR_each (p := fun k r => decide (r.2.2.2 = 1) == decide (18 ≤ (k : Int) ∧ (k : Int) ≤ 74)) (by decide +kernel) k (by omega)
    simpa [puG] using h1
  · unfold puG
    rw [opR_out o (by omega)]
    rw [decide_eq_false (by decide), decide_eq_false (by omega)]
theorem puG_some {o : Int} (h : puG o = true) : ∃ k : Nat, o = (k : Int) ∧ 18 ≤ k ∧ k ≤ 74 := by
  rw [puG_is] at h
  have := of_decide_eq_true h
  exact ⟨o.toNat, by omega, by omega, by omega⟩
theorem puN_le (o : Int) : puN o ≤ 4 := by
  by_cases h : 0 ≤ o ∧ o < 111
  · obtain ⟨k, rfl⟩ : ∃ k : Nat, o = (k : Int) := ⟨o.toNat, by omega⟩
    exact of_decide_eq_true (opR_each (p := fun _ r => decide (r.2.1.toNat ≤ 4)) (by decide +kernel) k (by omega))
  · unfold puN
    rw [opR_out o (by omega)]
    decide
theorem puN_nn (o : Int) : (opR o).2.1 = (puN o : Int) := by
  by_cases h : 0 ≤ o ∧ o < 111
  · obtain ⟨k, rfl⟩ : ∃ k : Nat, o = (k : Int) := ⟨o.toNat, by omega⟩
    exact of_decide_eq_true (opR_each (p := fun _ r => decide (r.2.1 = (r.2.1.toNat : Int))) (by decide +kernel) k (by omega))
  · unfold puN
    rw [opR_out o (by omega)]
    decide
/-- How many cells each needs. -/
def puNs : List Nat := [1, 1, 2, 2, 3, 2, 2, 2, 2, 4, 4, 1, 1, 1, 0, 2, 2, 2, 2, 2, 2, 3, 3, 1, 1, 1, 1, 1, 1, 2, 2, 2, 2, 2, 1, 2, 2, 2, 2, 2, 2, 2, 1, 1, 3, 2, 2, 3, 3, 3, 1, 4, 2, 1, 1, 1, 1]
theorem puN_at (k : Nat) (h1 : 18 ≤ k) (h2 : k ≤ 74) : puN (k : Int) = puNs.getD (k - 18) 0 := by
  have h := opR_each (p := fun k r => decide (18 ≤ k ∧ k ≤ 74 → r.2.1.toNat = puNs.getD (k - 18) 0)) (by decide +kernel) k (by omega)
  exact of_decide_eq_true h ⟨h1, h2⟩
theorem op_split (k : Nat) (h1 : 18 ≤ k) (h2 : k ≤ 74) : k = 18 ∨ k = 19 ∨ k = 20 ∨ k = 21 ∨ k = 22 ∨ k = 23 ∨ k = 24 ∨ k = 25 ∨ k = 26 ∨ k = 27 ∨ k = 28 ∨ k = 29 ∨ k = 30 ∨ k = 31 ∨ k = 32 ∨ k = 33 ∨ k = 34 ∨ k = 35 ∨ k = 36 ∨ k = 37 ∨ k = 38 ∨ k = 39 ∨ k = 40 ∨ k = 41 ∨ k = 42 ∨ k = 43 ∨ k = 44 ∨ k = 45 ∨ k = 46 ∨ k = 47 ∨ k = 48 ∨ k = 49 ∨ k = 50 ∨ k = 51 ∨ k = 52 ∨ k = 53 ∨ k = 54 ∨ k = 55 ∨ k = 56 ∨ k = 57 ∨ k = 58 ∨ k = 59 ∨ k = 60 ∨ k = 61 ∨ k = 62 ∨ k = 63 ∨ k = 64 ∨ k = 65 ∨ k = 66 ∨ k = 67 ∨ k = 68 ∨ k = 69 ∨ k = 70 ∨ k = 71 ∨ k = 72 ∨ k = 73 ∨ k = 74 := by omega
/-- What is laid is as many as layer 7 says, where it says it. -/
theorem puD_length (k : Nat) (h1 : 18 ≤ k) (h2 : k ≤ 74) (l : List Int) (a b c d : Int) (hn : k ≠ 29) (hr : k ≠ 31) : ((puD k l a b c d).1.length : Int) = (opR (k : Int)).2.2.1 := by
  match k, h1, h2 with
  | 18, _, _ => rfl
  | 19, _, _ => rfl
  | 20, _, _ => rfl
  | 21, _, _ => rfl
  | 22, _, _ => rfl
  | 23, _, _ => rfl
  | 24, _, _ => rfl
  | 25, _, _ => rfl
  | 26, _, _ => rfl
  | 27, _, _ => rfl
  | 28, _, _ => rfl
  | 29, _, _ => exact absurd rfl hn
  | 30, _, _ => rfl
  | 31, _, _ => exact absurd rfl hr
  | 32, _, _ => rfl
  | 33, _, _ => rfl
  | 34, _, _ => rfl
  | 35, _, _ => rfl
  | 36, _, _ => rfl
  | 37, _, _ => rfl
  | 38, _, _ => rfl
  | 39, _, _ => rfl
  | 40, _, _ => rfl
  | 41, _, _ => rfl
  | 42, _, _ => rfl
  | 43, _, _ => rfl
  | 44, _, _ => rfl
  | 45, _, _ => rfl
  | 46, _, _ => rfl
  | 47, _, _ => rfl
  | 48, _, _ => rfl
  | 49, _, _ => rfl
  | 50, _, _ => rfl
  | 51, _, _ => rfl
  | 52, _, _ => rfl
  | 53, _, _ => rfl
  | 54, _, _ => rfl
  | 55, _, _ => rfl
  | 56, _, _ => rfl
  | 57, _, _ => rfl
  | 58, _, _ => rfl
  | 59, _, _ => rfl
  | 60, _, _ => rfl
  | 61, _, _ => rfl
  | 62, _, _ => rfl
  | 63, _, _ => rfl
  | 64, _, _ => rfl
  | 65, _, _ => rfl
  | 66, _, _ => rfl
  | 67, _, _ => rfl
  | 68, _, _ => rfl
  | 69, _, _ => rfl
  | 70, _, _ => rfl
  | 71, _, _ => rfl
  | 72, _, _ => rfl
  | 73, _, _ => rfl
  | 74, _, _ => rfl
  | k + 75, _, h => exact absurd h (by omega)
end Go.Proofs.YtnlkggfgloblcaaGreat
