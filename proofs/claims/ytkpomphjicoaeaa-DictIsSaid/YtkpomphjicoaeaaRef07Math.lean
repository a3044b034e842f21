/-
  Plain facts on the document's own texts of layer 7: all names in one text, a blank between two; what is needed, what is left and the groups, a sign each.
-/
import Derived.Test.YtkpomphjicoaeaaOpNames
namespace Go.Proofs.Ytkpomphjicoaeaa

/-- All names, a blank between two. -/
def opNames : List UInt8 := ((opT.map fun r => 32 :: r.1).flatten).drop 1
/-- Where the k-th word begins (behind the last one: the end). -/
def opP (k : Nat) : Nat := min ((opT.take k).foldl (fun s r => s + r.1.length + 1) 0) opNames.length
def opNeeds : List UInt8 := opT.map fun r => UInt8.ofNat (r.2.1 + 48).toNat
def opLeaves : List UInt8 := opT.map fun r => if r.2.2.1 = -1 then 63 else UInt8.ofNat (r.2.2.1 + 48).toNat
def opGroups : List UInt8 := opT.map fun r => UInt8.ofNat (r.2.2.2 + 48).toNat
theorem opNames_length : opNames.length = 526 := by decide +kernel
theorem opP_zero : opP 0 = 0 := by decide +kernel
/-- Word by word the names come. -/
theorem opP_all : ((List.range 111).all fun k => decide (scS scB opNames (scA opNames (opP k : Int)) = opP k ∧ scS (scN 32) opNames (opP k) = opP k + (opR (k : Int)).1.length ∧ min (opP k + (opR (k : Int)).1.length + 1) opNames.length = opP (k + 1) ∧ scT opNames (opP k) (opP k + (opR (k : Int)).1.length) = (opR (k : Int)).1)) = true := by decide +kernel
theorem opP_at (k : Nat) (h : k < 111) : scS scB opNames (scA opNames (opP k : Int)) = opP k ∧ scS (scN 32) opNames (opP k) = opP k + (opR (k : Int)).1.length ∧ min (opP k + (opR (k : Int)).1.length + 1) opNames.length = opP (k + 1) ∧ scT opNames (opP k) (opP k + (opR (k : Int)).1.length) = (opR (k : Int)).1 :=
  of_decide_eq_true (List.all_eq_true.1 opP_all k (List.mem_range.2 h))
/-- A name in parentheses begins with the first of them, and no other one does. -/
theorem opH_head (k : Nat) (h : k < 111) : opH (opR (k : Int)).1 = decide ((opR (k : Int)).1.head? = some 40) :=
  of_decide_eq_true (opR_each (p := fun _ r => decide (opH r.1 = decide (r.1.head? = some 40))) (by decide +kernel) k h)
theorem signs_needs (k : Nat) (h : k < 111) : ∃ c : UInt8, opNeeds[k]? = some c ∧ (c.toNat : Int) - 48 = (opR (k : Int)).2.1 := by
  have := opR_each (p := fun _ r => decide (((UInt8.ofNat (r.2.1 + 48).toNat).toNat : Int) - 48 = r.2.1)) (by decide +kernel) k h
  refine ⟨_, ?_, of_decide_eq_true this⟩
  rw [opR_nat k h]
  unfold opNeeds
  rw [List.getElem?_map, List.getElem?_eq_getElem (by rw [opT_length]; exact h)]
  rfl
theorem signs_groups (k : Nat) (h : k < 111) : ∃ c : UInt8, opGroups[k]? = some c ∧ (c.toNat : Int) - 48 = (opR (k : Int)).2.2.2 := by
  have := opR_each (p := fun _ r => decide (((UInt8.ofNat (r.2.2.2 + 48).toNat).toNat : Int) - 48 = r.2.2.2)) (by decide +kernel) k h
  refine ⟨_, ?_, of_decide_eq_true this⟩
  rw [opR_nat k h]
  unfold opGroups
  rw [List.getElem?_map, List.getElem?_eq_getElem (by rw [opT_length]; exact h)]
  rfl
theorem signs_leaves (k : Nat) (h : k < 111) : ∃ c : UInt8, opLeaves[k]? = some c ∧ ((opR (k : Int)).2.2.1 = -1 ∧ c = 63 ∨ (opR (k : Int)).2.2.1 ≠ -1 ∧ c ≠ 63 ∧ (c.toNat : Int) - 48 = (opR (k : Int)).2.2.1) := by
  have := opR_each (p := fun _ r => decide (r.2.2.1 = -1 ∧ (if r.2.2.1 = -1 then 63 else UInt8.ofNat (r.2.2.1 + 48).toNat) = 63 ∨ r.2.2.1 ≠ -1 ∧ (if r.2.2.1 = -1 then 63 else UInt8.ofNat (r.2.2.1 + 48).toNat) ≠ 63 ∧ ((if r.2.2.1 = -1 then 63 else UInt8.ofNat (r.2.2.1 + 48).toNat).toNat : Int) - 48 = r.2.2.1)) (by decide +kernel) k h
  refine ⟨_, ?_, of_decide_eq_true this⟩
  rw [opR_nat k h]
  unfold opLeaves
  rw [List.getElem?_map, List.getElem?_eq_getElem (by rw [opT_length]; exact h)]
  rfl
end Go.Proofs.Ytkpomphjicoaeaa
