/-
  What the calls of package stk answer that name cells: named, Permute, of any stack.
-/
import Derived.Test.YtnlkggfgloblcaaGreatStkCalls
namespace Go.Proofs.YtnlkggfgloblcaaGreat
open Go.RowKit

/-- A row of ints that the call has made, with room for all that is laid in it. -/
def Lay (w : World) (n : Nat) (f : Nat → Int) (wr : World) : Prop := wr.rowIs w.heap.size 3 n (fun j => .int .i64 (f j)) ∧ Below w.heap.size w wr
theorem lay_new (w : World) (n : Nat) : Lay w n (fun _ => 0) (w.alloc (.cells (madeCells #[Value.int .i64 0] n) 3)) :=
  ⟨World.rowIs_made w (.int .i64 0) n 3, (Below.refl _ _).alloc (Nat.le_refl _) _⟩
theorem Lay.congr {w wr : World} {n : Nat} {f g : Nat → Int} (h : Lay w n f wr) (e : ∀ j, j < n → f j = g j) : Lay w n g wr :=
  ⟨h.1.congr fun j hj => by rw [e j hj], h.2⟩
theorem Lay.set {w wr : World} {n : Nat} {f : Nat → Int} (h : Lay w n f wr) (k : Nat) (v : Int) : Lay w n (fun j => if j = k then v else f j) (wr.setCell ⟨w.heap.size, k, none⟩ (.int .i64 v)) :=
  ⟨(h.1.set k (.int .i64 v)).congr fun j _ => by by_cases hj : j = k <;> simp [hj], h.2.setCell (Nat.le_refl _) _⟩
theorem Lay.stk {w wr : World} {n : Nat} {f : Nat → Int} {l : List Int} (h : Lay w n f wr) (hl : l.length = n) (e : ∀ j (hj : j < l.length), f j = l[j]) : Stk wr (some ⟨w.heap.size, 0, none⟩) n n l :=
  ⟨hl, Nat.le_refl _, fun _ => ⟨_, 0, rfl, h.1.lt, fun j hj => by rw [Nat.zero_add, h.1.cell (by omega), e j hj]⟩, fun h => by cases h⟩
/-- The cells that are named, or none; and the throw. -/
def nameR (L : Nat) (x to : List Int) : List Int := if nameB L to = true then [] else nameL x to
def nameE (L : Nat) (to : List Int) : Int := if nameB L to = true then -4 else 0
theorem nameR_ok {L : Nat} {x to : List Int} (h : nameB L to = false) : nameR L x to = nameL x to := by simp [nameR, h]
theorem nameE_ok {L : Nat} {to : List Int} (h : nameB L to = false) : nameE L to = 0 := by simp [nameE, h]
theorem nameR_bad {L : Nat} {x to : List Int} (h : nameB L to = true) : nameR L x to = [] := by simp [nameR, h]
theorem nameE_bad {L : Nat} {to : List Int} (h : nameB L to = true) : nameE L to = -4 := by simp [nameE, h]
/-- What is laid so far of the cells that are named. -/
def pN (x to : List Int) (k j : Nat) : Int := if j < k then (nameL x to).getD j 0 else 0

theorem popL_length {l : List Int} {q : Int} : (popL l q).length ≤ l.length := by
  unfold popL
  split
  · exact Nat.le_refl _
  · rw [List.length_take]; omega
end Go.Proofs.YtnlkggfgloblcaaGreat
