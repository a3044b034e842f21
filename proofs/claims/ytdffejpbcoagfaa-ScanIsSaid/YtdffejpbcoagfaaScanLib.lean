/-
  What the library's strings.Cut answers in this translation, at the separator of one byte 10: the library's contract, laid at its numbers here.
-/
import Derived.Test.YtdffejpbcoagfaaScanCalls
import Derived.Test.YtdffejpbcoagfaaScanLineMath
import Derived.Shelf.Strings.Cut
import Derived.Shelf.Vars
namespace Go.Proofs.Ytdffejpbcoagfaa
open Go.RowKit Go.Shelf
/-- Where the library's functions, types and variables lie in this translation. -/
def renScan : Ren := ⟨fun f => if f = 145 then 31 else if f = 217 then 34 else if f = 219 then 33 else if f = 220 then 32 else if f = 224 then 36 else if f = 225 then 35 else if f = 266 then 38 else if f = 267 then 37 else if f = 314 then 39 else 0,
  fun t => if t = 3 then 3 else if t = 4 then 4 else if t = 5 then 5 else if t = 9 then 9 else if t = 46 then 58 else if t = 51 then 59 else if t = 59 then 53 else if t = 146 then 60 else 0,
  fun g => if g = 1 then 0 else 0⟩
theorem laysCut : Lays.n145 Try.prog renScan where
  mixed := by kernel_rfl
  f145 := by kernel_rfl
  f217 := by kernel_rfl
  f219 := by kernel_rfl
  f220 := by kernel_rfl
  f224 := by kernel_rfl
  f225 := by kernel_rfl
  f266 := by kernel_rfl
  f267 := by kernel_rfl
  f314 := by kernel_rfl
  t3 := by kernel_rfl
  a3 := fun _ => by kernel_rfl
  z3 := fun _ => by kernel_rfl
  v3 := fun _ => by kernel_rfl
  t4 := by kernel_rfl
  a4 := fun _ => by kernel_rfl
  z4 := fun _ => by kernel_rfl
  v4 := fun _ => by kernel_rfl
  t5 := by kernel_rfl
  a5 := fun _ => by kernel_rfl
  z5 := fun _ => by kernel_rfl
  v5 := fun _ => by kernel_rfl
  t9 := by kernel_rfl
  a9 := fun _ => by kernel_rfl
  z9 := fun _ => by kernel_rfl
  v9 := fun _ => by kernel_rfl
  t46 := by kernel_rfl
  a46 := fun _ => by kernel_rfl
  z46 := fun _ => by kernel_rfl
  v46 := fun _ => by kernel_rfl
  t51 := by kernel_rfl
  a51 := fun _ => by kernel_rfl
  z51 := fun _ => by kernel_rfl
  v51 := fun _ => by kernel_rfl
  t59 := by kernel_rfl
  a59 := fun _ => by kernel_rfl
  z59 := fun _ => by kernel_rfl
  v59 := fun _ => by kernel_rfl
  t146 := by kernel_rfl
  a146 := fun _ => by kernel_rfl
  z146 := fun _ => by kernel_rfl
  v146 := fun _ => by kernel_rfl
  g1 := by kernel_rfl
/-- The library's variable holds some number. -/
def MaxL (w : World) : Prop := ∃ m, w.cell? ⟨0, 0, none⟩ = some (.int .i64 m)
theorem MaxL.lt {w : World} (h : MaxL w) : 0 < w.heap.size := by
  obtain ⟨m, hm⟩ := h
  exact World.block_lt_of_cell? w _ hm
theorem MaxL.below {w w' : World} (h : MaxL w) {n : Nat} (hn : 0 < n) (hb : Below n w w') : MaxL w' := by
  obtain ⟨m, hm⟩ := h
  exact ⟨m, (hb.cell (p := ⟨0, 0, none⟩) hn).trans hm⟩
theorem MaxL.keep {w w' : World} (h : MaxL w) (hb : Below w.heap.size w w') : MaxL w' := h.below h.lt hb
theorem MaxL.alloc {w : World} (h : MaxL w) (o : Obj) : MaxL (w.alloc o) := h.keep ((Below.refl _ _).alloc (Nat.le_refl _) o)
/-- In every world that is shaped as the program's worlds are. -/
theorem maxL_of {w : World} (h : w.ShapedOpen Try.prog) : MaxL w :=
  Go.Proofs.cell_of_shapedOpen_int (zero := #[.int .i64 0]) (t := 3) h (of_decide_eq_true (by kernel_rfl)) (by kernel_rfl) rfl (by kernel_rfl) (by kernel_rfl) Try.underlying3
theorem cut_any (l h r : List UInt8) (b : Bool) (hl : l.length ≤ 2000) (hc : Lib.cut l [10] = (h, r, b)) (w : World) (hm : MaxL w) :
    Calls Try.prog 31 #[.string ⟨l.toArray⟩, .string ⟨#[10]⟩] w fun e w' => e = .returned (.tuple #[.string ⟨h.toArray⟩, .string ⟨r.toArray⟩, .bool b]) ∧ ∃ n, w' = w.drewN n := by
  obtain ⟨m, hm⟩ := hm
  have := Any.strings_Cut laysCut ⟨l.toArray⟩ ⟨#[10]⟩ m w (by rw [size_mk]; omega) hm
  simp only [hc] at this
  exact this
end Go.Proofs.Ytdffejpbcoagfaa
