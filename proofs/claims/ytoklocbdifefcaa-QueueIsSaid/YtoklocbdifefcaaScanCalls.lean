/-
  What the calls of package scan answer on texts of bytes, but Upper and Lines: where a text has come to, behind blanks, what is left, what is parsed, the next word.
-/
import Derived.Test.YtoklocbdifefcaaProg
import Derived.Test.YtoklocbdifefcaaBelowThen
import Derived.Test.YtoklocbdifefcaaScanMath
import Derived.Below
import Derived.Deep.Draws
import Derived.WalkKit
import Derived.WalkMore
import Derived.Lib.Hide
import Derived.IntWalk
namespace Go.Proofs.Ytoklocbdifefcaa
open Go.RowKit

theorem size_mk (l : List UInt8) : (⟨l.toArray⟩ : ByteArray).size = l.length := by simp [ByteArray.size]
theorem scA_cases {l : List UInt8} {i : Int} {k : Nat} (h : scA l i = k) : (i < 0 ∧ k = 0) ∨ (i = (k : Int) ∧ k ≤ l.length) ∨ ((l.length : Int) < i ∧ k = l.length) := by
  unfold scA at h
  omega

/-- Block b holds a text and how far it has come. -/
def Src (w : World) (b : Nat) (t : TypeId) (S : ByteArray) (i : Int) : Prop := w.heap[b]? = some (.cells #[.string S, .int .i64 i] t (0, 0))
section
variable {w w' : World} {b : Nat} {t : TypeId} {S T : ByteArray} {i j : Int}
theorem Src.lt (h : Src w b t S i) : b < w.heap.size := (Array.getElem?_eq_some_iff.1 h).1
theorem Src.s (h : Src w b t S i) : w.cell? ⟨b, 0, none⟩ = some (.string S) := by unfold Src at h; simp [World.cell?, h]
theorem Src.n (h : Src w b t S i) : w.cell? ⟨b, 1, none⟩ = some (.int .i64 i) := by unfold Src at h; simp [World.cell?, h]
theorem Src.fs (h : Src w b t S i) : w.frozen? ⟨b, 0, none⟩ = false := by unfold Src at h; simp [World.frozen?, h]
theorem Src.fn (h : Src w b t S i) : w.frozen? ⟨b, 1, none⟩ = false := by unfold Src at h; simp [World.frozen?, h]
theorem Src.keep (h : Src w b t S i) (hb : Below w.heap.size w w') : Src w' b t S i := (hb.block b h.lt).trans h
theorem Src.new (w : World) (t : TypeId) (S : ByteArray) (i : Int) : Src (w.alloc (.cells #[.string S, .int .i64 i] t)) w.heap.size t S i := by
  show (w.heap.push _)[w.heap.size]? = _
  rw [Array.getElem?_push, if_pos rfl]
theorem Src.alloc (h : Src w b t S i) (o : Obj) : Src (w.alloc o) b t S i := (Below.heap_alloc w o b h.lt).trans h
theorem Src.other (h : Src w b t S i) {p : Addr} (hp : b ≠ p.block) (v : Value) : Src (w.setCell p v) b t S i := (Below.heap_setCell w p v b hp).trans h
theorem Src.setI (h : Src w b t S i) (j : Int) : Src (w.setCell ⟨b, 1, none⟩ (.int .i64 j)) b t S j := by
  unfold Src at h ⊢
  simp [World.setCell, Array.getElem?_modify, h]
theorem Src.setS (h : Src w b t S i) (T : ByteArray) : Src (w.setCell ⟨b, 0, none⟩ (.string T)) b t T i := by
  unfold Src at h ⊢
  simp [World.setCell, Array.getElem?_modify, h]
theorem Src.set (h : Src w b t S i) (T : ByteArray) (j : Int) : Src ((w.setCell ⟨b, 0, none⟩ (.string T)).setCell ⟨b, 1, none⟩ (.int .i64 j)) b t T j := (h.setS T).setI j
end
/-- How far the text in a block has come. -/
def inOf (w : World) (b : Nat) : Nat := match w.cell? ⟨b, 1, none⟩ with | some (.int _ q) => q.toNat | _ => 0
theorem Src.inOf {w : World} {b : Nat} {t : TypeId} {S : ByteArray} {k : Nat} (h : Src w b t S (k : Int)) : inOf w b = k := by unfold Proofs.Ytoklocbdifefcaa.inOf; rw [h.n]; simp

theorem ext_of {l : List UInt8} {S T : ByteArray} (hS : S = ⟨l.toArray⟩) (k j : Nat) (hT : T = ⟨(scT l k j).toArray⟩) : S.extract k j = T := by
  subst hS hT
  exact ByteArray.extract_mk l k j
theorem scA_str {l : List UInt8} {i : Int} {k : Nat} {S : ByteArray} (hS : S = ⟨l.toArray⟩) (hk : scA l i = k) : (i < 0 ∧ k = 0) ∨ (i = (k : Int) ∧ k ≤ S.size) ∨ ((S.size : Int) < i ∧ k = S.size) := by
  have h := scA_cases hk
  rw [hS, size_mk]
  exact h
end Go.Proofs.Ytoklocbdifefcaa
