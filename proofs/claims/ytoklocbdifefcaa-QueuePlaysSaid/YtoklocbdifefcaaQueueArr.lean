/-
  Eight marks in a block: QueuePlays' own array.
-/
import Derived.Test.YtoklocbdifefcaaQueueHold
import Derived.Test.YtoklocbdifefcaaQueuePlay
namespace Go.Proofs.Ytoklocbdifefcaa
open Go.RowKit

/-- Block g holds the marks b. -/
def Ar (w : World) (g : Nat) (b : List Bool) : Prop := w.heap[g]? = some (.cells (b.map Value.bool).toArray 53 (0, 0))
section
variable {w w' : World} {g : Nat} {b : List Bool}
theorem Ar.lt (h : Ar w g b) : g < w.heap.size := (Array.getElem?_eq_some_iff.1 h).1
theorem Ar.cell (h : Ar w g b) (k : Nat) (hk : k < b.length) : w.cell? ⟨g, k, none⟩ = some (.bool (b.getD k false)) := by
  rw [cell_of_row w g k _ 53 (0, 0) h]
  simp [List.getD, hk]
theorem Ar.f (h : Ar w g b) (j : Nat) : w.frozen? ⟨g, j, none⟩ = false := by unfold Ar at h; simp [World.frozen?, h]
theorem Ar.keep (h : Ar w g b) (hb : Below w.heap.size w w') : Ar w' g b := (hb.block g h.lt).trans h
theorem Ar.alloc (h : Ar w g b) (o : Obj) : Ar (w.alloc o) g b := (Below.heap_alloc w o g h.lt).trans h
theorem Ar.other (h : Ar w g b) {p : Addr} (hp : g ≠ p.block) (v : Value) : Ar (w.setCell p v) g b := (Below.heap_setCell w p v g hp).trans h
theorem Ar.set (h : Ar w g b) (k : Nat) (v : Bool) : Ar (w.setCell ⟨g, k, none⟩ (.bool v)) g (b.set k v) := by
  unfold Ar at h ⊢
  simp [World.setCell, Array.getElem?_modify, h]
theorem Ar.as {b' : List Bool} (h : Ar w g b) (e : b = b') : Ar w g b' := e ▸ h
theorem Ar.new (w : World) (g : Nat) (hg : w.heap.size = g) : Ar (w.alloc (.cells #[.bool false, .bool false, .bool false, .bool false, .bool false, .bool false, .bool false, .bool false] 53)) g (inB []) := by
  subst hg
  rw [inB_nil]
  show (w.heap.push _)[w.heap.size]? = _
  rw [Array.getElem?_push, if_pos rfl]
  rfl
end
/-- A queue and its marks. -/
structure QM (w0 w : World) (g e : Nat) (N : Int) (l : List It) (A : Option Addr) (n c : Nat) : Prop where
  s : QS w0 w g N l A n c
  ar : Ar w e (inB l)
  apt : Apt A n e
  le : w0.heap.size ≤ e
  ne : g ≠ e
  sane : Sq N l
section
variable {w0 w w1 : World} {g e : Nat} {N : Int} {l : List It} {A : Option Addr} {n c : Nat}
theorem QM.keep (h : QM w0 w g e N l A n c) (hb : Below w.heap.size w w1) : QM w0 w1 g e N l A n c := ⟨h.s.keep hb, h.ar.keep hb, h.apt, h.le, h.ne, h.sane⟩
/-- What a call has answered is stored, and a mark is set. -/
theorem QM.set (h : QM w0 w g e N l A n c) {N' : Int} {l' : List It} {A' : Option Addr} {n' c' : Nat} (hb : Below w.heap.size w w1) (hi : Its w1 A' n' c' l') (hbo : Born w A n A' n') (k : Nat) (v : Bool) (hv : (inB l).set k v = inB l') (hs : Sq N' l') :
    QM w0 (((w1.setCell ⟨e, k, none⟩ (.bool v)).setCell ⟨g, 0, none⟩ (.int .i64 N')).setCell ⟨g, 1, none⟩ (.slice A' n' c')) g e N' l' A' n' c' := by
  have ae : Apt A' n' e := hbo e h.ar.lt h.apt
  have ag : Apt A' n' g := hbo g h.s.q.lt h.s.apt
  refine ⟨⟨((h.s.q.keep hb).other h.ne _).set _ _ _ _, (((hi.set_ ae k _).set_ ag 0 _).set_ ag 1 _), ag, below_set (below_set (below_set (below_then h.s.below hb) h.le _) h.s.le _) h.s.le _, h.s.le⟩, ?_, ae, h.le, h.ne, hs⟩
  rw [← hv]
  exact ((((h.ar.keep hb).set k v).other h.ne.symm _).other h.ne.symm _)
/-- The same without a mark. -/
theorem QM.set0 (h : QM w0 w g e N l A n c) {N' : Int} {l' : List It} {A' : Option Addr} {n' c' : Nat} (hb : Below w.heap.size w w1) (hi : Its w1 A' n' c' l') (hbo : Born w A n A' n') (hv : inB l = inB l') (hs : Sq N' l') :
    QM w0 ((w1.setCell ⟨g, 0, none⟩ (.int .i64 N')).setCell ⟨g, 1, none⟩ (.slice A' n' c')) g e N' l' A' n' c' := by
  have ae : Apt A' n' e := hbo e h.ar.lt h.apt
  have ag : Apt A' n' g := hbo g h.s.q.lt h.s.apt
  refine ⟨⟨(h.s.q.keep hb).set _ _ _ _, (hi.set_ ag 0 _).set_ ag 1 _, ag, below_set (below_set (below_then h.s.below hb) h.s.le _) h.s.le _, h.s.le⟩, ?_, ae, h.le, h.ne, hs⟩
  rw [← hv]
  exact ((h.ar.keep hb).other h.ne.symm _).other h.ne.symm _
end
end Go.Proofs.Ytoklocbdifefcaa
