/-
  Eight counters in a block: TimerWakes' own array; a list of naps, and who is due, that lie apart of it.
-/
import Derived.Test.YtpkfmbknbdlnpaaTimerHeld
import Derived.Test.YtpkfmbknbdlnpaaBelowThen
namespace Go.Proofs.Ytpkfmbknbdlnpaa
open Go.RowKit

/-- A slice lies in another block than g. What a call hands back lies apart of whatever was there, where what it was given did. -/
def Apt (A : Option Addr) (n g : Nat) : Prop := 0 < n → ∀ b o, A = some ⟨b, o, none⟩ → b ≠ g
def Born (w : World) (A : Option Addr) (n : Nat) (A' : Option Addr) (n' : Nat) : Prop := ∀ g, g < w.heap.size → Apt A n g → Apt A' n' g
theorem Nps.set_ {w : World} {A : Option Addr} {n c : Nat} {l : List Np} (h : Nps w A n c l) {g : Nat} (hg : Apt A n g) (k : Nat) (v : Value) : Nps (w.setCell ⟨g, k, none⟩ v) A n c l := by
  refine ⟨h.1, h.2.1, fun h0 => ?_, h.2.2.2⟩
  obtain ⟨b, o, e, hb, hc⟩ := h.at0 h0
  refine ⟨b, o, e, by simpa [World.setCell] using hb, fun j hj => ?_⟩
  rw [← hc j hj]
  exact World.cell?_of_block (w := w) (Below.heap_setCell w ⟨g, k, none⟩ v b (hg h0 b o e))
theorem Stk.set_ {w : World} {A : Option Addr} {n c : Nat} {l : List Int} (h : Stk w A n c l) {g : Nat} (hg : Apt A n g) (k : Nat) (v : Value) : Stk (w.setCell ⟨g, k, none⟩ v) A n c l := by
  refine ⟨h.1, h.2.1, fun h0 => ?_, h.2.2.2⟩
  obtain ⟨b, o, e, hb, hc⟩ := h.at0 h0
  refine ⟨b, o, e, by simpa [World.setCell] using hb, fun j hj => ?_⟩
  rw [← hc j hj]
  exact World.cell?_of_block (w := w) (Below.heap_setCell w ⟨g, k, none⟩ v b (hg h0 b o e))
/-- A slice that was there ahead lies in no block that came behind. -/
theorem nps_old {w : World} {A : Option Addr} {n c : Nat} {l : List Np} (h : Nps w A n c l) {g : Nat} (hg : w.heap.size ≤ g) : Apt A n g := by
  intro h0 b o e
  obtain ⟨b', o', e', hb, _⟩ := h.at0 h0
  rw [e] at e'
  cases e'
  omega
/-- What Due answers, and where it lies. -/
def NIBPost (A : Option Addr) (n : Nat) (l : List Np) (k : List Int) (w : World) (e : Ending) (w' : World) : Prop :=
  ∃ A' n' c' B m d, e = .returned (.tuple #[.slice A' n' c', .slice B m d]) ∧ Nps w' A' n' c' l ∧ Stk w' B m d k ∧ Below w.heap.size w w' ∧ Born w A n A' n' ∧ ∀ g, g < w.heap.size → Apt B m g
/-- Block g holds the counters l. -/
def Ai (w : World) (g : Nat) (l : List Int) : Prop := w.heap[g]? = some (.cells (l.map (Value.int .i64)).toArray 46 (0, 0))
section
variable {w w' : World} {g : Nat} {l : List Int}
theorem Ai.lt (h : Ai w g l) : g < w.heap.size := (Array.getElem?_eq_some_iff.1 h).1
theorem Ai.cell (h : Ai w g l) (k : Nat) (hk : k < l.length) : w.cell? ⟨g, k, none⟩ = some (.int .i64 (l.getD k 0)) := by
  rw [cell_of_row w g k _ 46 (0, 0) h]
  simp [List.getD, hk]
theorem Ai.f (h : Ai w g l) (j : Nat) : w.frozen? ⟨g, j, none⟩ = false := by unfold Ai at h; simp [World.frozen?, h]
theorem Ai.keep (h : Ai w g l) (hb : Below w.heap.size w w') : Ai w' g l := (hb.block g h.lt).trans h
theorem Ai.set (h : Ai w g l) (k : Nat) (v : Int) : Ai (w.setCell ⟨g, k, none⟩ (.int .i64 v)) g (l.set k v) := by
  unfold Ai at h ⊢
  simp [World.setCell, Array.getElem?_modify, h]
theorem Ai.as {l' : List Int} (h : Ai w g l) (e : l = l') : Ai w g l' := e ▸ h
theorem Ai.new (w : World) : Ai (w.alloc (.cells #[.int .i64 0, .int .i64 0, .int .i64 0, .int .i64 0, .int .i64 0, .int .i64 0, .int .i64 0, .int .i64 0] 46)) w.heap.size [0, 0, 0, 0, 0, 0, 0, 0] := by
  show (w.heap.push _)[w.heap.size]? = _
  rw [Array.getElem?_push, if_pos rfl]
  rfl
end
/-- Who sleeps, and the counters; of what was there in w0 nothing has changed. -/
structure Wk (w0 w : World) (e : Nat) (C : List Int) (A : Option Addr) (n c : Nat) (M : List Np) : Prop where
  ar : Ai w e C
  ns : Nps w A n c M
  apt : Apt A n e
  below : Below w0.heap.size w0 w
  le : w0.heap.size ≤ e
/-- The same, and who is due. -/
structure Wi (w0 w : World) (e : Nat) (C : List Int) (A : Option Addr) (n c : Nat) (M : List Np) (B : Option Addr) (m d : Nat) (K : List Int) : Prop where
  k : Wk w0 w e C A n c M
  ids : Stk w B m d K
  apt2 : Apt B m e
section
variable {w0 w w1 : World} {e : Nat} {C : List Int} {A : Option Addr} {n c : Nat} {M : List Np} {B : Option Addr} {m d : Nat} {K : List Int}
theorem Wk.new (w0 : World) (h : Nps w0 A n c M) : Wk w0 (w0.alloc (.cells #[.int .i64 0, .int .i64 0, .int .i64 0, .int .i64 0, .int .i64 0, .int .i64 0, .int .i64 0, .int .i64 0] 46)) w0.heap.size [0, 0, 0, 0, 0, 0, 0, 0] A n c M :=
  ⟨Ai.new w0, h.alloc _, nps_old h (Nat.le_refl _), below_one _ _, Nat.le_refl _⟩
theorem Wk.as {C' : List Int} {M' : List Np} (h : Wk w0 w e C A n c M) (e1 : C = C') (e2 : M = M') : Wk w0 w e C' A n c M' := e1 ▸ e2 ▸ h
theorem Wi.as {C' : List Int} (h : Wi w0 w e C A n c M B m d K) (e1 : C = C') : Wi w0 w e C' A n c M B m d K := e1 ▸ h
theorem Wk.due {A' : Option Addr} {n' c' : Nat} {M' : List Np} (h : Wk w0 w e C A n c M) (hi : Nps w1 A' n' c' M') (hk : Stk w1 B m d K) (hb : Below w.heap.size w w1) (hbo : Born w A n A' n') (hf : ∀ g, g < w.heap.size → Apt B m g) : Wi w0 w1 e C A' n' c' M' B m d K :=
  ⟨⟨h.ar.keep hb, hi, hbo e h.ar.lt h.apt, below_then h.below hb, h.le⟩, hk, hf e h.ar.lt⟩
theorem Wi.set (h : Wi w0 w e C A n c M B m d K) (k : Nat) (v : Int) : Wi w0 (w.setCell ⟨e, k, none⟩ (.int .i64 v)) e (C.set k v) A n c M B m d K :=
  ⟨⟨h.k.ar.set k v, h.k.ns.set_ h.k.apt _ _, h.k.apt, h.k.below.setCell h.k.le _, h.k.le⟩, h.ids.set_ h.apt2 _ _, h.apt2⟩
theorem Wi.drew (h : Wi w0 w e C A n c M B m d K) : Wi w0 w.drew e C A n c M B m d K := ⟨⟨h.k.ar, h.k.ns, h.k.apt, h.k.below.drew, h.k.le⟩, h.ids, h.apt2⟩
end
end Go.Proofs.Ytpkfmbknbdlnpaa
