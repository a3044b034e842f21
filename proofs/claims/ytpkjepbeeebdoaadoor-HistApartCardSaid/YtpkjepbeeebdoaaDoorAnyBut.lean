/-
  What all but one block keeps, or all but two; a row of the call's own behind such a change; a row that is laid.
-/
import Derived.Test.YtpkjepbeeebdoaaDoorAnyRows
namespace Go.Proofs.YtpkjepbeeebdoaaDoor
open Go.RowKit

/-- What all but one block keeps. -/
structure But (g : Nat) (w w' : World) : Prop where
  os : w'.os = w.os
  tape : w'.tape = w.tape
  output : w'.output = w.output
  size : w.heap.size ≤ w'.heap.size
  block : ∀ k, k < w.heap.size → k ≠ g → w'.heap[k]? = w.heap[k]?
theorem But.refl (g : Nat) (w : World) : But g w w := ⟨rfl, rfl, rfl, Nat.le_refl _, fun _ _ _ => rfl⟩
theorem But.trans {g : Nat} {a b c : World} (h : But g a b) (k : But g b c) : But g a c :=
  ⟨k.os.trans h.os, k.tape.trans h.tape, k.output.trans h.output, Nat.le_trans h.size k.size, fun i hi hg => (k.block i (Nat.lt_of_lt_of_le hi h.size) hg).trans (h.block i hi hg)⟩
theorem But.below {g B : Nat} {w w' : World} (h : But g w w') (hB : B ≤ g) (hw : B ≤ w.heap.size) : Below B w w' :=
  ⟨h.os, h.tape, h.output, h.size, fun k hk => h.block k (by omega) (by omega)⟩
theorem But.of {g : Nat} {w w' : World} (h : Below w.heap.size w w') : But g w w' := ⟨h.os, h.tape, h.output, h.size, fun k hk _ => h.block k hk⟩
theorem But.set (w : World) (g i : Nat) (v : Value) : But g w (w.setCell ⟨g, i, none⟩ v) := by
  have h : Below 0 w (w.setCell ⟨g, i, none⟩ v) := (Below.refl 0 w).setCell (Nat.zero_le _) v
  exact ⟨h.os, h.tape, h.output, h.size, fun k _ hg => Below.heap_setCell w _ v k hg⟩
theorem But.drew {g : Nat} {a w : World} (h : But g a w) : But g a w.drew := ⟨h.os, h.tape, h.output, h.size, h.block⟩
theorem But.bk {α : Type} {K : Kd α} {g b : Nat} {w w' : World} {t : TypeId} {e : α} (h : But g w w') (k : Bk K w b t e) (hg : b ≠ g) : Bk K w' b t e := (h.block b k.lt hg).trans k
theorem Bk.keepB {α : Type} {K : Kd α} {B b : Nat} {w w' : World} {t : TypeId} {e : α} (k : Bk K w b t e) (h : Below B w w') (hb : b < B) : Bk K w' b t e := (h.block b hb).trans k
theorem OwnR.but {α : Type} {K : Kd α} {E : TypeId} {B g : Nat} {w w' : World} {A : Option Addr} {n c : Nat} {l : List α} (h : OwnR K E B w A n c l) (hb : But g w w') (hg : g < B) : OwnR K E B w' A n c l := by
  refine ⟨h.1, ?_⟩
  rcases h.2 with h0 | ⟨g', cap, cur, h1, h2, h3, h4⟩
  · exact .inl h0
  · exact .inr ⟨g', cap, cur, h1, h2, (hb.block g' (Array.getElem?_eq_some_iff.1 h3).1 (by omega)).trans h3, h4⟩
/-- What all but two blocks keep. -/
structure But2 (g h : Nat) (w w' : World) : Prop where
  os : w'.os = w.os
  tape : w'.tape = w.tape
  output : w'.output = w.output
  size : w.heap.size ≤ w'.heap.size
  block : ∀ k, k < w.heap.size → k ≠ g → k ≠ h → w'.heap[k]? = w.heap[k]?
section
variable {g h : Nat} {a b c w w' : World}
theorem But2.refl (g h : Nat) (w : World) : But2 g h w w := ⟨rfl, rfl, rfl, Nat.le_refl _, fun _ _ _ _ => rfl⟩
theorem But2.trans (x : But2 g h a b) (y : But2 g h b c) : But2 g h a c :=
  ⟨y.os.trans x.os, y.tape.trans x.tape, y.output.trans x.output, Nat.le_trans x.size y.size, fun i hi hg hh => (y.block i (Nat.lt_of_lt_of_le hi x.size) hg hh).trans (x.block i hi hg hh)⟩
theorem But2.fst (x : But2 g h a b) (y : But g b c) : But2 g h a c := x.trans ⟨y.os, y.tape, y.output, y.size, fun i hi hg _ => y.block i hi hg⟩
theorem But2.snd (x : But2 g h a b) (y : But h b c) : But2 g h a c := x.trans ⟨y.os, y.tape, y.output, y.size, fun i hi _ hh => y.block i hi hh⟩
theorem But2.step (x : But2 g h a b) (y : Below a.heap.size b c) : But2 g h a c :=
  ⟨y.os.trans x.os, y.tape.trans x.tape, y.output.trans x.output, Nat.le_trans x.size y.size, fun i hi hg hh => (y.block i hi).trans (x.block i hi hg hh)⟩
theorem But2.new (x : But2 g h a b) (o : Obj) : But2 g h a (b.alloc o) := x.step ((Below.refl _ b).alloc x.size o)
theorem But2.set (x : But2 g h a b) (q i : Nat) (hq : a.heap.size ≤ q) (v : Value) : But2 g h a (b.setCell ⟨q, i, none⟩ v) := x.step ((Below.refl _ b).setCell hq v)
theorem But2.below {B : Nat} (x : But2 g h w w') (hg : B ≤ g) (hh : B ≤ h) (hw : B ≤ w.heap.size) : Below B w w' :=
  ⟨x.os, x.tape, x.output, x.size, fun k hk => x.block k (by omega) (by omega) (by omega)⟩
theorem But2.bk {α : Type} {K : Kd α} {q : Nat} {t : TypeId} {e : α} (x : But2 g h w w') (k : Bk K w q t e) (hg : q ≠ g) (hh : q ≠ h) : Bk K w' q t e := (x.block q k.lt hg hh).trans k
theorem OwnR.but2 {α : Type} {K : Kd α} {E : TypeId} {B : Nat} {A : Option Addr} {n c : Nat} {l : List α} (o : OwnR K E B w A n c l) (x : But2 g h w w') (hg : g < B) (hh : h < B) : OwnR K E B w' A n c l := by
  refine ⟨o.1, ?_⟩
  rcases o.2 with h0 | ⟨g', cap, cur, h1, h2, h3, h4⟩
  · exact .inl h0
  · exact .inr ⟨g', cap, cur, h1, h2, (x.block g' (Array.getElem?_eq_some_iff.1 h3).1 (by omega) (by omega)).trans h3, h4⟩
end
/-- What all but some blocks keep. -/
structure ButP (p : Nat → Prop) (w w' : World) : Prop where
  os : w'.os = w.os
  tape : w'.tape = w.tape
  output : w'.output = w.output
  size : w.heap.size ≤ w'.heap.size
  block : ∀ k, k < w.heap.size → ¬ p k → w'.heap[k]? = w.heap[k]?
section
variable {p : Nat → Prop} {a b c w w' : World}
theorem ButP.refl (p : Nat → Prop) (w : World) : ButP p w w := ⟨rfl, rfl, rfl, Nat.le_refl _, fun _ _ _ => rfl⟩
theorem ButP.trans (x : ButP p a b) (y : ButP p b c) : ButP p a c :=
  ⟨y.os.trans x.os, y.tape.trans x.tape, y.output.trans x.output, Nat.le_trans x.size y.size, fun i hi hp => (y.block i (Nat.lt_of_lt_of_le hi x.size) hp).trans (x.block i hi hp)⟩
theorem ButP.but {g : Nat} (x : ButP p a b) (y : But g b c) (hg : p g) : ButP p a c :=
  x.trans ⟨y.os, y.tape, y.output, y.size, fun i hi hp => y.block i hi fun e => hp (e ▸ hg)⟩
theorem ButP.step (x : ButP p a b) (y : Below a.heap.size b c) : ButP p a c :=
  ⟨y.os.trans x.os, y.tape.trans x.tape, y.output.trans x.output, Nat.le_trans x.size y.size, fun i hi hp => (y.block i hi).trans (x.block i hi hp)⟩
theorem ButP.below {B : Nat} (x : ButP p w w') (hB : ∀ k, k < B → ¬ p k) (hw : B ≤ w.heap.size) : Below B w w' :=
  ⟨x.os, x.tape, x.output, x.size, fun k hk => x.block k (by omega) (hB k hk)⟩
theorem ButP.bk {α : Type} {K : Kd α} {q : Nat} {t : TypeId} {e : α} (x : ButP p w w') (k : Bk K w q t e) (hq : ¬ p q) : Bk K w' q t e := (x.block q k.lt hq).trans k
theorem Rw.butp {α : Type} {K : Kd α} {A : Option Addr} {n c : Nat} {l : List α} (h : Rw K w A n c l) (x : ButP p w w') (hp : 0 < n → ∀ b o, A = some ⟨b, o, none⟩ → ¬ p b) : Rw K w' A n c l :=
  ⟨h.1, h.2.1, fun hn => by
    obtain ⟨b, o, e, hb, hc⟩ := h.at0 hn
    refine ⟨b, o, e, Nat.lt_of_lt_of_le hb x.size, fun j hj => ?_⟩
    rw [← hc j hj]
    exact World.cell?_of_block (w := w) (x.block b hb (hp hn b o e)), h.2.2.2⟩
end
/-- Block b holds a row of so many. -/
def BkL {α : Type} (K : Kd α) (w : World) (b : Nat) (t : TypeId) (l : List α) : Prop := w.heap[b]? = some (.cells (K.all l).toArray t (0, 0))
section
variable {α : Type} {K : Kd α} {w w' : World} {b : Nat} {t : TypeId} {l : List α}
theorem BkL.lt (h : BkL K w b t l) : b < w.heap.size := (Array.getElem?_eq_some_iff.1 h).1
theorem BkL.f (h : BkL K w b t l) (j : Nat) : w.frozen? ⟨b, j, none⟩ = false := by unfold BkL at h; simp [World.frozen?, h]
theorem BkL.block (h : BkL K w b t l) (hb : w'.heap[b]? = w.heap[b]?) : BkL K w' b t l := hb.trans h
theorem BkL.at_ (w : World) (t : TypeId) (l : List α) (vs : Array Value) (hv : vs = (K.all l).toArray) (g : Nat) (hg : w.heap.size = g) : BkL K (w.alloc (.cells vs t)) g t l := by
  subst hg hv
  show (w.heap.push _)[w.heap.size]? = _
  rw [Array.getElem?_push, if_pos rfl]
theorem BkL.rw (h : BkL K w b t l) (n : Nat) (hn : l.length = n) : Rw K w (some ⟨b, 0, none⟩) n n l := by
  subst hn
  refine ⟨rfl, Nat.le_refl _, fun _ => ⟨b, 0, rfl, h.lt, fun j hj => ?_⟩, fun h => by cases h⟩
  rw [Nat.zero_add, cell_of_row _ _ j _ t (0, 0) h]
  simp
theorem Kd.all_set (hk : K.k = 1) (v : Value) (x : α) (hv : K.v x = [v]) : ∀ (l : List α) (i : Nat), (K.all l).set i v = K.all (l.set i x)
  | [], i => by cases i <;> rfl
  | y :: l, i => by
    have hy : (K.v y).length = 1 := by rw [K.len, hk]
    obtain ⟨u, hu⟩ := List.length_eq_one_iff.1 hy
    cases i with
    | zero => simp [Kd.all_cons, hu, hv]
    | succ i => simp [Kd.all_cons, hu, Kd.all_set hk v x hv l i]
theorem BkL.set1 (h : BkL K w b t l) (hk : K.k = 1) (i : Nat) (x : α) (v : Value) (hv : K.v x = [v]) : BkL K (w.setCell ⟨b, i, none⟩ v) b t (l.set i x) := by
  unfold BkL at h ⊢
  have e : (K.all l).toArray.setIfInBounds i v = (K.all (l.set i x)).toArray := by
    rw [← Array.toList_inj]
    simpa using Kd.all_set hk v x hv l i
  simp [World.setCell, Array.getElem?_modify, h, ← e]
end
theorem OwnR.lit {α : Type} {K : Kd α} {E : TypeId} {B : Nat} (w : World) (vs : Array Value) (l : List α) (n : Nat) (hB : B ≤ w.heap.size) (hn : l.length = n) (hm : n ≤ 1000000) (hv : vs = (K.all l).toArray) (g : Nat) (hg : w.heap.size = g) :
    OwnR K E B (w.alloc (.cells vs E)) (some ⟨g, 0, none⟩) n n l := by
  subst hg hv hn
  have := World.ownsRow_lit (e := E) (base := B) (size := K.k) w (K.all l).toArray l.length hB (by unfold maxLen; omega) (by simp [Kd.all_length])
  unfold OwnR
  simpa using this
end Go.Proofs.YtpkjepbeeebdoaaDoor
