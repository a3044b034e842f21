/-
  Rows of any kind that lie in a world: a slice that reads as a list, each element of so many cells; nil let in. They read so in every world in which of what was there nothing has changed. Rows of the call's own; append onto them.
-/
import Derived.Test.YtpkjepbeeebdoaaDoorProg
import Derived.Test.YtpkjepbeeebdoaaDoorBelowThen
import Derived.Below
import Derived.Laws.OwnMore
import Derived.Laws.AppendOwnNone
import Derived.Maps.AppendAt
import Derived.Deep.AppendLies
import Derived.Deep.OwnRows
import Derived.Deep.Draws
import Derived.WalkKit
import Derived.WalkMore
import Derived.OwnWalk
import Derived.Lib.Hide
import Derived.Lib.AppendZeros
import Derived.Lib.SliceRun
import Derived.Laws.StructEq
namespace Go.Proofs.YtpkjepbeeebdoaaDoor
open Go.RowKit

/-- A kind: the cells of one, so many, and the one that stands for none. -/
structure Kd (α : Type) where
  v : α → List Value
  k : Nat
  z : α
  len : ∀ e, (v e).length = k
  one : ∀ e, ∀ x ∈ v e, x.oneCell' = true
variable {α : Type} {K : Kd α}
def Kd.all (K : Kd α) (l : List α) : List Value := l.flatMap K.v
theorem Kd.all_cons (e : α) (l : List α) : K.all (e :: l) = K.v e ++ K.all l := rfl
theorem Kd.all_length (l : List α) : (K.all l).length = l.length * K.k := by
  induction l with
  | nil => simp [Kd.all]
  | cons p l ih => rw [Kd.all_cons, List.length_append, ih, List.length_cons, K.len p, Nat.add_mul]; omega
theorem Kd.all_append (l m : List α) : K.all (l ++ m) = K.all l ++ K.all m := by simp [Kd.all]
theorem Kd.get (l : List α) (j : Nat) (hj : j < l.length) (i : Nat) (hi : i < K.k) : (K.all l)[j * K.k + i]? = (K.v l[j])[i]? := by
  induction l generalizing j with
  | nil => simp at hj
  | cons p l ih =>
    have hp : (K.v p).length = K.k := K.len p
    cases j with
    | zero => rw [Kd.all_cons, List.getElem?_append_left (by rw [hp]; omega)]; simp
    | succ j =>
      rw [Kd.all_cons, List.getElem?_append_right (by rw [hp, Nat.add_mul]; omega), hp, show (j + 1) * K.k + i - K.k = j * K.k + i by rw [Nat.add_mul]; omega, ih j (by simpa using hj)]
      simp
theorem Kd.all_one (l : List α) : ∀ x ∈ K.all l, x.oneCell' = true := by
  intro x hx
  obtain ⟨p, _, hp⟩ := List.mem_flatMap.1 hx
  exact K.one p x hp

/-- The slice A, n, c holds the list l. -/
def Rw (K : Kd α) (w : World) (A : Option Addr) (n c : Nat) (l : List α) : Prop :=
  l.length = n ∧ n ≤ c ∧ (0 < n → ∃ b o, A = some ⟨b, o, none⟩ ∧ b < w.heap.size ∧ ∀ j, j < l.length * K.k → w.cell? ⟨b, o + j, none⟩ = (K.all l)[j]?) ∧ (A = none → c = 0)
section
variable {w w' : World} {A : Option Addr} {n c : Nat} {l l' : List α}
theorem Rw.len (h : Rw K w A n c l) : l.length = n := h.1
theorem Rw.le (h : Rw K w A n c l) : n ≤ c := h.2.1
theorem Rw.at0 (h : Rw K w A n c l) : 0 < n → ∃ b o, A = some ⟨b, o, none⟩ ∧ b < w.heap.size ∧ ∀ j, j < l.length * K.k → w.cell? ⟨b, o + j, none⟩ = (K.all l)[j]? := h.2.2.1
theorem Rw.keep (h : Rw K w A n c l) (hs : w.heap.size ≤ w'.heap.size) (hk : ∀ b o, b < w.heap.size → w'.cell? ⟨b, o, none⟩ = w.cell? ⟨b, o, none⟩) : Rw K w' A n c l :=
  ⟨h.1, h.2.1, fun hn => by
    obtain ⟨b, o, e, hb, hc⟩ := h.at0 hn
    exact ⟨b, o, e, Nat.lt_of_lt_of_le hb hs, fun j hj => (hk b _ hb).trans (hc j hj)⟩, h.2.2.2⟩
theorem Rw.below (h : Rw K w A n c l) (hb : Below w.heap.size w w') : Rw K w' A n c l :=
  h.keep hb.size fun b o hlt => hb.cell (p := ⟨b, o, none⟩) hlt
theorem Rw.alloc (h : Rw K w A n c l) (o : Obj) : Rw K (w.alloc o) A n c l := h.below ((Below.refl _ _).alloc (Nat.le_refl _) o)
theorem Rw.drewN (h : Rw K w A n c l) (k : Nat) : Rw K (w.drewN k) A n c l := h
theorem Rw.drew (h : Rw K w A n c l) : Rw K w.drew A n c l := h
theorem Rw.as (h : Rw K w A n c l) (e : l = l') : Rw K w A n c l' := e ▸ h
theorem Rw.nil : Rw K w none 0 0 [] := ⟨rfl, Nat.zero_le _, fun h => absurd h (by omega), fun _ => rfl⟩
theorem Rw.at_ (h : Rw K w A n c l) (q : Nat) (hq : q < n) : ∃ b o, A = some ⟨b, o, none⟩ ∧ b < w.heap.size ∧ ∀ i, i < K.k → w.cell? ⟨b, o + q * K.k + i, none⟩ = (K.v (l.getD q K.z))[i]? := by
  obtain ⟨b, o, rfl, hb, hc⟩ := h.at0 (by omega)
  have hl : q < l.length := by rw [h.1]; exact hq
  have e : l.getD q K.z = l[q] := by simp [List.getD, hl]
  rw [e]
  refine ⟨b, o, rfl, hb, fun i hi => ?_⟩
  rw [Nat.add_assoc]
  refine (hc (q * K.k + i) ?_).trans (Kd.get l q hl i hi)
  have : q * K.k + K.k ≤ l.length * K.k := by rw [← Nat.succ_mul]; exact Nat.mul_le_mul_right _ hl
  omega
theorem Rw.src {a : Addr} (h : Rw K w (some a) n c l) : ∀ j u, (K.all l)[j]? = some u → w.cell? (a.add j) = some u := by
  intro j u hu
  have hj : j < l.length * K.k := by
    rcases Nat.lt_or_ge j (K.all l).length with h1 | h1
    · rw [Kd.all_length] at h1; exact h1
    · rw [List.getElem?_eq_none h1] at hu; cases hu
  obtain ⟨b, o, e, _, hc⟩ := h.at0 (by
    rcases Nat.eq_zero_or_pos n with h0 | h0
    · have := h.1; rw [this, h0] at hj; omega
    · exact h0)
  cases e
  rw [Addr.add_lit]
  exact (hc j hj).trans hu
theorem Rw.none_ (h : Rw K w none n c l) : n = 0 ∧ c = 0 ∧ l = [] := by
  have h0 : n = 0 := by
    rcases Nat.eq_zero_or_pos n with h0 | h0
    · exact h0
    · obtain ⟨b, o, e, _⟩ := h.at0 h0; cases e
  subst h0
  exact ⟨rfl, h.2.2.2 rfl, List.eq_nil_of_length_eq_zero h.1⟩
theorem Rw.of_own {base : Nat} {e : TypeId} (hk : 0 < K.k) (h : w.ownsRow base e K.k (.slice A n c) n (K.all l)) : Rw K w A n c l := by
  have hl : l.length = n := by have := h.1; rw [Kd.all_length] at this; exact Nat.eq_of_mul_eq_mul_right hk this
  refine ⟨hl, ?_, fun hn => ?_, fun ha => ?_⟩
  rotate_right
  · rcases h.2 with ⟨e1, _⟩ | ⟨g, cap, cur, hv, _⟩
    · injection e1
    · injection hv with h1 _ _; rw [ha] at h1; cases h1
  · rcases h.2 with ⟨e1, e2⟩ | ⟨g, cap, cur, hv, _, _, hnc, _⟩
    · omega
    · injection hv with _ _ h3; omega
  · obtain ⟨g, cap, hv, _, hlt⟩ := h.form hn
    injection hv with h1 _ _
    subst h1
    refine ⟨g, 0, rfl, hlt, fun j hj => ?_⟩
    have hx : (K.all l)[j]? = some ((K.all l)[j]'(by rw [Kd.all_length]; exact hj)) := List.getElem?_eq_getElem _
    have c0 := h.cells (g := g) rfl j _ hx
    rw [Addr.add_lit] at c0
    rw [c0, hx]
/-- A new row of some. -/
theorem Rw.new (w : World) (E : TypeId) (l : List α) (k : Nat) (hk : l.length = k) (vs : Array Value) (hv : vs = (K.all l).toArray) (g : Nat) (hg : w.heap.size = g) : Rw K (w.alloc (.cells vs E)) (some ⟨g, 0, none⟩) k k l := by
  subst hg hv
  refine ⟨hk, Nat.le_refl _, fun _ => ⟨_, 0, rfl, by simp, fun j hj => ?_⟩, fun h => by cases h⟩
  rw [Nat.zero_add, cell_of_row _ _ j _ E (0, 0) (heap_alloc_new w _)]
  simp
end
/-- T is a type of slices of the kind, E that of its elements. -/
structure KT (K : Kd α) (T E : TypeId) where
  zero : Value
  size : Nat
  under : Tryd.prog.underlying T = some (.slice E)
  info : (Tryd.prog.info? E).map (fun i => (i.zero, i.size, i.bytes)) = some (some zero, K.k, size)
  elem : Tryd.prog.elem T = E
  cells : zero.cells.size = K.k
  pos : 0 < K.k
  small : size ≤ 128
theorem KT.sizeP {T E : TypeId} (h : KT K T E) (w : World) : (Go.sizeOf E).run Tryd.prog w = .ok K.k w := by
  obtain ⟨i, hi, hz, hs, hb⟩ := info_parts h.info
  simp [Go.sizeOf, typeInfo, hi, hs]
theorem KT.underE {T E : TypeId} (h : KT K T E) : Tryd.prog.underlying T = some (.slice (Tryd.prog.elem T)) := by rw [h.elem]; exact h.under
/-- What stands ahead of a place. -/
theorem Rw.head {T E : TypeId} (pt : KT K T E) {w : World} {A : Option Addr} {n c : Nat} {l : List α} (h : Rw K w A n c l) (k : Nat) (hk : k ≤ n) :
    (∀ W : World, (Instr.slice T (.slice A n c) none (some (.int .i64 (k : Int))) none).run Tryd.prog W = .ok (.slice A k c) W) ∧ Rw K w A k c (l.take k) := by
  obtain ⟨rfl, hc, hp, hz⟩ := h
  refine ⟨fun W => ?_, by simp; omega, by omega, fun h0 => ?_, hz⟩
  · rw [run_slice_h (P := Tryd.prog) W T A l.length c pt.underE .i64 (k : Int) (by omega) (by omega), pt.elem, pt.sizeP]
    show Result.ok (sliced A 0 (k : Int).toNat c K.k) W = _
    unfold sliced
    simp
    intro _
    cases A <;> simp [Addr.add]
  · obtain ⟨b, o, rfl, hb, hcell⟩ := hp (by omega)
    refine ⟨b, o, rfl, hb, fun j hj => ?_⟩
    have hlk : (l.take k).length = k := by simp; omega
    rw [hlk] at hj
    have hkn : k * K.k ≤ l.length * K.k := Nat.mul_le_mul_right _ hk
    rw [hcell j (by omega)]
    have e1 : K.all l = K.all (l.take k) ++ K.all (l.drop k) := by rw [← Kd.all_append, List.take_append_drop]
    rw [e1, List.getElem?_append_left (by rw [Kd.all_length, hlk]; exact hj)]
/-- What stands from a place on. -/
theorem Rw.tail {T E : TypeId} (pt : KT K T E) {w : World} {A : Option Addr} {n c : Nat} {l : List α} (h : Rw K w A n c l) (k : Nat) (hk : k ≤ n) :
    ∃ A' c', (∀ W : World, (Instr.slice T (.slice A n c) (some (.int .i64 (k : Int))) none none).run Tryd.prog W = .ok (.slice A' (n - k) c') W) ∧ Rw K w A' (n - k) c' (l.drop k) := by
  obtain ⟨rfl, hc, hp, hz⟩ := h
  refine ⟨if c = k then A else A.map (·.add (k * K.k)), c - k, fun W => ?_, by simp, by omega, fun h0 => ?_, fun ha => ?_⟩
  · rw [run_slice_l (P := Tryd.prog) W T A l.length c pt.underE .i64 (k : Int) (by omega) (by omega), pt.elem, pt.sizeP]
    show Result.ok (sliced A (k : Int).toNat l.length c K.k) W = _
    unfold sliced
    simp
  · obtain ⟨b, o, rfl, hb, hcell⟩ := hp (by omega)
    rw [if_neg (by omega)]
    refine ⟨b, o + k * K.k, by simp [Addr.add_lit], hb, fun j hj => ?_⟩
    simp only [List.length_drop] at hj
    have hkl : k + (l.length - k) = l.length := Nat.add_sub_cancel' hk
    have hkn : k * K.k + (l.length - k) * K.k = l.length * K.k := by rw [← Nat.add_mul, hkl]
    clear hkl
    rw [Nat.add_assoc, hcell (k * K.k + j) (by omega)]
    have hlk : (l.take k).length = k := by simp; omega
    have e1 : K.all l = K.all (l.take k) ++ K.all (l.drop k) := by rw [← Kd.all_append, List.take_append_drop]
    rw [e1, List.getElem?_append_right (by rw [Kd.all_length, hlk]; omega), Kd.all_length, hlk, show k * K.k + j - k * K.k = j by omega]
  · have : A = none := by
      split at ha
      · exact ha
      · simpa using ha
    have := hz this
    omega
/-- A row that lies in a block from B on. -/
def OwnR (K : Kd α) (E : TypeId) (B : Nat) (w : World) (A : Option Addr) (n c : Nat) (l : List α) : Prop := w.ownsRow B E K.k (.slice A n c) n (K.all l)
/-- Slice A lies in a block from B on, if there is something in it. -/
def Frs (B : Nat) (A : Option Addr) (n : Nat) : Prop := 0 < n → ∀ b o, A = some ⟨b, o, none⟩ → B ≤ b
section
variable {E T : TypeId} {B : Nat} {w w2 : World} {A : Option Addr} {n c : Nat} {l : List α}
theorem OwnR.rw (hk : 0 < K.k) (h : OwnR K E B w A n c l) : Rw K w A n c l := Rw.of_own hk h
theorem OwnR.nil (K : Kd α) (E : TypeId) (B : Nat) (w : World) : OwnR K E B w none 0 0 [] := ⟨by simp [Kd.all], .inl ⟨rfl, rfl⟩⟩
theorem OwnR.as {l' : List α} (h : OwnR K E B w A n c l) (e : l = l') : OwnR K E B w A n c l' := e ▸ h
theorem OwnR.made (K : Kd α) (E : TypeId) (B : Nat) (w : World) (hB : B ≤ w.heap.size) (g : Nat) (hg : w.heap.size = g) : OwnR K E B (w.alloc (.cells #[] E)) (some ⟨g, 0, none⟩) 0 0 [] := by
  subst hg
  have := World.ownsRow_made (e := E) (size := K.k) w #[] 0 (Nat.le_refl _) (Nat.zero_le _) (by simp)
  exact ⟨this.1, by
    rcases this.2 with h0 | ⟨g, cap, cur, h1, h2, h3⟩
    · exact .inl h0
    · exact .inr ⟨g, cap, cur, h1, by omega, h3⟩⟩
theorem OwnR.fre (h : OwnR K E B w A n c l) : Frs B A n := by
  intro h0 b o e
  obtain ⟨g, cap, hv, hb, _⟩ := h.form h0
  injection hv with h1 _ _
  rw [h1] at e
  injection e with e
  injection e with e1 _
  omega
theorem OwnR.keep (h : OwnR K E B w A n c l) (hb : Below w.heap.size w w2) : OwnR K E B w2 A n c l := by
  refine ⟨h.1, ?_⟩
  rcases h.2 with h0 | ⟨g, cap, cur, h1, h2, h3, h4⟩
  · exact .inl h0
  · exact .inr ⟨g, cap, cur, h1, h2, (hb.block g (Array.getElem?_eq_some_iff.1 h3).1).trans h3, h4⟩
theorem OwnR.set (h : OwnR K E B w A n c l) {p : Addr} (hp : p.block < B) (v : Value) : OwnR K E B (w.setCell p v) A n c l := by
  refine ⟨h.1, ?_⟩
  rcases h.2 with h0 | ⟨g, cap, cur, h1, h2, h3, h4⟩
  · exact .inl h0
  · exact .inr ⟨g, cap, cur, h1, h2, (Below.heap_setCell w p v g (by omega)).trans h3, h4⟩
end
theorem run_appRw {T E : TypeId} (pt : KT K T E) {B : Nat} {w : World} {A C : Option Addr} {n c m d : Nat} {xs l : List α} (ty : TypeId) (hB : B ≤ w.heap.size) (h : OwnR K E B w A n c xs) (hs : Rw K w C m d l) (hn : n + m ≤ 1000000) :
    ∃ A' c' w', (Builtin.append_ #[T, T] ty #[.slice A n c, .slice C m d]).run Tryd.prog w = .ok (.slice A' (n + m) c') w' ∧ OwnR K E B w' A' (n + m) c' (xs ++ l) ∧ Below B w w' := by
  obtain ⟨i, hi, hz0, hz1, hz2⟩ := info_parts pt.info
  cases C with
  | none =>
    obtain ⟨rfl, rfl, rfl⟩ := hs.none_
    refine ⟨A, c, w, run_append_owned_none (P := Tryd.prog) (w := w) B T ty E i K.k pt.under hi _ n (K.all xs) h, ?_, Below.refl _ _⟩
    rw [List.append_nil, Nat.add_zero]
    exact h
  | some a =>
    obtain ⟨v', w', hrun, h2, h3, _, _⟩ := run_append_own_at (P := Tryd.prog) w B T ty E i pt.zero K.k pt.size pt.under hi hz0 hz1 hz2 pt.cells pt.pos _ n (K.all xs) h a m d (K.all l)
      (by rw [Kd.all_length, hs.1]) hs.src (Kd.all_one l) (by unfold maxLen; omega) (by have := pt.small; have : (n + m) * pt.size ≤ 1000000 * 128 := Nat.mul_le_mul hn this; omega) hB
    have hv : ∃ A' c', v' = .slice A' (n + m) c' := by
      rcases h2.2 with ⟨rfl, e⟩ | ⟨g, cap, cur, rfl, _⟩
      · exact ⟨none, 0, by rw [e]⟩
      · exact ⟨_, _, rfl⟩
    obtain ⟨A', c', rfl⟩ := hv
    exact ⟨A', c', w', hrun, by unfold OwnR; rw [Kd.all_append]; exact h2, (Below.refl B w).grown h3 hB (fun k hk => (h.lt k hk).1)⟩
theorem wp_appRw {T E : TypeId} (pt : KT K T E) {B : Nat} {w : World} {o : Oper} {a : Act} {J : Act → World → Prop} {Q : Exit → Act → World → Prop} (s x : Operand)
    (ho : o.op = .call { callee := .builtin .append, args := #[s, x], argTypes := #[T, T] })
    {A C : Option Addr} {n c m d : Nat} {xs l : List α} (hs : a.eval s = .slice A n c) (hx : a.eval x = .slice C m d) (hB : B ≤ w.heap.size) (h : OwnR K E B w A n c xs) (hl : Rw K w C m d l) (hn : n + m ≤ 1000000)
    (hk : ∀ A' c' w', OwnR K E B w' A' (n + m) c' (xs ++ l) → Below B w w' → J (a.put o.dst (.slice A' (n + m) c')) w') : o.wp Tryd.prog a w J Q := by
  obtain ⟨A', c', w', hrun, h2, h3⟩ := run_appRw pt o.type hB h hl hn
  unfold Oper.wp execOp
  simp only [ho, resolve, invoke, builtin, Sem.run_bind, Sem.run_pure, Result.andThen_ok, List.map_toArray, List.map_cons, List.map_nil, hs, hx, hrun]
  exact hk A' c' w' h2 h3
theorem wpList_appRw {T E : TypeId} (pt : KT K T E) {B : Nat} {w : World} {ops : Array Oper} {rest : List Oper} {o : Oper} {a : Act} {Q : Exit → Act → World → Prop} (hgd : o.guard = none) (s x : Operand)
    (ho : o.op = .call { callee := .builtin .append, args := #[s, x], argTypes := #[T, T] })
    {A C : Option Addr} {n c m d : Nat} {xs l : List α} (hs : a.eval s = .slice A n c) (hx : a.eval x = .slice C m d) (hB : B ≤ w.heap.size) (h : OwnR K E B w A n c xs) (hl : Rw K w C m d l) (hn : n + m ≤ 1000000)
    (hk : ∀ A' c' w', OwnR K E B w' A' (n + m) c' (xs ++ l) → Below B w w' → wpList Tryd.prog ops Q rest (a.put o.dst (.slice A' (n + m) c')) w') : wpList Tryd.prog ops Q (o :: rest) a w :=
  wpList_plain hgd fun _ hK => wp_appRw pt s x ho hs hx hB h hl hn fun A' c' w' h2 h3 => hK _ _ (hk A' c' w' h2 h3)
/-- An append at a step of a region that draws its order. -/
theorem step_appRw {T E : TypeId} (pt : KT K T E) {B : Nat} {w : World} {ops : Array Oper} {o : Oper} {a : Act} {J : Act → World → Prop} {Q : Exit → Act → World → Prop} {E' : Prop} (hgd : o.guard = none) (s x : Operand)
    (ho : o.op = .call { callee := .builtin .append, args := #[s, x], argTypes := #[T, T] })
    {A C : Option Addr} {n c m d : Nat} {xs l : List α} (hs : a.eval s = .slice A n c) (hx : a.eval x = .slice C m d) (hB : B ≤ w.heap.size) (h : OwnR K E B w A n c xs) (hl : Rw K w C m d l) (hn : n + m ≤ 1000000)
    (hk : ∀ A' c' w', OwnR K E B w' A' (n + m) c' (xs ++ l) → Below B w w' → J (a.put o.dst (.slice A' (n + m) c')) w') :
    if Region.wanted o (yielded ops a.tmps) = true then Oper.wp Tryd.prog o a w J Q else E' := by
  have hw : Region.wanted o (yielded ops a.tmps) = true := by simp [Region.wanted, hgd]
  rw [if_pos hw]
  exact wp_appRw pt s x ho hs hx hB h hl hn hk
/-- Block b holds one. -/
def Bk (K : Kd α) (w : World) (b : Nat) (t : TypeId) (e : α) : Prop := w.heap[b]? = some (.cells (K.v e).toArray t (0, 0))
section
variable {w w' : World} {b : Nat} {t : TypeId} {e : α}
theorem Bk.lt (h : Bk K w b t e) : b < w.heap.size := (Array.getElem?_eq_some_iff.1 h).1
theorem Bk.cell (h : Bk K w b t e) (i : Nat) : w.cell? ⟨b, i, none⟩ = (K.v e)[i]? := by unfold Bk at h; simp [World.cell?, h]
theorem Bk.f (h : Bk K w b t e) (j : Nat) : w.frozen? ⟨b, j, none⟩ = false := by unfold Bk at h; simp [World.frozen?, h]
theorem Bk.keep (h : Bk K w b t e) (hb : Below w.heap.size w w') : Bk K w' b t e := (hb.block b h.lt).trans h
theorem Bk.at_ (w : World) (t : TypeId) (e : α) (vs : Array Value) (hv : vs = (K.v e).toArray) (g : Nat) (hg : w.heap.size = g) : Bk K (w.alloc (.cells vs t)) g t e := by
  subst hg hv
  show (w.heap.push _)[w.heap.size]? = _
  rw [Array.getElem?_push, if_pos rfl]
theorem Bk.alloc (h : Bk K w b t e) (o : Obj) : Bk K (w.alloc o) b t e := (Below.heap_alloc w o b h.lt).trans h
theorem Bk.drew (h : Bk K w b t e) : Bk K w.drew b t e := h
theorem Bk.other (h : Bk K w b t e) {p : Addr} (hp : b ≠ p.block) (v : Value) : Bk K (w.setCell p v) b t e := (Below.heap_setCell w p v b hp).trans h
theorem Bk.set (h : Bk K w b t e) (i : Nat) (v : Value) (e2 : α) (he : (K.v e2) = (K.v e).set i v) : Bk K (w.setCell ⟨b, i, none⟩ v) b t e2 := by
  unfold Bk at h ⊢
  simp [World.setCell, Array.getElem?_modify, h, he]
end
end Go.Proofs.YtpkjepbeeebdoaaDoor
