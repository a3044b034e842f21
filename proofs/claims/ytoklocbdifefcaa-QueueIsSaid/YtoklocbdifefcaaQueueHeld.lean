/-
  A queue's items that lie in a world: a slice of items that reads as a list; nil let in. They read so in every world in which of what was there nothing has changed. Rows of the call's own; append onto them. An item in a block; a queue in a block.
-/
import Derived.Test.YtoklocbdifefcaaProg
import Derived.Test.YtoklocbdifefcaaBelowThen
import Derived.Test.YtoklocbdifefcaaQueueMath
import Derived.Test.YtoklocbdifefcaaStkLib
import Derived.Below
import Derived.Laws.OwnMore
import Derived.Laws.AppendOwnNone
import Derived.Maps.AppendAt
import Derived.Deep.AppendLies
import Derived.Deep.OwnRows
import Derived.Deep.Draws
import Derived.WalkKit
import Derived.WalkMore
import Derived.OwnWalk
import Derived.Lib.Hide
import Derived.Lib.AppendZeros
import Derived.Lib.SliceRun
import Derived.Laws.StructEq
namespace Go.Proofs.Ytoklocbdifefcaa
open Go.RowKit

/-- An item as it is handed on; the cells of an item, and of some. -/
def It.val (e : It) : Value := .agg #[.int .i64 e.d, .int .i64 e.p, .int .i64 e.t]
def itV (e : It) : List Value := [.int .i64 e.d, .int .i64 e.p, .int .i64 e.t]
def itsOf (l : List It) : List Value := l.flatMap itV
theorem itsOf_cons (e : It) (l : List It) : itsOf (e :: l) = itV e ++ itsOf l := rfl
theorem itsOf_length (l : List It) : (itsOf l).length = l.length * 3 := by
  induction l with
  | nil => rfl
  | cons p l ih => rw [itsOf_cons, List.length_append, ih, List.length_cons, show (itV p).length = 3 from rfl]; omega
theorem itsOf_append (l m : List It) : itsOf (l ++ m) = itsOf l ++ itsOf m := by simp [itsOf]
theorem itsOf_get (l : List It) (j : Nat) (hj : j < l.length) (i : Nat) (hi : i < 3) : (itsOf l)[j * 3 + i]? = (itV l[j])[i]? := by
  induction l generalizing j with
  | nil => simp at hj
  | cons p l ih =>
    have hp : (itV p).length = 3 := rfl
    cases j with
    | zero => rw [itsOf_cons, List.getElem?_append_left (by rw [hp]; omega)]; simp
    | succ j =>
      rw [itsOf_cons, List.getElem?_append_right (by rw [hp]; omega), hp, show (j + 1) * 3 + i - 3 = j * 3 + i by omega, ih j (by simpa using hj)]
      simp
theorem itsOf_one (l : List It) : ∀ v ∈ itsOf l, v.oneCell' = true := by
  intro v hv
  obtain ⟨p, _, hp⟩ := List.mem_flatMap.1 hv
  simp [itV] at hp
  rcases hp with rfl | rfl | rfl <;> rfl

/-- The slice A, n, c holds the items l. -/
def Its (w : World) (A : Option Addr) (n c : Nat) (l : List It) : Prop :=
  l.length = n ∧ n ≤ c ∧ (0 < n → ∃ b o, A = some ⟨b, o, none⟩ ∧ b < w.heap.size ∧ ∀ j, j < l.length * 3 → w.cell? ⟨b, o + j, none⟩ = (itsOf l)[j]?) ∧ (A = none → c = 0)
section
variable {w w' : World} {A : Option Addr} {n c : Nat} {l l' : List It}
theorem Its.len (h : Its w A n c l) : l.length = n := h.1
theorem Its.le (h : Its w A n c l) : n ≤ c := h.2.1
theorem Its.at0 (h : Its w A n c l) : 0 < n → ∃ b o, A = some ⟨b, o, none⟩ ∧ b < w.heap.size ∧ ∀ j, j < l.length * 3 → w.cell? ⟨b, o + j, none⟩ = (itsOf l)[j]? := h.2.2.1
theorem Its.keep (h : Its w A n c l) (hs : w.heap.size ≤ w'.heap.size) (hk : ∀ b o, b < w.heap.size → w'.cell? ⟨b, o, none⟩ = w.cell? ⟨b, o, none⟩) : Its w' A n c l :=
  ⟨h.1, h.2.1, fun hn => by
    obtain ⟨b, o, e, hb, hc⟩ := h.at0 hn
    exact ⟨b, o, e, Nat.lt_of_lt_of_le hb hs, fun j hj => (hk b _ hb).trans (hc j hj)⟩, h.2.2.2⟩
theorem Its.below (h : Its w A n c l) (hb : Below w.heap.size w w') : Its w' A n c l :=
  h.keep hb.size fun b o hlt => hb.cell (p := ⟨b, o, none⟩) hlt
theorem Its.alloc (h : Its w A n c l) (o : Obj) : Its (w.alloc o) A n c l := h.below ((Below.refl _ _).alloc (Nat.le_refl _) o)
theorem Its.drewN (h : Its w A n c l) (k : Nat) : Its (w.drewN k) A n c l := h
theorem Its.drew (h : Its w A n c l) : Its w.drew A n c l := h
theorem Its.as (h : Its w A n c l) (e : l = l') : Its w A n c l' := e ▸ h
theorem Its.nil : Its w none 0 0 [] := ⟨rfl, Nat.zero_le _, fun h => absurd h (by omega), fun _ => rfl⟩
/-- A place of it. -/
theorem Its.at_ (h : Its w A n c l) (q : Nat) (hq : q < n) : ∃ b o, A = some ⟨b, o, none⟩ ∧ b < w.heap.size ∧ w.cell? ⟨b, o + q * 3, none⟩ = some (.int .i64 (l.getD q i0).d) ∧ w.cell? ⟨b, o + q * 3 + 1, none⟩ = some (.int .i64 (l.getD q i0).p) ∧
    w.cell? ⟨b, o + q * 3 + 2, none⟩ = some (.int .i64 (l.getD q i0).t) := by
  obtain ⟨b, o, rfl, hb, hc⟩ := h.at0 (by omega)
  have hl : q < l.length := by rw [h.1]; exact hq
  have e : l.getD q i0 = l[q] := by simp [List.getD, hl]
  rw [e]
  have g := fun i (hi : i < 3) => (hc (q * 3 + i) (by omega)).trans (itsOf_get l q hl i hi)
  refine ⟨b, o, rfl, hb, ?_, ?_, ?_⟩
  · exact g 0 (by omega)
  · exact g 1 (by omega)
  · exact g 2 (by omega)
theorem Its.src {a : Addr} (h : Its w (some a) n c l) : ∀ j u, (itsOf l)[j]? = some u → w.cell? (a.add j) = some u := by
  intro j u hu
  have hj : j < l.length * 3 := by
    rcases Nat.lt_or_ge j (itsOf l).length with h1 | h1
    · rw [itsOf_length] at h1; exact h1
    · rw [List.getElem?_eq_none h1] at hu; cases hu
  obtain ⟨b, o, e, _, hc⟩ := h.at0 (by have := h.1; omega)
  cases e
  rw [Addr.add_lit]
  exact (hc j hj).trans hu
theorem Its.none_ (h : Its w none n c l) : n = 0 ∧ c = 0 ∧ l = [] := by
  have h0 : n = 0 := by
    rcases Nat.eq_zero_or_pos n with h0 | h0
    · exact h0
    · obtain ⟨b, o, e, _⟩ := h.at0 h0; cases e
  subst h0
  exact ⟨rfl, h.2.2.2 rfl, List.eq_nil_of_length_eq_zero h.1⟩
theorem Its.of_own {base : Nat} {e : TypeId} (h : w.ownsRow base e 3 (.slice A n c) n (itsOf l)) : Its w A n c l := by
  have hl : l.length = n := by have := h.1; rw [itsOf_length] at this; omega
  refine ⟨hl, ?_, fun hn => ?_, fun ha => ?_⟩
  rotate_right
  · rcases h.2 with ⟨e1, _⟩ | ⟨g, cap, cur, hv, _⟩
    · injection e1
    · injection hv with h1 _ _; rw [ha] at h1; cases h1
  · rcases h.2 with ⟨e1, e2⟩ | ⟨g, cap, cur, hv, _, _, hnc, _⟩
    · omega
    · injection hv with _ _ h3; omega
  · obtain ⟨g, cap, hv, _, hlt⟩ := h.form hn
    injection hv with h1 _ _
    subst h1
    refine ⟨g, 0, rfl, hlt, fun j hj => ?_⟩
    have hx : (itsOf l)[j]? = some ((itsOf l)[j]'(by rw [itsOf_length]; exact hj)) := List.getElem?_eq_getElem _
    have c0 := h.cells (g := g) rfl j _ hx
    rw [Addr.add_lit] at c0
    rw [c0, hx]
end
/-- T is a type of slices of items, E that of items. -/
structure ET (T E : TypeId) : Prop where
  under : Try.prog.underlying T = some (.slice E)
  info : (Try.prog.info? E).map (fun i => (i.zero, i.size, i.bytes)) = some (some (.agg #[.int .i64 0, .int .i64 0, .int .i64 0]), 3, 24)
  elem : Try.prog.elem T = E
theorem etQ : ET 26 59 := ⟨Try.underlying26, by kernel_rfl, by kernel_rfl⟩
theorem etR : ET 22 52 := ⟨Try.underlying22, by kernel_rfl, by kernel_rfl⟩
theorem ET.sizeP {T E : TypeId} (h : ET T E) (w : World) : (Go.sizeOf E).run Try.prog w = .ok 3 w := by
  obtain ⟨i, hi, hz, hs, hb⟩ := info_parts h.info
  simp [Go.sizeOf, typeInfo, hi, hs]
theorem ET.underE {T E : TypeId} (h : ET T E) : Try.prog.underlying T = some (.slice (Try.prog.elem T)) := by rw [h.elem]; exact h.under
/-- What stands ahead of a place. -/
theorem Its.head {T E : TypeId} (pt : ET T E) {w : World} {A : Option Addr} {n c : Nat} {l : List It} (h : Its w A n c l) (k : Nat) (hk : k ≤ n) :
    (∀ W : World, (Instr.slice T (.slice A n c) none (some (.int .i64 (k : Int))) none).run Try.prog W = .ok (.slice A k c) W) ∧ Its w A k c (l.take k) := by
  obtain ⟨rfl, hc, hp, hz⟩ := h
  refine ⟨fun W => ?_, by simp; omega, by omega, fun h0 => ?_, hz⟩
  · rw [run_slice_h (P := Try.prog) W T A l.length c pt.underE .i64 (k : Int) (by omega) (by omega), pt.elem, pt.sizeP]
    show Result.ok (sliced A 0 (k : Int).toNat c 3) W = _
    unfold sliced
    simp
    intro _
    cases A <;> simp [Addr.add]
  · obtain ⟨b, o, rfl, hb, hcell⟩ := hp (by omega)
    refine ⟨b, o, rfl, hb, fun j hj => ?_⟩
    simp at hj
    have := hcell j (by omega)
    rw [this]
    have hjk : j / 3 < k := by omega
    have e1 := itsOf_get l (j / 3) (by omega) (j % 3) (by omega)
    have e2 := itsOf_get (l.take k) (j / 3) (by simp; omega) (j % 3) (by omega)
    rw [show j / 3 * 3 + j % 3 = j by omega] at e1 e2
    rw [e1, e2]
    simp

/-- What stands from a place on. -/
theorem Its.tail {T E : TypeId} (pt : ET T E) {w : World} {A : Option Addr} {n c : Nat} {l : List It} (h : Its w A n c l) (k : Nat) (hk : k ≤ n) :
    ∃ A' c', (∀ W : World, (Instr.slice T (.slice A n c) (some (.int .i64 (k : Int))) none none).run Try.prog W = .ok (.slice A' (n - k) c') W) ∧ Its w A' (n - k) c' (l.drop k) := by
  obtain ⟨rfl, hc, hp, hz⟩ := h
  refine ⟨if c = k then A else A.map (·.add (k * 3)), c - k, fun W => ?_, by simp, by omega, fun h0 => ?_, fun ha => ?_⟩
  · rw [run_slice_l (P := Try.prog) W T A l.length c pt.underE .i64 (k : Int) (by omega) (by omega), pt.elem, pt.sizeP]
    show Result.ok (sliced A (k : Int).toNat l.length c 3) W = _
    unfold sliced
    simp
  · obtain ⟨b, o, rfl, hb, hcell⟩ := hp (by omega)
    rw [if_neg (by omega)]
    refine ⟨b, o + k * 3, by simp [Addr.add_lit], hb, fun j hj => ?_⟩
    simp only [List.length_drop] at hj
    have := hcell (k * 3 + j) (by omega)
    rw [Nat.add_assoc, this]
    have e1 := itsOf_get l (k + j / 3) (by omega) (j % 3) (by omega)
    have e2 := itsOf_get (l.drop k) (j / 3) (by simp; omega) (j % 3) (by omega)
    rw [show (k + j / 3) * 3 + j % 3 = k * 3 + j by omega] at e1
    rw [show j / 3 * 3 + j % 3 = j by omega] at e2
    rw [e1, e2]
    simp
  · have : A = none := by
      split at ha
      · exact ha
      · simpa using ha
    have := hz this
    omega
/-- A row of items that a call has made, whose world was W; of what was there in W nothing has changed. -/
def OwnI (E : TypeId) (W w : World) (A : Option Addr) (n c : Nat) (l : List It) : Prop := w.ownsRow W.heap.size E 3 (.slice A n c) n (itsOf l) ∧ Below W.heap.size W w
section
variable {T E : TypeId} {W w : World} {A : Option Addr} {n c : Nat} {l : List It}
theorem OwnI.its (h : OwnI E W w A n c l) : Its w A n c l := Its.of_own h.1
theorem OwnI.below (h : OwnI E W w A n c l) : Below W.heap.size W w := h.2
theorem OwnI.nil (E : TypeId) (W : World) : OwnI E W W none 0 0 [] := ⟨⟨by simp [itsOf], .inl ⟨rfl, rfl⟩⟩, Below.refl _ _⟩
theorem OwnI.as {l' : List It} (h : OwnI E W w A n c l) (e : l = l') : OwnI E W w A n c l' := e ▸ h
theorem OwnI.made (E : TypeId) (W : World) : OwnI E W (W.alloc (.cells #[] E)) (some ⟨W.heap.size, 0, none⟩) 0 0 [] :=
  ⟨World.ownsRow_made W #[] 0 (Nat.le_refl _) (Nat.zero_le _) rfl, (Below.refl _ _).alloc (Nat.le_refl _) _⟩
theorem OwnI.grow {W2 : World} (h : OwnI E W w A n c l) (hb : Below w.heap.size w W2) : OwnI E W W2 A n c l := by
  refine ⟨⟨h.1.1, ?_⟩, below_then h.2 hb⟩
  rcases h.1.2 with h0 | ⟨g, cap, cur, h1, h2, h3, h4⟩
  · exact .inl h0
  · exact .inr ⟨g, cap, cur, h1, h2, (hb.block g (Array.getElem?_eq_some_iff.1 h3).1).trans h3, h4⟩
end
theorem run_appI {T E : TypeId} (pt : ET T E) {W w : World} {A B : Option Addr} {n c m d : Nat} {xs l : List It} (ty : TypeId) (h : OwnI E W w A n c xs) (hs : Its w B m d l) (hn : n + m ≤ 1000000) :
    ∃ A' c' w', (Builtin.append_ #[T, T] ty #[.slice A n c, .slice B m d]).run Try.prog w = .ok (.slice A' (n + m) c') w' ∧ OwnI E W w' A' (n + m) c' (xs ++ l) := by
  obtain ⟨i, hi, hz0, hz1, hz2⟩ := info_parts pt.info
  have hbase : W.heap.size ≤ w.heap.size := h.2.size
  cases B with
  | none =>
    obtain ⟨rfl, rfl, rfl⟩ := hs.none_
    refine ⟨A, c, w, run_append_owned_none (P := Try.prog) (w := w) W.heap.size T ty E i 3 pt.under hi _ n (itsOf xs) h.1, ?_⟩
    rw [List.append_nil, Nat.add_zero]
    exact h
  | some a =>
    obtain ⟨v', w', hrun, h2, h3, _, _⟩ := run_append_own_at (P := Try.prog) w W.heap.size T ty E i (.agg #[.int .i64 0, .int .i64 0, .int .i64 0]) 3 24 pt.under hi hz0 hz1 hz2 rfl (by decide) _ n (itsOf xs) h.1 a m d (itsOf l)
      (by rw [itsOf_length, hs.1]) hs.src (itsOf_one l) (by unfold maxLen; omega) (by omega) hbase
    have hv : ∃ A' c', v' = .slice A' (n + m) c' := by
      rcases h2.2 with ⟨rfl, e⟩ | ⟨g, cap, cur, rfl, _⟩
      · exact ⟨none, 0, by rw [e]⟩
      · exact ⟨_, _, rfl⟩
    obtain ⟨A', c', rfl⟩ := hv
    exact ⟨A', c', w', hrun, ⟨by rw [itsOf_append]; exact h2, h.2.grown h3 hbase (fun k hk => (h.1.lt k hk).1)⟩⟩
theorem wp_appI {T E : TypeId} (pt : ET T E) {W w : World} {o : Oper} {a : Act} {K : Act → World → Prop} {Q : Exit → Act → World → Prop} (s x : Operand)
    (ho : o.op = .call { callee := .builtin .append, args := #[s, x], argTypes := #[T, T] })
    {A B : Option Addr} {n c m d : Nat} {xs l : List It} (hs : a.eval s = .slice A n c) (hx : a.eval x = .slice B m d) (h : OwnI E W w A n c xs) (hl : Its w B m d l) (hn : n + m ≤ 1000000)
    (hk : ∀ A' c' w', OwnI E W w' A' (n + m) c' (xs ++ l) → K (a.put o.dst (.slice A' (n + m) c')) w') : o.wp Try.prog a w K Q := by
  obtain ⟨A', c', w', hrun, h2⟩ := run_appI pt o.type h hl hn
  unfold Oper.wp execOp
  simp only [ho, resolve, invoke, builtin, Sem.run_bind, Sem.run_pure, Result.andThen_ok, List.map_toArray, List.map_cons, List.map_nil, hs, hx, hrun]
  exact hk A' c' w' h2
theorem wpList_appI {T E : TypeId} (pt : ET T E) {W w : World} {ops : Array Oper} {rest : List Oper} {o : Oper} {a : Act} {Q : Exit → Act → World → Prop} (hgd : o.guard = none) (s x : Operand)
    (ho : o.op = .call { callee := .builtin .append, args := #[s, x], argTypes := #[T, T] })
    {A B : Option Addr} {n c m d : Nat} {xs l : List It} (hs : a.eval s = .slice A n c) (hx : a.eval x = .slice B m d) (h : OwnI E W w A n c xs) (hl : Its w B m d l) (hn : n + m ≤ 1000000)
    (hk : ∀ A' c' w', OwnI E W w' A' (n + m) c' (xs ++ l) → wpList Try.prog ops Q rest (a.put o.dst (.slice A' (n + m) c')) w') : wpList Try.prog ops Q (o :: rest) a w :=
  wpList_plain hgd fun _ hK => wp_appI pt s x ho hs hx h hl hn fun A' c' w' h2 => hK _ _ (hk A' c' w' h2)
/-- A new row of one item. -/
theorem Its.new1 (w : World) (E : TypeId) (e : It) : Its (w.alloc (.cells #[.int .i64 e.d, .int .i64 e.p, .int .i64 e.t] E)) (some ⟨w.heap.size, 0, none⟩) 1 1 [e] := by
  refine ⟨rfl, Nat.le_refl _, fun _ => ⟨_, 0, rfl, by simp, fun j hj => ?_⟩, fun h => by cases h⟩
  rw [Nat.zero_add, cell_of_row _ _ j _ E (0, 0) (heap_alloc_new w _)]
  match j, hj with
  | 0, _ => rfl
  | 1, _ => rfl
  | 2, _ => rfl
/-- Block b holds an item. -/
def Iv (w : World) (b : Nat) (t : TypeId) (e : It) : Prop := w.heap[b]? = some (.cells #[.int .i64 e.d, .int .i64 e.p, .int .i64 e.t] t (0, 0))
section
variable {w w' : World} {b : Nat} {t : TypeId} {e : It}
theorem Iv.lt (h : Iv w b t e) : b < w.heap.size := (Array.getElem?_eq_some_iff.1 h).1
theorem Iv.c0 (h : Iv w b t e) : w.cell? ⟨b, 0, none⟩ = some (.int .i64 e.d) := by unfold Iv at h; simp [World.cell?, h]
theorem Iv.c1 (h : Iv w b t e) : w.cell? ⟨b, 1, none⟩ = some (.int .i64 e.p) := by unfold Iv at h; simp [World.cell?, h]
theorem Iv.c2 (h : Iv w b t e) : w.cell? ⟨b, 2, none⟩ = some (.int .i64 e.t) := by unfold Iv at h; simp [World.cell?, h]
theorem Iv.f (h : Iv w b t e) (j : Nat) : w.frozen? ⟨b, j, none⟩ = false := by unfold Iv at h; simp [World.frozen?, h]
theorem Iv.keep (h : Iv w b t e) (hb : Below w.heap.size w w') : Iv w' b t e := (hb.block b h.lt).trans h
theorem Iv.new (w : World) (t : TypeId) (e : It) : Iv (w.alloc (.cells #[.int .i64 e.d, .int .i64 e.p, .int .i64 e.t] t)) w.heap.size t e := by
  show (w.heap.push _)[w.heap.size]? = _
  rw [Array.getElem?_push, if_pos rfl]
theorem Iv.at_ (w : World) (t : TypeId) (e : It) (g : Nat) (hg : w.heap.size = g) : Iv (w.alloc (.cells #[.int .i64 e.d, .int .i64 e.p, .int .i64 e.t] t)) g t e := by
  subst hg; exact Iv.new w t e
theorem Iv.alloc (h : Iv w b t e) (o : Obj) : Iv (w.alloc o) b t e := (Below.heap_alloc w o b h.lt).trans h
theorem Iv.drew (h : Iv w b t e) : Iv w.drew b t e := h
theorem Iv.other (h : Iv w b t e) {p : Addr} (hp : b ≠ p.block) (v : Value) : Iv (w.setCell p v) b t e := (Below.heap_setCell w p v b hp).trans h
end
/-- Block b holds a queue. -/
def Qv (w : World) (b : Nat) (t : TypeId) (N : Int) (A : Option Addr) (n c : Nat) : Prop := w.heap[b]? = some (.cells #[.int .i64 N, .slice A n c] t (0, 0))
section
variable {w w' : World} {b : Nat} {t : TypeId} {N : Int} {A : Option Addr} {n c : Nat}
theorem Qv.lt (h : Qv w b t N A n c) : b < w.heap.size := (Array.getElem?_eq_some_iff.1 h).1
theorem Qv.c0 (h : Qv w b t N A n c) : w.cell? ⟨b, 0, none⟩ = some (.int .i64 N) := by unfold Qv at h; simp [World.cell?, h]
theorem Qv.c1 (h : Qv w b t N A n c) : w.cell? ⟨b, 1, none⟩ = some (.slice A n c) := by unfold Qv at h; simp [World.cell?, h]
theorem Qv.f (h : Qv w b t N A n c) (j : Nat) : w.frozen? ⟨b, j, none⟩ = false := by unfold Qv at h; simp [World.frozen?, h]
theorem Qv.keep (h : Qv w b t N A n c) (hb : Below w.heap.size w w') : Qv w' b t N A n c := (hb.block b h.lt).trans h
theorem Qv.new (w : World) (t : TypeId) (N : Int) (A : Option Addr) (n c : Nat) : Qv (w.alloc (.cells #[.int .i64 N, .slice A n c] t)) w.heap.size t N A n c := by
  show (w.heap.push _)[w.heap.size]? = _
  rw [Array.getElem?_push, if_pos rfl]
theorem Qv.at_ (w : World) (t : TypeId) (N : Int) (A : Option Addr) (n c : Nat) (g : Nat) (hg : w.heap.size = g) : Qv (w.alloc (.cells #[.int .i64 N, .slice A n c] t)) g t N A n c := by
  subst hg; exact Qv.new w t N A n c
theorem Qv.alloc (h : Qv w b t N A n c) (o : Obj) : Qv (w.alloc o) b t N A n c := (Below.heap_alloc w o b h.lt).trans h
theorem Qv.drew (h : Qv w b t N A n c) : Qv w.drew b t N A n c := h
theorem Qv.other (h : Qv w b t N A n c) {p : Addr} (hp : b ≠ p.block) (v : Value) : Qv (w.setCell p v) b t N A n c := (Below.heap_setCell w p v b hp).trans h
theorem Qv.set (h : Qv w b t N A n c) (N' : Int) (A' : Option Addr) (n' c' : Nat) : Qv ((w.setCell ⟨b, 0, none⟩ (.int .i64 N')).setCell ⟨b, 1, none⟩ (.slice A' n' c')) b t N' A' n' c' := by
  unfold Qv at h ⊢
  simp [World.setCell, Array.getElem?_modify, h]
end
end Go.Proofs.Ytoklocbdifefcaa
