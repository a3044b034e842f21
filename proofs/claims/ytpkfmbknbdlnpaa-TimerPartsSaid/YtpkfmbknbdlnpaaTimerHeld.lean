/-
  Naps that lie in a world: a slice of naps that reads as a list; nil let in. They read so in every world in which of what was there nothing has changed. Rows of the call's own; append onto them. A nap in a block.
-/
import Derived.Test.YtpkfmbknbdlnpaaProg
import Derived.Test.YtpkfmbknbdlnpaaBelowThen
import Derived.Test.YtpkfmbknbdlnpaaTimerMath
import Derived.Test.YtpkfmbknbdlnpaaStkLib
import Derived.Below
import Derived.Laws.OwnMore
import Derived.Laws.AppendOwnNone
import Derived.Maps.AppendAt
import Derived.Deep.AppendLies
import Derived.Deep.OwnRows
import Derived.Deep.Draws
import Derived.WalkKit
import Derived.WalkMore
import Derived.OwnWalk
import Derived.Lib.Hide
import Derived.Lib.AppendZeros
import Derived.Lib.SliceRun
import Derived.Laws.StructEq
namespace Go.Proofs.Ytpkfmbknbdlnpaa
open Go.RowKit

/-- An item as it is handed on; the cells of an item, and of some. -/
def Np.val (e : Np) : Value := .agg #[.int .i64 e.d, .int .i64 e.t]
def npV (e : Np) : List Value := [.int .i64 e.d, .int .i64 e.t]
def npsOf (l : List Np) : List Value := l.flatMap npV
theorem npsOf_cons (e : Np) (l : List Np) : npsOf (e :: l) = npV e ++ npsOf l := rfl
theorem npsOf_length (l : List Np) : (npsOf l).length = l.length * 2 := by
  induction l with
  | nil => rfl
  | cons p l ih => rw [npsOf_cons, List.length_append, ih, List.length_cons, show (npV p).length = 2 from rfl]; omega
theorem npsOf_append (l m : List Np) : npsOf (l ++ m) = npsOf l ++ npsOf m := by simp [npsOf]
theorem npsOf_get (l : List Np) (j : Nat) (hj : j < l.length) (i : Nat) (hi : i < 2) : (npsOf l)[j * 2 + i]? = (npV l[j])[i]? := by
  induction l generalizing j with
  | nil => simp at hj
  | cons p l ih =>
    have hp : (npV p).length = 2 := rfl
    cases j with
    | zero => rw [npsOf_cons, List.getElem?_append_left (by rw [hp]; omega)]; simp
    | succ j =>
      rw [npsOf_cons, List.getElem?_append_right (by rw [hp]; omega), hp, show (j + 1) * 2 + i - 2 = j * 2 + i by omega, ih j (by simpa using hj)]
      simp
theorem npsOf_one (l : List Np) : ∀ v ∈ npsOf l, v.oneCell' = true := by
  intro v hv
  obtain ⟨p, _, hp⟩ := List.mem_flatMap.1 hv
  simp [npV] at hp
  rcases hp with rfl | rfl <;> rfl

/-- The slice A, n, c holds the items l. -/
def Nps (w : World) (A : Option Addr) (n c : Nat) (l : List Np) : Prop :=
  l.length = n ∧ n ≤ c ∧ (0 < n → ∃ b o, A = some ⟨b, o, none⟩ ∧ b < w.heap.size ∧ ∀ j, j < l.length * 2 → w.cell? ⟨b, o + j, none⟩ = (npsOf l)[j]?) ∧ (A = none → c = 0)
section
variable {w w' : World} {A : Option Addr} {n c : Nat} {l l' : List Np}
theorem Nps.len (h : Nps w A n c l) : l.length = n := h.1
theorem Nps.le (h : Nps w A n c l) : n ≤ c := h.2.1
theorem Nps.at0 (h : Nps w A n c l) : 0 < n → ∃ b o, A = some ⟨b, o, none⟩ ∧ b < w.heap.size ∧ ∀ j, j < l.length * 2 → w.cell? ⟨b, o + j, none⟩ = (npsOf l)[j]? := h.2.2.1
theorem Nps.keep (h : Nps w A n c l) (hs : w.heap.size ≤ w'.heap.size) (hk : ∀ b o, b < w.heap.size → w'.cell? ⟨b, o, none⟩ = w.cell? ⟨b, o, none⟩) : Nps w' A n c l :=
  ⟨h.1, h.2.1, fun hn => by
    obtain ⟨b, o, e, hb, hc⟩ := h.at0 hn
    exact ⟨b, o, e, Nat.lt_of_lt_of_le hb hs, fun j hj => (hk b _ hb).trans (hc j hj)⟩, h.2.2.2⟩
theorem Nps.below (h : Nps w A n c l) (hb : Below w.heap.size w w') : Nps w' A n c l :=
  h.keep hb.size fun b o hlt => hb.cell (p := ⟨b, o, none⟩) hlt
theorem Nps.alloc (h : Nps w A n c l) (o : Obj) : Nps (w.alloc o) A n c l := h.below ((Below.refl _ _).alloc (Nat.le_refl _) o)
theorem Nps.drewN (h : Nps w A n c l) (k : Nat) : Nps (w.drewN k) A n c l := h
theorem Nps.drew (h : Nps w A n c l) : Nps w.drew A n c l := h
theorem Nps.as (h : Nps w A n c l) (e : l = l') : Nps w A n c l' := e ▸ h
theorem Nps.nil : Nps w none 0 0 [] := ⟨rfl, Nat.zero_le _, fun h => absurd h (by omega), fun _ => rfl⟩
/-- A place of it. -/
theorem Nps.at_ (h : Nps w A n c l) (q : Nat) (hq : q < n) : ∃ b o, A = some ⟨b, o, none⟩ ∧ b < w.heap.size ∧ w.cell? ⟨b, o + q * 2, none⟩ = some (.int .i64 (l.getD q nz).d) ∧ w.cell? ⟨b, o + q * 2 + 1, none⟩ = some (.int .i64 (l.getD q nz).t) := by
  obtain ⟨b, o, rfl, hb, hc⟩ := h.at0 (by omega)
  have hl : q < l.length := by rw [h.1]; exact hq
  have e : l.getD q nz = l[q] := by simp [List.getD, hl]
  rw [e]
  have g := fun i (hi : i < 2) => (hc (q * 2 + i) (by omega)).trans (npsOf_get l q hl i hi)
  exact ⟨b, o, rfl, hb, g 0 (by omega), g 1 (by omega)⟩
theorem Nps.src {a : Addr} (h : Nps w (some a) n c l) : ∀ j u, (npsOf l)[j]? = some u → w.cell? (a.add j) = some u := by
  intro j u hu
  have hj : j < l.length * 2 := by
    rcases Nat.lt_or_ge j (npsOf l).length with h1 | h1
    · rw [npsOf_length] at h1; exact h1
    · rw [List.getElem?_eq_none h1] at hu; cases hu
  obtain ⟨b, o, e, _, hc⟩ := h.at0 (by have := h.1; omega)
  cases e
  rw [Addr.add_lit]
  exact (hc j hj).trans hu
theorem Nps.none_ (h : Nps w none n c l) : n = 0 ∧ c = 0 ∧ l = [] := by
  have h0 : n = 0 := by
    rcases Nat.eq_zero_or_pos n with h0 | h0
    · exact h0
    · obtain ⟨b, o, e, _⟩ := h.at0 h0; cases e
  subst h0
  exact ⟨rfl, h.2.2.2 rfl, List.eq_nil_of_length_eq_zero h.1⟩
theorem Nps.of_own {base : Nat} {e : TypeId} (h : w.ownsRow base e 2 (.slice A n c) n (npsOf l)) : Nps w A n c l := by
  have hl : l.length = n := by have := h.1; rw [npsOf_length] at this; omega
  refine ⟨hl, ?_, fun hn => ?_, fun ha => ?_⟩
  rotate_right
  · rcases h.2 with ⟨e1, _⟩ | ⟨g, cap, cur, hv, _⟩
    · injection e1
    · injection hv with h1 _ _; rw [ha] at h1; cases h1
  · rcases h.2 with ⟨e1, e2⟩ | ⟨g, cap, cur, hv, _, _, hnc, _⟩
    · omega
    · injection hv with _ _ h3; omega
  · obtain ⟨g, cap, hv, _, hlt⟩ := h.form hn
    injection hv with h1 _ _
    subst h1
    refine ⟨g, 0, rfl, hlt, fun j hj => ?_⟩
    have hx : (npsOf l)[j]? = some ((npsOf l)[j]'(by rw [npsOf_length]; exact hj)) := List.getElem?_eq_getElem _
    have c0 := h.cells (g := g) rfl j _ hx
    rw [Addr.add_lit] at c0
    rw [c0, hx]
end
/-- T is a type of slices of items, E that of items. -/
structure NT (T E : TypeId) : Prop where
  under : Try.prog.underlying T = some (.slice E)
  info : (Try.prog.info? E).map (fun i => (i.zero, i.size, i.bytes)) = some (some (.agg #[.int .i64 0, .int .i64 0]), 2, 16)
  elem : Try.prog.elem T = E
theorem ntT : NT 24 49 := ⟨Try.underlying24, by kernel_rfl, by kernel_rfl⟩
theorem ntR : NT 22 57 := ⟨Try.underlying22, by kernel_rfl, by kernel_rfl⟩
theorem NT.sizeP {T E : TypeId} (h : NT T E) (w : World) : (Go.sizeOf E).run Try.prog w = .ok 2 w := by
  obtain ⟨i, hi, hz, hs, hb⟩ := info_parts h.info
  simp [Go.sizeOf, typeInfo, hi, hs]
theorem NT.underE {T E : TypeId} (h : NT T E) : Try.prog.underlying T = some (.slice (Try.prog.elem T)) := by rw [h.elem]; exact h.under
/-- What stands ahead of a place. -/
theorem Nps.head {T E : TypeId} (pt : NT T E) {w : World} {A : Option Addr} {n c : Nat} {l : List Np} (h : Nps w A n c l) (k : Nat) (hk : k ≤ n) :
    (∀ W : World, (Instr.slice T (.slice A n c) none (some (.int .i64 (k : Int))) none).run Try.prog W = .ok (.slice A k c) W) ∧ Nps w A k c (l.take k) := by
  obtain ⟨rfl, hc, hp, hz⟩ := h
  refine ⟨fun W => ?_, by simp; omega, by omega, fun h0 => ?_, hz⟩
  · rw [run_slice_h (P := Try.prog) W T A l.length c pt.underE .i64 (k : Int) (by omega) (by omega), pt.elem, pt.sizeP]
    show Result.ok (sliced A 0 (k : Int).toNat c 2) W = _
    unfold sliced
    simp
    intro _
    cases A <;> simp [Addr.add]
  · obtain ⟨b, o, rfl, hb, hcell⟩ := hp (by omega)
    refine ⟨b, o, rfl, hb, fun j hj => ?_⟩
    simp at hj
    have := hcell j (by omega)
    rw [this]
    have hjk : j / 2 < k := by omega
    have e1 := npsOf_get l (j / 2) (by omega) (j % 2) (by omega)
    have e2 := npsOf_get (l.take k) (j / 2) (by simp; omega) (j % 2) (by omega)
    rw [show j / 2 * 2 + j % 2 = j by omega] at e1 e2
    rw [e1, e2]
    simp

/-- What stands from a place on. -/
theorem Nps.tail {T E : TypeId} (pt : NT T E) {w : World} {A : Option Addr} {n c : Nat} {l : List Np} (h : Nps w A n c l) (k : Nat) (hk : k ≤ n) :
    ∃ A' c', (∀ W : World, (Instr.slice T (.slice A n c) (some (.int .i64 (k : Int))) none none).run Try.prog W = .ok (.slice A' (n - k) c') W) ∧ Nps w A' (n - k) c' (l.drop k) := by
  obtain ⟨rfl, hc, hp, hz⟩ := h
  refine ⟨if c = k then A else A.map (·.add (k * 2)), c - k, fun W => ?_, by simp, by omega, fun h0 => ?_, fun ha => ?_⟩
  · rw [run_slice_l (P := Try.prog) W T A l.length c pt.underE .i64 (k : Int) (by omega) (by omega), pt.elem, pt.sizeP]
    show Result.ok (sliced A (k : Int).toNat l.length c 2) W = _
    unfold sliced
    simp
  · obtain ⟨b, o, rfl, hb, hcell⟩ := hp (by omega)
    rw [if_neg (by omega)]
    refine ⟨b, o + k * 2, by simp [Addr.add_lit], hb, fun j hj => ?_⟩
    simp only [List.length_drop] at hj
    have := hcell (k * 2 + j) (by omega)
    rw [Nat.add_assoc, this]
    have e1 := npsOf_get l (k + j / 2) (by omega) (j % 2) (by omega)
    have e2 := npsOf_get (l.drop k) (j / 2) (by simp; omega) (j % 2) (by omega)
    rw [show (k + j / 2) * 2 + j % 2 = k * 2 + j by omega] at e1
    rw [show j / 2 * 2 + j % 2 = j by omega] at e2
    rw [e1, e2]
    simp
  · have : A = none := by
      split at ha
      · exact ha
      · simpa using ha
    have := hz this
    omega
/-- A row of items that a call has made, whose world was W; of what was there in W nothing has changed. -/
def OwnN (E : TypeId) (W w : World) (A : Option Addr) (n c : Nat) (l : List Np) : Prop := w.ownsRow W.heap.size E 2 (.slice A n c) n (npsOf l) ∧ Below W.heap.size W w
section
variable {T E : TypeId} {W w : World} {A : Option Addr} {n c : Nat} {l : List Np}
theorem OwnN.nps (h : OwnN E W w A n c l) : Nps w A n c l := Nps.of_own h.1
theorem OwnN.below (h : OwnN E W w A n c l) : Below W.heap.size W w := h.2
theorem OwnN.nil (E : TypeId) (W : World) : OwnN E W W none 0 0 [] := ⟨⟨by simp [npsOf], .inl ⟨rfl, rfl⟩⟩, Below.refl _ _⟩
theorem OwnN.as {l' : List Np} (h : OwnN E W w A n c l) (e : l = l') : OwnN E W w A n c l' := e ▸ h
theorem OwnN.made (E : TypeId) (W : World) : OwnN E W (W.alloc (.cells #[] E)) (some ⟨W.heap.size, 0, none⟩) 0 0 [] :=
  ⟨World.ownsRow_made W #[] 0 (Nat.le_refl _) (Nat.zero_le _) rfl, (Below.refl _ _).alloc (Nat.le_refl _) _⟩
theorem OwnN.grow {W2 : World} (h : OwnN E W w A n c l) (hb : Below w.heap.size w W2) : OwnN E W W2 A n c l := by
  refine ⟨⟨h.1.1, ?_⟩, below_then h.2 hb⟩
  rcases h.1.2 with h0 | ⟨g, cap, cur, h1, h2, h3, h4⟩
  · exact .inl h0
  · exact .inr ⟨g, cap, cur, h1, h2, (hb.block g (Array.getElem?_eq_some_iff.1 h3).1).trans h3, h4⟩
end
theorem run_appN {T E : TypeId} (pt : NT T E) {W w : World} {A B : Option Addr} {n c m d : Nat} {xs l : List Np} (ty : TypeId) (h : OwnN E W w A n c xs) (hs : Nps w B m d l) (hn : n + m ≤ 1000000) :
    ∃ A' c' w', (Builtin.append_ #[T, T] ty #[.slice A n c, .slice B m d]).run Try.prog w = .ok (.slice A' (n + m) c') w' ∧ OwnN E W w' A' (n + m) c' (xs ++ l) := by
  obtain ⟨i, hi, hz0, hz1, hz2⟩ := info_parts pt.info
  have hbase : W.heap.size ≤ w.heap.size := h.2.size
  cases B with
  | none =>
    obtain ⟨rfl, rfl, rfl⟩ := hs.none_
    refine ⟨A, c, w, run_append_owned_none (P := Try.prog) (w := w) W.heap.size T ty E i 2 pt.under hi _ n (npsOf xs) h.1, ?_⟩
    rw [List.append_nil, Nat.add_zero]
    exact h
  | some a =>
    obtain ⟨v', w', hrun, h2, h3, _, _⟩ := run_append_own_at (P := Try.prog) w W.heap.size T ty E i (.agg #[.int .i64 0, .int .i64 0]) 2 16 pt.under hi hz0 hz1 hz2 rfl (by decide) _ n (npsOf xs) h.1 a m d (npsOf l)
      (by rw [npsOf_length, hs.1]) hs.src (npsOf_one l) (by unfold maxLen; omega) (by omega) hbase
    have hv : ∃ A' c', v' = .slice A' (n + m) c' := by
      rcases h2.2 with ⟨rfl, e⟩ | ⟨g, cap, cur, rfl, _⟩
      · exact ⟨none, 0, by rw [e]⟩
      · exact ⟨_, _, rfl⟩
    obtain ⟨A', c', rfl⟩ := hv
    exact ⟨A', c', w', hrun, ⟨by rw [npsOf_append]; exact h2, h.2.grown h3 hbase (fun k hk => (h.1.lt k hk).1)⟩⟩
theorem wp_appN {T E : TypeId} (pt : NT T E) {W w : World} {o : Oper} {a : Act} {K : Act → World → Prop} {Q : Exit → Act → World → Prop} (s x : Operand)
    (ho : o.op = .call { callee := .builtin .append, args := #[s, x], argTypes := #[T, T] })
    {A B : Option Addr} {n c m d : Nat} {xs l : List Np} (hs : a.eval s = .slice A n c) (hx : a.eval x = .slice B m d) (h : OwnN E W w A n c xs) (hl : Nps w B m d l) (hn : n + m ≤ 1000000)
    (hk : ∀ A' c' w', OwnN E W w' A' (n + m) c' (xs ++ l) → K (a.put o.dst (.slice A' (n + m) c')) w') : o.wp Try.prog a w K Q := by
  obtain ⟨A', c', w', hrun, h2⟩ := run_appN pt o.type h hl hn
  unfold Oper.wp execOp
  simp only [ho, resolve, invoke, builtin, Sem.run_bind, Sem.run_pure, Result.andThen_ok, List.map_toArray, List.map_cons, List.map_nil, hs, hx, hrun]
  exact hk A' c' w' h2
theorem wpList_appN {T E : TypeId} (pt : NT T E) {W w : World} {ops : Array Oper} {rest : List Oper} {o : Oper} {a : Act} {Q : Exit → Act → World → Prop} (hgd : o.guard = none) (s x : Operand)
    (ho : o.op = .call { callee := .builtin .append, args := #[s, x], argTypes := #[T, T] })
    {A B : Option Addr} {n c m d : Nat} {xs l : List Np} (hs : a.eval s = .slice A n c) (hx : a.eval x = .slice B m d) (h : OwnN E W w A n c xs) (hl : Nps w B m d l) (hn : n + m ≤ 1000000)
    (hk : ∀ A' c' w', OwnN E W w' A' (n + m) c' (xs ++ l) → wpList Try.prog ops Q rest (a.put o.dst (.slice A' (n + m) c')) w') : wpList Try.prog ops Q (o :: rest) a w :=
  wpList_plain hgd fun _ hK => wp_appN pt s x ho hs hx h hl hn fun A' c' w' h2 => hK _ _ (hk A' c' w' h2)
/-- An append at a step of a region that draws its order. -/
theorem step_appN {T E : TypeId} (pt : NT T E) {W w : World} {ops : Array Oper} {o : Oper} {a : Act} {K : Act → World → Prop} {Q : Exit → Act → World → Prop} {E' : Prop} (hgd : o.guard = none) (s x : Operand)
    (ho : o.op = .call { callee := .builtin .append, args := #[s, x], argTypes := #[T, T] })
    {A B : Option Addr} {n c m d : Nat} {xs l : List Np} (hs : a.eval s = .slice A n c) (hx : a.eval x = .slice B m d) (h : OwnN E W w A n c xs) (hl : Nps w B m d l) (hn : n + m ≤ 1000000)
    (hk : ∀ A' c' w', OwnN E W w' A' (n + m) c' (xs ++ l) → K (a.put o.dst (.slice A' (n + m) c')) w') :
    if Region.wanted o (yielded ops a.tmps) = true then Oper.wp Try.prog o a w K Q else E' := by
  have hw : Region.wanted o (yielded ops a.tmps) = true := by simp [Region.wanted, hgd]
  rw [if_pos hw]
  exact wp_appN pt s x ho hs hx h hl hn hk
/-- A new row of one nap. -/
theorem Nps.new1 (w : World) (E : TypeId) (e : Np) : Nps (w.alloc (.cells #[.int .i64 e.d, .int .i64 e.t] E)) (some ⟨w.heap.size, 0, none⟩) 1 1 [e] := by
  refine ⟨rfl, Nat.le_refl _, fun _ => ⟨_, 0, rfl, by simp, fun j hj => ?_⟩, fun h => by cases h⟩
  rw [Nat.zero_add, cell_of_row _ _ j _ E (0, 0) (heap_alloc_new w _)]
  match j, hj with
  | 0, _ => rfl
  | 1, _ => rfl
/-- Block b holds an item. -/
def Nv (w : World) (b : Nat) (t : TypeId) (e : Np) : Prop := w.heap[b]? = some (.cells #[.int .i64 e.d, .int .i64 e.t] t (0, 0))
section
variable {w w' : World} {b : Nat} {t : TypeId} {e : Np}
theorem Nv.lt (h : Nv w b t e) : b < w.heap.size := (Array.getElem?_eq_some_iff.1 h).1
theorem Nv.c0 (h : Nv w b t e) : w.cell? ⟨b, 0, none⟩ = some (.int .i64 e.d) := by unfold Nv at h; simp [World.cell?, h]
theorem Nv.c1 (h : Nv w b t e) : w.cell? ⟨b, 1, none⟩ = some (.int .i64 e.t) := by unfold Nv at h; simp [World.cell?, h]
theorem Nv.f (h : Nv w b t e) (j : Nat) : w.frozen? ⟨b, j, none⟩ = false := by unfold Nv at h; simp [World.frozen?, h]
theorem Nv.keep (h : Nv w b t e) (hb : Below w.heap.size w w') : Nv w' b t e := (hb.block b h.lt).trans h
theorem Nv.new (w : World) (t : TypeId) (e : Np) : Nv (w.alloc (.cells #[.int .i64 e.d, .int .i64 e.t] t)) w.heap.size t e := by
  show (w.heap.push _)[w.heap.size]? = _
  rw [Array.getElem?_push, if_pos rfl]
theorem Nv.at_ (w : World) (t : TypeId) (e : Np) (g : Nat) (hg : w.heap.size = g) : Nv (w.alloc (.cells #[.int .i64 e.d, .int .i64 e.t] t)) g t e := by
  subst hg; exact Nv.new w t e
theorem Nv.alloc (h : Nv w b t e) (o : Obj) : Nv (w.alloc o) b t e := (Below.heap_alloc w o b h.lt).trans h
theorem Nv.drew (h : Nv w b t e) : Nv w.drew b t e := h
theorem Nv.other (h : Nv w b t e) {p : Addr} (hp : b ≠ p.block) (v : Value) : Nv (w.setCell p v) b t e := (Below.heap_setCell w p v b hp).trans h
end
end Go.Proofs.Ytpkfmbknbdlnpaa
