/-
  A row of pairs that lies in a world: a slice of structs of two ints that reads as a list; nil let in. It reads so in every world in which of what was there nothing has changed. Rows of the call's own; append onto them.
-/
import Derived.Test.YtkpomphjicoaeaaProg
import Derived.Test.YtkpomphjicoaeaaFlowMath
import Derived.Below
import Derived.Laws.OwnMore
import Derived.Laws.AppendOwnNone
import Derived.Maps.AppendAt
import Derived.Deep.AppendLies
import Derived.Deep.OwnRows
import Derived.Deep.Draws
import Derived.WalkKit
import Derived.WalkMore
import Derived.OwnWalk
import Derived.Lib.Hide
import Derived.Lib.AppendZeros
import Derived.Lib.SliceRun
namespace Go.Proofs.Ytkpomphjicoaeaa
open Go.RowKit

/-- The cells of some pairs. -/
def prsOf (l : List (Int × Int)) : List Value := l.flatMap fun p => [.int .i64 p.1, .int .i64 p.2]
theorem prsOf_cons (p : Int × Int) (l : List (Int × Int)) : prsOf (p :: l) = .int .i64 p.1 :: .int .i64 p.2 :: prsOf l := rfl
theorem prsOf_length (l : List (Int × Int)) : (prsOf l).length = l.length * 2 := by
  induction l with
  | nil => rfl
  | cons p l ih => rw [prsOf_cons, List.length_cons, List.length_cons, ih, List.length_cons]; omega
theorem prsOf_append (l m : List (Int × Int)) : prsOf (l ++ m) = prsOf l ++ prsOf m := by simp [prsOf]
theorem prsOf_get (l : List (Int × Int)) (j : Nat) (hj : j < l.length) : (prsOf l)[j * 2]? = some (.int .i64 l[j].1) ∧ (prsOf l)[j * 2 + 1]? = some (.int .i64 l[j].2) := by
  induction l generalizing j with
  | nil => simp at hj
  | cons p l ih =>
    cases j with
    | zero => exact ⟨rfl, rfl⟩
    | succ j =>
      have := ih j (by simpa using hj)
      rw [prsOf_cons, show (j + 1) * 2 = j * 2 + 1 + 1 by omega]
      simpa using this
theorem prsOf_at {l : List (Int × Int)} {j : Nat} {v : Value} (h : (prsOf l)[j]? = some v) : ∃ hj : j / 2 < l.length, v = .int .i64 (if j % 2 = 0 then l[j / 2].1 else l[j / 2].2) := by
  have hl : j < (prsOf l).length := by
    rcases Nat.lt_or_ge j (prsOf l).length with h1 | h1
    · exact h1
    · rw [List.getElem?_eq_none h1] at h; cases h
  rw [prsOf_length] at hl
  have hj : j / 2 < l.length := by omega
  refine ⟨hj, ?_⟩
  have h2 := prsOf_get l (j / 2) hj
  rcases Nat.mod_two_eq_zero_or_one j with e | e
  · rw [if_pos e]
    have := h2.1
    rw [show j / 2 * 2 = j by omega, h] at this
    injection this
  · rw [if_neg (by omega)]
    have := h2.2
    rw [show j / 2 * 2 + 1 = j by omega, h] at this
    injection this
theorem prsOf_one (l : List (Int × Int)) : ∀ v ∈ prsOf l, v.oneCell' = true := by
  intro v hv
  obtain ⟨p, _, hp⟩ := List.mem_flatMap.1 hv
  simp at hp
  rcases hp with rfl | rfl <;> rfl

/-- The slice A, n, c holds the pairs l. -/
def Prs (w : World) (A : Option Addr) (n c : Nat) (l : List (Int × Int)) : Prop :=
  l.length = n ∧ n ≤ c ∧ (0 < n → ∃ b o, A = some ⟨b, o, none⟩ ∧ b < w.heap.size ∧ ∀ j (hj : j < l.length), w.cell? ⟨b, o + j * 2, none⟩ = some (.int .i64 l[j].1) ∧ w.cell? ⟨b, o + j * 2 + 1, none⟩ = some (.int .i64 l[j].2)) ∧ (A = none → c = 0)
section
variable {w w' : World} {A : Option Addr} {n c : Nat} {l l' : List (Int × Int)}
theorem Prs.len (h : Prs w A n c l) : l.length = n := h.1
theorem Prs.le (h : Prs w A n c l) : n ≤ c := h.2.1
theorem Prs.at0 (h : Prs w A n c l) : 0 < n → ∃ b o, A = some ⟨b, o, none⟩ ∧ b < w.heap.size ∧ ∀ j (hj : j < l.length), w.cell? ⟨b, o + j * 2, none⟩ = some (.int .i64 l[j].1) ∧ w.cell? ⟨b, o + j * 2 + 1, none⟩ = some (.int .i64 l[j].2) := h.2.2.1
theorem Prs.keep (h : Prs w A n c l) (hs : w.heap.size ≤ w'.heap.size) (hk : ∀ b o, b < w.heap.size → w'.cell? ⟨b, o, none⟩ = w.cell? ⟨b, o, none⟩) : Prs w' A n c l :=
  ⟨h.1, h.2.1, fun hn => by
    obtain ⟨b, o, e, hb, hc⟩ := h.at0 hn
    exact ⟨b, o, e, Nat.lt_of_lt_of_le hb hs, fun j hj => ⟨(hk b _ hb).trans (hc j hj).1, (hk b _ hb).trans (hc j hj).2⟩⟩, h.2.2.2⟩
theorem Prs.below (h : Prs w A n c l) (hb : Below w.heap.size w w') : Prs w' A n c l :=
  h.keep hb.size fun b o hlt => hb.cell (p := ⟨b, o, none⟩) hlt
theorem Prs.alloc (h : Prs w A n c l) (o : Obj) : Prs (w.alloc o) A n c l := h.below ((Below.refl _ _).alloc (Nat.le_refl _) o)
theorem Prs.drewN (h : Prs w A n c l) (k : Nat) : Prs (w.drewN k) A n c l := h
theorem Prs.drew (h : Prs w A n c l) : Prs w.drew A n c l := h
theorem Prs.as (h : Prs w A n c l) (e : l = l') : Prs w A n c l' := e ▸ h
theorem Prs.nil : Prs w none 0 0 [] := ⟨rfl, Nat.zero_le _, fun h => absurd h (by omega), fun _ => rfl⟩
/-- A place of it. -/
theorem Prs.at_ (h : Prs w A n c l) (q : Nat) (hq : q < n) : ∃ b o, A = some ⟨b, o, none⟩ ∧ b < w.heap.size ∧ w.cell? ⟨b, o + q * 2, none⟩ = some (.int .i64 (l.getD q (0, 0)).1) ∧ w.cell? ⟨b, o + q * 2 + 1, none⟩ = some (.int .i64 (l.getD q (0, 0)).2) := by
  obtain ⟨b, o, rfl, hb, hc⟩ := h.at0 (by omega)
  have hl : q < l.length := by rw [h.1]; exact hq
  have e : l.getD q (0, 0) = l[q] := by simp [List.getD, hl]
  rw [e]
  exact ⟨b, o, rfl, hb, hc q hl⟩
theorem Prs.src {a : Addr} (h : Prs w (some a) n c l) : ∀ j u, (prsOf l)[j]? = some u → w.cell? (a.add j) = some u := by
  intro j u hu
  obtain ⟨hj, rfl⟩ := prsOf_at hu
  obtain ⟨b, o, e, _, hc⟩ := h.at0 (by have := h.1; omega)
  cases e
  rw [Addr.add_lit]
  have h2 := hc (j / 2) hj
  rcases Nat.mod_two_eq_zero_or_one j with e | e
  · rw [if_pos e]
    have := h2.1
    rw [show j / 2 * 2 = j by omega] at this
    exact this
  · rw [if_neg (by omega)]
    have := h2.2
    rw [show o + j / 2 * 2 + 1 = o + j by omega] at this
    exact this
theorem Prs.none_ (h : Prs w none n c l) : n = 0 ∧ c = 0 ∧ l = [] := by
  have h0 : n = 0 := by
    rcases Nat.eq_zero_or_pos n with h0 | h0
    · exact h0
    · obtain ⟨b, o, e, _⟩ := h.at0 h0; cases e
  subst h0
  exact ⟨rfl, h.2.2.2 rfl, List.eq_nil_of_length_eq_zero h.1⟩
theorem Prs.of_own {base : Nat} {e : TypeId} (h : w.ownsRow base e 2 (.slice A n c) n (prsOf l)) : Prs w A n c l := by
  have hl : l.length = n := by have := h.1; rw [prsOf_length] at this; omega
  refine ⟨hl, ?_, fun hn => ?_, fun ha => ?_⟩
  rotate_right
  · rcases h.2 with ⟨e1, _⟩ | ⟨g, cap, cur, hv, _⟩
    · injection e1
    · injection hv with h1 _ _; rw [ha] at h1; cases h1
  · rcases h.2 with ⟨e1, e2⟩ | ⟨g, cap, cur, hv, _, _, hnc, _⟩
    · omega
    · injection hv with _ _ h3; omega
  · obtain ⟨g, cap, hv, _, hlt⟩ := h.form hn
    injection hv with h1 _ _
    subst h1
    refine ⟨g, 0, rfl, hlt, fun j hj => ?_⟩
    have h2 := prsOf_get l j hj
    have c0 := h.cells (g := g) rfl (j * 2) _ h2.1
    have c1 := h.cells (g := g) rfl (j * 2 + 1) _ h2.2
    rw [Addr.add_lit] at c0 c1
    exact ⟨c0, by rw [Nat.add_assoc]; exact c1⟩
end
/-- T is a type of slices of structs of two ints, E that struct. -/
structure PT (T E : TypeId) : Prop where
  under : Try.prog.underlying T = some (.slice E)
  info : (Try.prog.info? E).map (fun i => (i.zero, i.size, i.bytes)) = some (some (.agg #[.int .i64 0, .int .i64 0]), 2, 16)
  elem : Try.prog.elem T = E
theorem ptI : PT 41 58 := ⟨Try.underlying41, by kernel_rfl, by kernel_rfl⟩
theorem PT.sizeP {T E : TypeId} (h : PT T E) (w : World) : (Go.sizeOf E).run Try.prog w = .ok 2 w := by
  obtain ⟨i, hi, hz, hs, hb⟩ := info_parts h.info
  simp [Go.sizeOf, typeInfo, hi, hs]
theorem PT.underE {T E : TypeId} (h : PT T E) : Try.prog.underlying T = some (.slice (Try.prog.elem T)) := by rw [h.elem]; exact h.under
/-- What stands ahead of a place. -/
theorem Prs.head {T E : TypeId} (pt : PT T E) {w : World} {A : Option Addr} {n c : Nat} {l : List (Int × Int)} (h : Prs w A n c l) (k : Nat) (hk : k ≤ n) :
    (∀ W : World, (Instr.slice T (.slice A n c) none (some (.int .i64 (k : Int))) none).run Try.prog W = .ok (.slice A k c) W) ∧ Prs w A k c (l.take k) := by
  obtain ⟨rfl, hc, hp, hz⟩ := h
  refine ⟨fun W => ?_, by simp; omega, by omega, fun h0 => ?_, hz⟩
  · rw [run_slice_h (P := Try.prog) W T A l.length c pt.underE .i64 (k : Int) (by omega) (by omega), pt.elem, pt.sizeP]
    show Result.ok (sliced A 0 (k : Int).toNat c 2) W = _
    unfold sliced
    simp
    intro _
    cases A <;> simp [Addr.add]
  · obtain ⟨b, o, rfl, hb, hcell⟩ := hp (by omega)
    refine ⟨b, o, rfl, hb, fun j hj => ?_⟩
    simp at hj
    have := hcell j (by omega)
    simpa using this
theorem below_drewN {B : Nat} {a w : World} (h : Below B a w) (n : Nat) : Below B a (w.drewN n) := ⟨h.os, h.tape, h.output, h.size, h.block⟩
theorem below_new {W w' : World} {o : Obj} (h : Below (W.alloc o).heap.size (W.alloc o) w') : Below W.heap.size W w' := ((Below.refl _ _).alloc (Nat.le_refl _) o).trans (h.mono ((Below.refl _ _).alloc (Nat.le_refl _) o : Below W.heap.size W (W.alloc o)).size)

/-- A row of pairs that a call has made, whose world was W; of what was there in W nothing has changed. -/
def OwnP (E : TypeId) (W w : World) (A : Option Addr) (n c : Nat) (l : List (Int × Int)) : Prop := w.ownsRow W.heap.size E 2 (.slice A n c) n (prsOf l) ∧ Below W.heap.size W w
section
variable {T E : TypeId} {W w : World} {A : Option Addr} {n c : Nat} {l : List (Int × Int)}
theorem OwnP.prs (h : OwnP E W w A n c l) : Prs w A n c l := Prs.of_own h.1
theorem OwnP.below (h : OwnP E W w A n c l) : Below W.heap.size W w := h.2
theorem OwnP.nil (E : TypeId) (W : World) : OwnP E W W none 0 0 [] := ⟨⟨by simp [prsOf], .inl ⟨rfl, rfl⟩⟩, Below.refl _ _⟩
theorem OwnP.as {l' : List (Int × Int)} (h : OwnP E W w A n c l) (e : l = l') : OwnP E W w A n c l' := e ▸ h
theorem OwnP.made (E : TypeId) (W : World) : OwnP E W (W.alloc (.cells #[] E)) (some ⟨W.heap.size, 0, none⟩) 0 0 [] :=
  ⟨World.ownsRow_made W #[] 0 (Nat.le_refl _) (Nat.zero_le _) rfl, (Below.refl _ _).alloc (Nat.le_refl _) _⟩
end
theorem run_app {T E : TypeId} (pt : PT T E) {W w : World} {A B : Option Addr} {n c m d : Nat} {xs l : List (Int × Int)} (ty : TypeId) (h : OwnP E W w A n c xs) (hs : Prs w B m d l) (hn : n + m ≤ 1000000) :
    ∃ A' c' w', (Builtin.append_ #[T, T] ty #[.slice A n c, .slice B m d]).run Try.prog w = .ok (.slice A' (n + m) c') w' ∧ OwnP E W w' A' (n + m) c' (xs ++ l) ∧ w.grownBy w' (Value.slice A n c).ownBlock := by
  obtain ⟨i, hi, hz0, hz1, hz2⟩ := info_parts pt.info
  have hbase : W.heap.size ≤ w.heap.size := h.2.size
  cases B with
  | none =>
    obtain ⟨rfl, rfl, rfl⟩ := hs.none_
    refine ⟨A, c, w, run_append_owned_none (P := Try.prog) (w := w) W.heap.size T ty E i 2 pt.under hi _ n (prsOf xs) h.1, ?_, World.grownBy.refl w _⟩
    rw [List.append_nil, Nat.add_zero]
    exact h
  | some a =>
    obtain ⟨v', w', hrun, h2, h3, _, _⟩ := run_append_own_at (P := Try.prog) w W.heap.size T ty E i (.agg #[.int .i64 0, .int .i64 0]) 2 16 pt.under hi hz0 hz1 hz2 rfl (by decide) _ n (prsOf xs) h.1 a m d (prsOf l)
      (by rw [prsOf_length, hs.1]) hs.src (prsOf_one l) (by unfold maxLen; omega) (by omega) hbase
    have hv : ∃ A' c', v' = .slice A' (n + m) c' := by
      rcases h2.2 with ⟨rfl, e⟩ | ⟨g, cap, cur, rfl, _⟩
      · exact ⟨none, 0, by rw [e]⟩
      · exact ⟨_, _, rfl⟩
    obtain ⟨A', c', rfl⟩ := hv
    exact ⟨A', c', w', hrun, ⟨by rw [prsOf_append]; exact h2, h.2.grown h3 hbase (fun k hk => (h.1.lt k hk).1)⟩, h3⟩
theorem wp_app {T E : TypeId} (pt : PT T E) {W w : World} {o : Oper} {a : Act} {K : Act → World → Prop} {Q : Exit → Act → World → Prop} (s x : Operand)
    (ho : o.op = .call { callee := .builtin .append, args := #[s, x], argTypes := #[T, T] })
    {A B : Option Addr} {n c m d : Nat} {xs l : List (Int × Int)} (hs : a.eval s = .slice A n c) (hx : a.eval x = .slice B m d) (h : OwnP E W w A n c xs) (hl : Prs w B m d l) (hn : n + m ≤ 1000000)
    (hk : ∀ A' c' w', OwnP E W w' A' (n + m) c' (xs ++ l) → w.grownBy w' (Value.slice A n c).ownBlock → K (a.put o.dst (.slice A' (n + m) c')) w') : o.wp Try.prog a w K Q := by
  obtain ⟨A', c', w', hrun, h2, h3⟩ := run_app pt o.type h hl hn
  unfold Oper.wp execOp
  simp only [ho, resolve, invoke, builtin, Sem.run_bind, Sem.run_pure, Result.andThen_ok, List.map_toArray, List.map_cons, List.map_nil, hs, hx, hrun]
  exact hk A' c' w' h2 h3
theorem wpList_app {T E : TypeId} (pt : PT T E) {W w : World} {ops : Array Oper} {rest : List Oper} {o : Oper} {a : Act} {Q : Exit → Act → World → Prop} (hgd : o.guard = none) (s x : Operand)
    (ho : o.op = .call { callee := .builtin .append, args := #[s, x], argTypes := #[T, T] })
    {A B : Option Addr} {n c m d : Nat} {xs l : List (Int × Int)} (hs : a.eval s = .slice A n c) (hx : a.eval x = .slice B m d) (h : OwnP E W w A n c xs) (hl : Prs w B m d l) (hn : n + m ≤ 1000000)
    (hk : ∀ A' c' w', OwnP E W w' A' (n + m) c' (xs ++ l) → w.grownBy w' (Value.slice A n c).ownBlock → wpList Try.prog ops Q rest (a.put o.dst (.slice A' (n + m) c')) w') : wpList Try.prog ops Q (o :: rest) a w :=
  wpList_plain hgd fun _ hK => wp_app pt s x ho hs hx h hl hn fun A' c' w' h2 h3 => hK _ _ (hk A' c' w' h2 h3)
/-- An append at a step of a region that draws its order. -/
theorem step_app {T E : TypeId} (pt : PT T E) {W w : World} {ops : Array Oper} {o : Oper} {a : Act} {K : Act → World → Prop} {Q : Exit → Act → World → Prop} {E' : Prop} (hgd : o.guard = none) (s x : Operand)
    (ho : o.op = .call { callee := .builtin .append, args := #[s, x], argTypes := #[T, T] })
    {A B : Option Addr} {n c m d : Nat} {xs l : List (Int × Int)} (hs : a.eval s = .slice A n c) (hx : a.eval x = .slice B m d) (h : OwnP E W w A n c xs) (hl : Prs w B m d l) (hn : n + m ≤ 1000000)
    (hk : ∀ A' c' w', OwnP E W w' A' (n + m) c' (xs ++ l) → w.grownBy w' (Value.slice A n c).ownBlock → K (a.put o.dst (.slice A' (n + m) c')) w') :
    if Region.wanted o (yielded ops a.tmps) = true then Oper.wp Try.prog o a w K Q else E' := by
  have hw : Region.wanted o (yielded ops a.tmps) = true := by simp [Region.wanted, hgd]
  rw [if_pos hw]
  exact wp_app pt s x ho hs hx h hl hn hk
/-- An append whose answer is known. -/
theorem wpList_apps {w w' : World} {ops : Array Oper} {rest : List Oper} {o : Oper} {a : Act} {Q : Exit → Act → World → Prop} {v : Value} (hgd : o.guard = none) (s x : Operand) (t t' : TypeId)
    (ho : o.op = .call { callee := .builtin .append, args := #[s, x], argTypes := #[t, t'] })
    (hrun : (Builtin.append_ #[t, t'] o.type #[a.eval s, a.eval x]).run Try.prog w = .ok v w')
    (hk : wpList Try.prog ops Q rest (a.put o.dst v) w') : wpList Try.prog ops Q (o :: rest) a w := by
  refine wpList_plain hgd fun _ hK => ?_
  unfold Oper.wp execOp
  simp only [ho, resolve, invoke, builtin, Sem.run_bind, Sem.run_pure, Result.andThen_ok, List.map_toArray, List.map_cons, List.map_nil, hrun]
  exact hK _ _ hk
/-- New rows of one pair, and of two. -/
theorem Prs.new1 (w : World) (E : TypeId) (x y : Int) : Prs (w.alloc (.cells #[.int .i64 x, .int .i64 y] E)) (some ⟨w.heap.size, 0, none⟩) 1 1 [(x, y)] := by
  refine ⟨rfl, Nat.le_refl _, fun _ => ⟨_, 0, rfl, by simp, fun j hj => ?_⟩, fun h => by cases h⟩
  match j, hj with
  | 0, _ => exact ⟨cell_of_row _ _ 0 _ E (0, 0) (heap_alloc_new w _), cell_of_row _ _ 1 _ E (0, 0) (heap_alloc_new w _)⟩
theorem Prs.new2 (w : World) (E : TypeId) (x y x' y' : Int) : Prs (w.alloc (.cells #[.int .i64 x, .int .i64 y, .int .i64 x', .int .i64 y'] E)) (some ⟨w.heap.size, 0, none⟩) 2 2 [(x, y), (x', y')] := by
  refine ⟨rfl, Nat.le_refl _, fun _ => ⟨_, 0, rfl, by simp, fun j hj => ?_⟩, fun h => by cases h⟩
  match j, hj with
  | 0, _ => exact ⟨cell_of_row _ _ 0 _ E (0, 0) (heap_alloc_new w _), cell_of_row _ _ 1 _ E (0, 0) (heap_alloc_new w _)⟩
  | 1, _ => exact ⟨cell_of_row _ _ 2 _ E (0, 0) (heap_alloc_new w _), cell_of_row _ _ 3 _ E (0, 0) (heap_alloc_new w _)⟩
end Go.Proofs.Ytkpomphjicoaeaa
