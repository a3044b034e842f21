/-
  A dictionary that lies in a world: a slice of words that reads as a list; nil let in. It reads so in every world in which of what was there nothing has changed. Rows of the call's own; append onto them. A word in a block.
-/
import Derived.Test.YtkpomphjicoaeaaProg
import Derived.Test.YtkpomphjicoaeaaBelowThen
import Derived.Test.YtkpomphjicoaeaaDictMath
import Derived.Test.YtkpomphjicoaeaaFlowHeld
import Derived.Laws.StructEq
namespace Go.Proofs.Ytkpomphjicoaeaa
open Go.RowKit

/-- A word as it is handed on; the cells of a word, and of some. -/
def En.val (e : En) : Value := .agg #[.string e.s, .bool e.m, .int .i64 e.k, .int .i64 e.v, .int .i64 e.t, .int .i64 e.p]
def enV (e : En) : List Value := [.string e.s, .bool e.m, .int .i64 e.k, .int .i64 e.v, .int .i64 e.t, .int .i64 e.p]
def ensOf (l : List En) : List Value := l.flatMap enV
theorem ensOf_cons (e : En) (l : List En) : ensOf (e :: l) = enV e ++ ensOf l := rfl
theorem ensOf_length (l : List En) : (ensOf l).length = l.length * 6 := by
  induction l with
  | nil => rfl
  | cons p l ih => rw [ensOf_cons, List.length_append, ih, List.length_cons, show (enV p).length = 6 from rfl]; omega
theorem ensOf_append (l m : List En) : ensOf (l ++ m) = ensOf l ++ ensOf m := by simp [ensOf]
theorem ensOf_get (l : List En) (j : Nat) (hj : j < l.length) (i : Nat) (hi : i < 6) : (ensOf l)[j * 6 + i]? = (enV l[j])[i]? := by
  induction l generalizing j with
  | nil => simp at hj
  | cons p l ih =>
    have hp : (enV p).length = 6 := rfl
    cases j with
    | zero => rw [ensOf_cons, List.getElem?_append_left (by rw [hp]; omega)]; simp
    | succ j =>
      rw [ensOf_cons, List.getElem?_append_right (by rw [hp]; omega), hp, show (j + 1) * 6 + i - 6 = j * 6 + i by omega, ih j (by simpa using hj)]
      simp
theorem ensOf_one (l : List En) : ∀ v ∈ ensOf l, v.oneCell' = true := by
  intro v hv
  obtain ⟨p, _, hp⟩ := List.mem_flatMap.1 hv
  simp [enV] at hp
  rcases hp with rfl | rfl | rfl | rfl | rfl | rfl <;> rfl

/-- The slice A, n, c holds the words l. -/
def Ens (w : World) (A : Option Addr) (n c : Nat) (l : List En) : Prop :=
  l.length = n ∧ n ≤ c ∧ (0 < n → ∃ b o, A = some ⟨b, o, none⟩ ∧ b < w.heap.size ∧ ∀ j, j < l.length * 6 → w.cell? ⟨b, o + j, none⟩ = (ensOf l)[j]?) ∧ (A = none → c = 0)
section
variable {w w' : World} {A : Option Addr} {n c : Nat} {l l' : List En}
theorem Ens.len (h : Ens w A n c l) : l.length = n := h.1
theorem Ens.le (h : Ens w A n c l) : n ≤ c := h.2.1
theorem Ens.at0 (h : Ens w A n c l) : 0 < n → ∃ b o, A = some ⟨b, o, none⟩ ∧ b < w.heap.size ∧ ∀ j, j < l.length * 6 → w.cell? ⟨b, o + j, none⟩ = (ensOf l)[j]? := h.2.2.1
theorem Ens.keep (h : Ens w A n c l) (hs : w.heap.size ≤ w'.heap.size) (hk : ∀ b o, b < w.heap.size → w'.cell? ⟨b, o, none⟩ = w.cell? ⟨b, o, none⟩) : Ens w' A n c l :=
  ⟨h.1, h.2.1, fun hn => by
    obtain ⟨b, o, e, hb, hc⟩ := h.at0 hn
    exact ⟨b, o, e, Nat.lt_of_lt_of_le hb hs, fun j hj => (hk b _ hb).trans (hc j hj)⟩, h.2.2.2⟩
theorem Ens.below (h : Ens w A n c l) (hb : Below w.heap.size w w') : Ens w' A n c l :=
  h.keep hb.size fun b o hlt => hb.cell (p := ⟨b, o, none⟩) hlt
theorem Ens.alloc (h : Ens w A n c l) (o : Obj) : Ens (w.alloc o) A n c l := h.below ((Below.refl _ _).alloc (Nat.le_refl _) o)
theorem Ens.drewN (h : Ens w A n c l) (k : Nat) : Ens (w.drewN k) A n c l := h
theorem Ens.drew (h : Ens w A n c l) : Ens w.drew A n c l := h
theorem Ens.as (h : Ens w A n c l) (e : l = l') : Ens w A n c l' := e ▸ h
theorem Ens.nil : Ens w none 0 0 [] := ⟨rfl, Nat.zero_le _, fun h => absurd h (by omega), fun _ => rfl⟩
/-- A place of it. -/
theorem Ens.at_ (h : Ens w A n c l) (q : Nat) (hq : q < n) : ∃ b o, A = some ⟨b, o, none⟩ ∧ b < w.heap.size ∧ w.cell? ⟨b, o + q * 6, none⟩ = some (.string (l.getD q e0).s) ∧ w.cell? ⟨b, o + q * 6 + 1, none⟩ = some (.bool (l.getD q e0).m) ∧
    w.cell? ⟨b, o + q * 6 + 2, none⟩ = some (.int .i64 (l.getD q e0).k) ∧ w.cell? ⟨b, o + q * 6 + 3, none⟩ = some (.int .i64 (l.getD q e0).v) ∧ w.cell? ⟨b, o + q * 6 + 4, none⟩ = some (.int .i64 (l.getD q e0).t) ∧ w.cell? ⟨b, o + q * 6 + 5, none⟩ = some (.int .i64 (l.getD q e0).p) := by
  obtain ⟨b, o, rfl, hb, hc⟩ := h.at0 (by omega)
  have hl : q < l.length := by rw [h.1]; exact hq
  have e : l.getD q e0 = l[q] := by simp [List.getD, hl]
  rw [e]
  have g := fun i (hi : i < 6) => (hc (q * 6 + i) (by omega)).trans (ensOf_get l q hl i hi)
  refine ⟨b, o, rfl, hb, ?_, ?_, ?_, ?_, ?_, ?_⟩
  · exact g 0 (by omega)
  · exact g 1 (by omega)
  · exact g 2 (by omega)
  · exact g 3 (by omega)
  · exact g 4 (by omega)
  · exact g 5 (by omega)
theorem Ens.src {a : Addr} (h : Ens w (some a) n c l) : ∀ j u, (ensOf l)[j]? = some u → w.cell? (a.add j) = some u := by
  intro j u hu
  have hj : j < l.length * 6 := by
    rcases Nat.lt_or_ge j (ensOf l).length with h1 | h1
    · rw [ensOf_length] at h1; exact h1
    · rw [List.getElem?_eq_none h1] at hu; cases hu
  obtain ⟨b, o, e, _, hc⟩ := h.at0 (by have := h.1; omega)
  cases e
  rw [Addr.add_lit]
  exact (hc j hj).trans hu
theorem Ens.none_ (h : Ens w none n c l) : n = 0 ∧ c = 0 ∧ l = [] := by
  have h0 : n = 0 := by
    rcases Nat.eq_zero_or_pos n with h0 | h0
    · exact h0
    · obtain ⟨b, o, e, _⟩ := h.at0 h0; cases e
  subst h0
  exact ⟨rfl, h.2.2.2 rfl, List.eq_nil_of_length_eq_zero h.1⟩
theorem Ens.of_own {base : Nat} {e : TypeId} (h : w.ownsRow base e 6 (.slice A n c) n (ensOf l)) : Ens w A n c l := by
  have hl : l.length = n := by have := h.1; rw [ensOf_length] at this; omega
  refine ⟨hl, ?_, fun hn => ?_, fun ha => ?_⟩
  rotate_right
  · rcases h.2 with ⟨e1, _⟩ | ⟨g, cap, cur, hv, _⟩
    · injection e1
    · injection hv with h1 _ _; rw [ha] at h1; cases h1
  · rcases h.2 with ⟨e1, e2⟩ | ⟨g, cap, cur, hv, _, _, hnc, _⟩
    · omega
    · injection hv with _ _ h3; omega
  · obtain ⟨g, cap, hv, _, hlt⟩ := h.form hn
    injection hv with h1 _ _
    subst h1
    refine ⟨g, 0, rfl, hlt, fun j hj => ?_⟩
    have hx : (ensOf l)[j]? = some ((ensOf l)[j]'(by rw [ensOf_length]; exact hj)) := List.getElem?_eq_getElem _
    have c0 := h.cells (g := g) rfl j _ hx
    rw [Addr.add_lit] at c0
    rw [c0, hx]
end
/-- T is a type of slices of words, E that of words. -/
structure ET (T E : TypeId) : Prop where
  under : Try.prog.underlying T = some (.slice E)
  info : (Try.prog.info? E).map (fun i => (i.zero, i.size, i.bytes)) = some (some (.agg #[.string ⟨#[]⟩, .bool false, .int .i64 0, .int .i64 0, .int .i64 0, .int .i64 0]), 6, 56)
  elem : Try.prog.elem T = E
theorem etD : ET 31 37 := ⟨Try.underlying31, by kernel_rfl, by kernel_rfl⟩
theorem etR : ET 22 26 := ⟨Try.underlying22, by kernel_rfl, by kernel_rfl⟩
theorem ET.sizeP {T E : TypeId} (h : ET T E) (w : World) : (Go.sizeOf E).run Try.prog w = .ok 6 w := by
  obtain ⟨i, hi, hz, hs, hb⟩ := info_parts h.info
  simp [Go.sizeOf, typeInfo, hi, hs]
theorem ET.underE {T E : TypeId} (h : ET T E) : Try.prog.underlying T = some (.slice (Try.prog.elem T)) := by rw [h.elem]; exact h.under
/-- What stands ahead of a place. -/
theorem Ens.head {T E : TypeId} (pt : ET T E) {w : World} {A : Option Addr} {n c : Nat} {l : List En} (h : Ens w A n c l) (k : Nat) (hk : k ≤ n) :
    (∀ W : World, (Instr.slice T (.slice A n c) none (some (.int .i64 (k : Int))) none).run Try.prog W = .ok (.slice A k c) W) ∧ Ens w A k c (l.take k) := by
  obtain ⟨rfl, hc, hp, hz⟩ := h
  refine ⟨fun W => ?_, by simp; omega, by omega, fun h0 => ?_, hz⟩
  · rw [run_slice_h (P := Try.prog) W T A l.length c pt.underE .i64 (k : Int) (by omega) (by omega), pt.elem, pt.sizeP]
    show Result.ok (sliced A 0 (k : Int).toNat c 6) W = _
    unfold sliced
    simp
    intro _
    cases A <;> simp [Addr.add]
  · obtain ⟨b, o, rfl, hb, hcell⟩ := hp (by omega)
    refine ⟨b, o, rfl, hb, fun j hj => ?_⟩
    simp at hj
    have := hcell j (by omega)
    rw [this]
    have hjk : j / 6 < k := by omega
    have e1 := ensOf_get l (j / 6) (by omega) (j % 6) (by omega)
    have e2 := ensOf_get (l.take k) (j / 6) (by simp; omega) (j % 6) (by omega)
    rw [show j / 6 * 6 + j % 6 = j by omega] at e1 e2
    rw [e1, e2]
    simp

/-- A row of words that a call has made, whose world was W; of what was there in W nothing has changed. -/
def OwnE (E : TypeId) (W w : World) (A : Option Addr) (n c : Nat) (l : List En) : Prop := w.ownsRow W.heap.size E 6 (.slice A n c) n (ensOf l) ∧ Below W.heap.size W w
section
variable {T E : TypeId} {W w : World} {A : Option Addr} {n c : Nat} {l : List En}
theorem OwnE.ens (h : OwnE E W w A n c l) : Ens w A n c l := Ens.of_own h.1
theorem OwnE.below (h : OwnE E W w A n c l) : Below W.heap.size W w := h.2
theorem OwnE.nil (E : TypeId) (W : World) : OwnE E W W none 0 0 [] := ⟨⟨by simp [ensOf], .inl ⟨rfl, rfl⟩⟩, Below.refl _ _⟩
theorem OwnE.as {l' : List En} (h : OwnE E W w A n c l) (e : l = l') : OwnE E W w A n c l' := e ▸ h
theorem OwnE.made (E : TypeId) (W : World) : OwnE E W (W.alloc (.cells #[] E)) (some ⟨W.heap.size, 0, none⟩) 0 0 [] :=
  ⟨World.ownsRow_made W #[] 0 (Nat.le_refl _) (Nat.zero_le _) rfl, (Below.refl _ _).alloc (Nat.le_refl _) _⟩
theorem OwnE.grow {W2 : World} (h : OwnE E W w A n c l) (hb : Below w.heap.size w W2) : OwnE E W W2 A n c l := by
  refine ⟨⟨h.1.1, ?_⟩, below_then h.2 hb⟩
  rcases h.1.2 with h0 | ⟨g, cap, cur, h1, h2, h3, h4⟩
  · exact .inl h0
  · exact .inr ⟨g, cap, cur, h1, h2, (hb.block g (Array.getElem?_eq_some_iff.1 h3).1).trans h3, h4⟩
end
theorem run_appE {T E : TypeId} (pt : ET T E) {W w : World} {A B : Option Addr} {n c m d : Nat} {xs l : List En} (ty : TypeId) (h : OwnE E W w A n c xs) (hs : Ens w B m d l) (hn : n + m ≤ 1000000) :
    ∃ A' c' w', (Builtin.append_ #[T, T] ty #[.slice A n c, .slice B m d]).run Try.prog w = .ok (.slice A' (n + m) c') w' ∧ OwnE E W w' A' (n + m) c' (xs ++ l) := by
  obtain ⟨i, hi, hz0, hz1, hz2⟩ := info_parts pt.info
  have hbase : W.heap.size ≤ w.heap.size := h.2.size
  cases B with
  | none =>
    obtain ⟨rfl, rfl, rfl⟩ := hs.none_
    refine ⟨A, c, w, run_append_owned_none (P := Try.prog) (w := w) W.heap.size T ty E i 6 pt.under hi _ n (ensOf xs) h.1, ?_⟩
    rw [List.append_nil, Nat.add_zero]
    exact h
  | some a =>
    obtain ⟨v', w', hrun, h2, h3, _, _⟩ := run_append_own_at (P := Try.prog) w W.heap.size T ty E i (.agg #[.string ⟨#[]⟩, .bool false, .int .i64 0, .int .i64 0, .int .i64 0, .int .i64 0]) 6 56 pt.under hi hz0 hz1 hz2 rfl (by decide) _ n (ensOf xs) h.1 a m d (ensOf l)
      (by rw [ensOf_length, hs.1]) hs.src (ensOf_one l) (by unfold maxLen; omega) (by omega) hbase
    have hv : ∃ A' c', v' = .slice A' (n + m) c' := by
      rcases h2.2 with ⟨rfl, e⟩ | ⟨g, cap, cur, rfl, _⟩
      · exact ⟨none, 0, by rw [e]⟩
      · exact ⟨_, _, rfl⟩
    obtain ⟨A', c', rfl⟩ := hv
    exact ⟨A', c', w', hrun, ⟨by rw [ensOf_append]; exact h2, h.2.grown h3 hbase (fun k hk => (h.1.lt k hk).1)⟩⟩
theorem wp_appE {T E : TypeId} (pt : ET T E) {W w : World} {o : Oper} {a : Act} {K : Act → World → Prop} {Q : Exit → Act → World → Prop} (s x : Operand)
    (ho : o.op = .call { callee := .builtin .append, args := #[s, x], argTypes := #[T, T] })
    {A B : Option Addr} {n c m d : Nat} {xs l : List En} (hs : a.eval s = .slice A n c) (hx : a.eval x = .slice B m d) (h : OwnE E W w A n c xs) (hl : Ens w B m d l) (hn : n + m ≤ 1000000)
    (hk : ∀ A' c' w', OwnE E W w' A' (n + m) c' (xs ++ l) → K (a.put o.dst (.slice A' (n + m) c')) w') : o.wp Try.prog a w K Q := by
  obtain ⟨A', c', w', hrun, h2⟩ := run_appE pt o.type h hl hn
  unfold Oper.wp execOp
  simp only [ho, resolve, invoke, builtin, Sem.run_bind, Sem.run_pure, Result.andThen_ok, List.map_toArray, List.map_cons, List.map_nil, hs, hx, hrun]
  exact hk A' c' w' h2
theorem wpList_appE {T E : TypeId} (pt : ET T E) {W w : World} {ops : Array Oper} {rest : List Oper} {o : Oper} {a : Act} {Q : Exit → Act → World → Prop} (hgd : o.guard = none) (s x : Operand)
    (ho : o.op = .call { callee := .builtin .append, args := #[s, x], argTypes := #[T, T] })
    {A B : Option Addr} {n c m d : Nat} {xs l : List En} (hs : a.eval s = .slice A n c) (hx : a.eval x = .slice B m d) (h : OwnE E W w A n c xs) (hl : Ens w B m d l) (hn : n + m ≤ 1000000)
    (hk : ∀ A' c' w', OwnE E W w' A' (n + m) c' (xs ++ l) → wpList Try.prog ops Q rest (a.put o.dst (.slice A' (n + m) c')) w') : wpList Try.prog ops Q (o :: rest) a w :=
  wpList_plain hgd fun _ hK => wp_appE pt s x ho hs hx h hl hn fun A' c' w' h2 => hK _ _ (hk A' c' w' h2)
/-- A new row of one word. -/
theorem Ens.new1 (w : World) (E : TypeId) (e : En) : Ens (w.alloc (.cells #[.string e.s, .bool e.m, .int .i64 e.k, .int .i64 e.v, .int .i64 e.t, .int .i64 e.p] E)) (some ⟨w.heap.size, 0, none⟩) 1 1 [e] := by
  refine ⟨rfl, Nat.le_refl _, fun _ => ⟨_, 0, rfl, by simp, fun j hj => ?_⟩, fun h => by cases h⟩
  rw [Nat.zero_add, cell_of_row _ _ j _ E (0, 0) (heap_alloc_new w _)]
  match j, hj with
  | 0, _ => rfl
  | 1, _ => rfl
  | 2, _ => rfl
  | 3, _ => rfl
  | 4, _ => rfl
  | 5, _ => rfl
/-- Block b holds a word. -/
def Ev (w : World) (b : Nat) (t : TypeId) (e : En) : Prop := w.heap[b]? = some (.cells #[.string e.s, .bool e.m, .int .i64 e.k, .int .i64 e.v, .int .i64 e.t, .int .i64 e.p] t (0, 0))
section
variable {w w' : World} {b : Nat} {t : TypeId} {e : En}
theorem Ev.lt (h : Ev w b t e) : b < w.heap.size := (Array.getElem?_eq_some_iff.1 h).1
theorem Ev.c0 (h : Ev w b t e) : w.cell? ⟨b, 0, none⟩ = some (.string e.s) := by unfold Ev at h; simp [World.cell?, h]
theorem Ev.c1 (h : Ev w b t e) : w.cell? ⟨b, 1, none⟩ = some (.bool e.m) := by unfold Ev at h; simp [World.cell?, h]
theorem Ev.c2 (h : Ev w b t e) : w.cell? ⟨b, 2, none⟩ = some (.int .i64 e.k) := by unfold Ev at h; simp [World.cell?, h]
theorem Ev.c3 (h : Ev w b t e) : w.cell? ⟨b, 3, none⟩ = some (.int .i64 e.v) := by unfold Ev at h; simp [World.cell?, h]
theorem Ev.c4 (h : Ev w b t e) : w.cell? ⟨b, 4, none⟩ = some (.int .i64 e.t) := by unfold Ev at h; simp [World.cell?, h]
theorem Ev.c5 (h : Ev w b t e) : w.cell? ⟨b, 5, none⟩ = some (.int .i64 e.p) := by unfold Ev at h; simp [World.cell?, h]
theorem Ev.f (h : Ev w b t e) (j : Nat) : w.frozen? ⟨b, j, none⟩ = false := by unfold Ev at h; simp [World.frozen?, h]
theorem Ev.keep (h : Ev w b t e) (hb : Below w.heap.size w w') : Ev w' b t e := (hb.block b h.lt).trans h
theorem Ev.new (w : World) (t : TypeId) (e : En) : Ev (w.alloc (.cells #[.string e.s, .bool e.m, .int .i64 e.k, .int .i64 e.v, .int .i64 e.t, .int .i64 e.p] t)) w.heap.size t e := by
  show (w.heap.push _)[w.heap.size]? = _
  rw [Array.getElem?_push, if_pos rfl]
theorem Ev.alloc (h : Ev w b t e) (o : Obj) : Ev (w.alloc o) b t e := (Below.heap_alloc w o b h.lt).trans h
theorem Ev.other (h : Ev w b t e) {p : Addr} (hp : b ≠ p.block) (v : Value) : Ev (w.setCell p v) b t e := (Below.heap_setCell w p v b hp).trans h
theorem Ev.setS (h : Ev w b t e) (S : ByteArray) : Ev (w.setCell ⟨b, 0, none⟩ (.string S)) b t ⟨S, e.m, e.k, e.v, e.t, e.p⟩ := by
  unfold Ev at h ⊢
  simp [World.setCell, Array.getElem?_modify, h]
end
theorem below_one (w : World) (o : Obj) : Below w.heap.size w (w.alloc o) := (Below.refl _ _).alloc (Nat.le_refl _) o
end Go.Proofs.Ytkpomphjicoaeaa
