/-
  A row of operations that each put an aggregate together, taken at once: what they leave is worked out by the kernel; no step goes through the parts.
-/
import Derived.Laws.Tables
import Derived.WalkKit
namespace Go.Proofs.Ytkpomphjicoaeaa

/-- What is left in the slots behind operations that each build an aggregate (nothing, if one does not). -/
def buildsAll (P : Program) : List Oper → Act → Option Act
  | [], a => some a
  | o :: rest, a =>
    match o.guard, o.op with
    | none, .build t parts =>
      match P.built t (parts.map fun (i, x) => (i, a.eval x)).toList with
      | some cs => buildsAll P rest (a.put o.dst (.agg cs))
      | none => none
    | _, _ => none
theorem wpList_builds {P : Program} {ops : Array Oper} {Q : Exit → Act → World → Prop} {w : World} : ∀ (l rest : List Oper) (a a' : Act), buildsAll P l a = some a' → wpList P ops Q rest a' w → wpList P ops Q (l ++ rest) a w
  | [], rest, a, a', h, h2 => by
    simp only [buildsAll, Option.some.injEq] at h
    subst h
    exact h2
  | o :: l, rest, a, a', h, h2 => by
    unfold buildsAll at h
    split at h
    · rename_i hg ho
      split at h
      · rename_i cs hc
        refine wpList_build hg _ _ ho (by rw [hc]; rfl) ?_
        rw [hc]
        exact wpList_builds l rest _ a' h h2
      · cases h
    · cases h
theorem wpList_builds_at {P : Program} {ops : Array Oper} {Q : Exit → Act → World → Prop} {w : World} (k : Nat) (L : List Oper) (a a' : Act) (h : buildsAll P (L.take k) a = some a') (h2 : wpList P ops Q (L.drop k) a' w) : wpList P ops Q L a w := by
  have := wpList_builds (P := P) (ops := ops) (Q := Q) (w := w) (L.take k) (L.drop k) a a' h h2
  rwa [List.take_append_drop] at this
theorem map_three {α β : Type} {f : α → β} {l : List α} {x y z : β} (h : l.map f = [x, y, z]) : ∃ a b c, l = [a, b, c] ∧ f a = x ∧ f b = y ∧ f c = z := by
  rcases l with _ | ⟨a, _ | ⟨b, _ | ⟨c, _ | ⟨d, l⟩⟩⟩⟩ <;> simp at h
  exact ⟨a, b, c, rfl, h.1, h.2.1, h.2.2⟩
/-- A table that is put together, indexed where it is written, and stored into a block of its row's kind. -/
theorem wpList_table {P : Program} {ops : Array Oper} {Q : Exit → Act → World → Prop} {w : World} (k : Nat) (L : List Oper) (a a' : Act) (h : buildsAll P (L.take k) a = some a')
    (d1 d2 : Tmp) (x1 x p : Operand) (T R : TypeId)
    (hd : (L.drop k).map (fun o => (o.dst, o.op, o.guard)) = [(some d1, .move x1, none), (some d2, .index T x (.tmp d1), none), (none, .store R p (.tmp d2), none)])
    (u : Value) (cells : Array Value) (a1 a2 : Act) (h1 : a'.put (some d1) (a'.eval x1) = a1) (hu : ∀ W : World, (Instr.index T (a1.eval x) (a1.eval (.tmp d1))).run P W = .ok u W)
    (h2 : a1.put (some d2) u = a2) (g : Nat) (hp : a2.eval p = .pointer (some ⟨g, 0, none⟩)) (hy : a2.eval (.tmp d2) = .agg cells)
    (t : TypeId) (old : Array Value) (hg : w.heap[g]? = some (.cells old t (0, 0))) (hi : (P.info? R).map (·.size) = some cells.size) (hold : old.size = cells.size) (hc : cells.all (·.oneCell') = true)
    (hQ : Q .normal (a2.put none undef) (w.setRow g cells)) : wpList P ops Q L a w := by
  refine wpList_builds_at k L a a' h ?_
  obtain ⟨o1, o2, o3, e, e1, e2, e3⟩ := map_three hd
  simp only [Prod.mk.injEq] at e1 e2 e3
  obtain ⟨e1a, e1b, e1c⟩ := e1
  obtain ⟨e2a, e2b, e2c⟩ := e2
  obtain ⟨e3a, e3b, e3c⟩ := e3
  rw [e]
  refine wpList_plain e1c fun K1 hK1 => ?_
  unfold Oper.wp execOp
  simp only [e1b, e1a, Sem.run_pure, Oper.upon_value, h1]
  refine hK1 _ _ ?_
  refine wpList_plain e2c fun K2 hK2 => ?_
  unfold Oper.wp execOp
  simp only [e2b, Sem.run_bind, hu, Result.andThen_ok, Sem.run_pure, Oper.upon_value, e2a, h2]
  refine hK2 _ _ ?_
  have := wpList_store_row (P := P) (ops := ops) (rest := []) (o := o3) (a := a2) (w := w) (Q := Q) e3c R p (.tmp d2) e3b g cells hp hy t old hg hi hold hc (by rw [e3a]; exact wpList_nil hQ)
  exact this
end Go.Proofs.Ytkpomphjicoaeaa
