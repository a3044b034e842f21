/-
  What the library's calls that package stk makes answer at slices of ints: Grow of nothing, Clone, Concat; and append onto a row of the call's own.
-/
import Derived.Test.YtpkfmbknbdlnpaaStkHeld
import Derived.Laws.AppendOwnNone
import Derived.Lib.AppendZeros
import Derived.Lib.SliceRun
namespace Go.Proofs.Ytpkfmbknbdlnpaa
open Go.RowKit

/-- A row of ints that a call has made, whose world was W; of what was there in W nothing has changed. -/
def Own (W w : World) (A : Option Addr) (n c : Nat) (l : List Int) : Prop := w.ownsRow W.heap.size 3 1 (.slice A n c) n (intsOf l) ∧ Below W.heap.size W w
section
variable {W w : World} {A : Option Addr} {n c : Nat} {l : List Int}
theorem Own.stk (h : Own W w A n c l) : Stk w A n c l := Stk.of_own h.1
theorem Own.below (h : Own W w A n c l) : Below W.heap.size W w := h.2
theorem Own.nil (W : World) : Own W W none 0 0 [] := ⟨⟨by simp [intsOf], .inl ⟨rfl, rfl⟩⟩, Below.refl _ _⟩
theorem Own.as {l' : List Int} (h : Own W w A n c l) (e : l = l') : Own W w A n c l' := e ▸ h
/-- A new row of no ints. -/
theorem Own.made (W : World) : Own W (W.alloc (.cells #[] 3)) (some ⟨W.heap.size, 0, none⟩) 0 0 [] :=
  ⟨World.ownsRow_made W #[] 0 (Nat.le_refl _) (Nat.zero_le _) rfl, (Below.refl _ _).alloc (Nat.le_refl _) _⟩
end
theorem run_app {W w : World} {A B : Option Addr} {n c m d : Nat} {xs l : List Int} (ty : TypeId) (h : Own W w A n c xs) (hs : Stk w B m d l) (hn : n + m ≤ 1000000) :
    ∃ A' c' w', (Builtin.append_ #[30, 30] ty #[.slice A n c, .slice B m d]).run Try.prog w = .ok (.slice A' (n + m) c') w' ∧ Own W w' A' (n + m) c' (xs ++ l) := by
  obtain ⟨i, hi, hz0, hz1, hz2⟩ := info_parts infoI
  have hbase : W.heap.size ≤ w.heap.size := h.2.size
  cases B with
  | none =>
    obtain ⟨rfl, rfl, rfl⟩ := hs.none_
    refine ⟨A, c, w, run_append_owned_none (P := Try.prog) (w := w) W.heap.size 30 ty 3 i 1 Try.underlying30 hi _ n (intsOf xs) h.1, ?_⟩
    rw [List.append_nil, Nat.add_zero]
    exact h
  | some a =>
    obtain ⟨v', w', hrun, h2, h3, _, _⟩ := run_append_own_at (P := Try.prog) w W.heap.size 30 ty 3 i (.int .i64 0) 1 8 Try.underlying30 hi hz0 hz1 hz2 rfl (by decide) _ n (intsOf xs) h.1 a m d (intsOf l)
      (by rw [intsOf_length, hs.1, Nat.mul_one]) hs.src (intsOf_one l) (by unfold maxLen; omega) (by omega) hbase
    have hv : ∃ A' c', v' = .slice A' (n + m) c' := by
      rcases h2.2 with ⟨rfl, e⟩ | ⟨g, cap, cur, rfl, _⟩
      · exact ⟨none, 0, by rw [e]⟩
      · exact ⟨_, _, rfl⟩
    obtain ⟨A', c', rfl⟩ := hv
    refine ⟨A', c', w', hrun, by rw [intsOf_append]; exact h2, h.2.grown h3 hbase (fun k hk => (h.1.lt k hk).1)⟩
theorem wp_app {W w : World} {o : Oper} {a : Act} {K : Act → World → Prop} {Q : Exit → Act → World → Prop} (s x : Operand)
    (ho : o.op = .call { callee := .builtin .append, args := #[s, x], argTypes := #[30, 30] })
    {A B : Option Addr} {n c m d : Nat} {xs l : List Int} (hs : a.eval s = .slice A n c) (hx : a.eval x = .slice B m d) (h : Own W w A n c xs) (hl : Stk w B m d l) (hn : n + m ≤ 1000000)
    (hk : ∀ A' c' w', Own W w' A' (n + m) c' (xs ++ l) → K (a.put o.dst (.slice A' (n + m) c')) w') : o.wp Try.prog a w K Q := by
  obtain ⟨A', c', w', hrun, h2⟩ := run_app o.type h hl hn
  unfold Oper.wp execOp
  simp only [ho, resolve, invoke, builtin, Sem.run_bind, Sem.run_pure, Result.andThen_ok, List.map_toArray, List.map_cons, List.map_nil, hs, hx, hrun]
  exact hk A' c' w' h2
theorem wpList_app {W w : World} {ops : Array Oper} {rest : List Oper} {o : Oper} {a : Act} {Q : Exit → Act → World → Prop} (hgd : o.guard = none) (s x : Operand)
    (ho : o.op = .call { callee := .builtin .append, args := #[s, x], argTypes := #[30, 30] })
    {A B : Option Addr} {n c m d : Nat} {xs l : List Int} (hs : a.eval s = .slice A n c) (hx : a.eval x = .slice B m d) (h : Own W w A n c xs) (hl : Stk w B m d l) (hn : n + m ≤ 1000000)
    (hk : ∀ A' c' w', Own W w' A' (n + m) c' (xs ++ l) → wpList Try.prog ops Q rest (a.put o.dst (.slice A' (n + m) c')) w') : wpList Try.prog ops Q (o :: rest) a w :=
  wpList_plain hgd fun _ hK => wp_app s x ho hs hx h hl hn fun A' c' w' h2 => hK _ _ (hk A' c' w' h2)

/-- An append whose answer is known. -/
theorem wpList_apps {w w' : World} {ops : Array Oper} {rest : List Oper} {o : Oper} {a : Act} {Q : Exit → Act → World → Prop} {v : Value} (hgd : o.guard = none) (s x : Operand) (t t' : TypeId)
    (ho : o.op = .call { callee := .builtin .append, args := #[s, x], argTypes := #[t, t'] })
    (hrun : (Builtin.append_ #[t, t'] o.type #[a.eval s, a.eval x]).run Try.prog w = .ok v w')
    (hk : wpList Try.prog ops Q rest (a.put o.dst v) w') : wpList Try.prog ops Q (o :: rest) a w := by
  refine wpList_plain hgd fun _ hK => ?_
  unfold Oper.wp execOp
  simp only [ho, resolve, invoke, builtin, Sem.run_bind, Sem.run_pure, Result.andThen_ok, List.map_toArray, List.map_cons, List.map_nil, hrun]
  exact hK _ _ hk

theorem eqNil (w : World) (a : Option Addr) (n c n' c' : Nat) : (binOp .eql 30 (.slice a n c) (.slice none n' c')).run Try.prog w = .ok (.bool a.isNone) w := Lib.run_eql_slice_nil w _ _ a n c n' c' Try.underlying30

def OwnPost (w : World) (n : Nat) (l : List Int) (e : Ending) (w' : World) : Prop := ∃ A c, e = .returned (.slice A n c) ∧ Own w w' A n c l
end Go.Proofs.Ytpkfmbknbdlnpaa
