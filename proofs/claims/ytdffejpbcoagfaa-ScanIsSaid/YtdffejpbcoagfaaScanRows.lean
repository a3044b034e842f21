/-
  A row that a loop appends to, of the call's own: bytes or texts; of what was there when it began nothing has changed.
-/
import Derived.Test.YtdffejpbcoagfaaScanCalls
import Derived.Laws.OwnMore
import Derived.Laws.IdiomStrings
import Derived.OwnWalk
namespace Go.Proofs.Ytdffejpbcoagfaa
open Go.RowKit

/-- v is a row of the values L, laid since W3. -/
def RowSt (W3 : World) (e : TypeId) (L : List Value) (v : Value) (ws : World) : Prop := ws.ownsRow W3.heap.size e 1 v L.length L ∧ Below W3.heap.size W3 ws
theorem RowSt.made (W3 : World) (e : TypeId) : RowSt W3 e [] (.slice (some ⟨W3.heap.size, 0, none⟩) 0 0) (W3.alloc (.cells #[] e)) :=
  ⟨World.ownsRow_made W3 #[] 0 (Nat.le_refl _) (Nat.zero_le _) rfl, (Below.refl _ _).alloc (Nat.le_refl _) _⟩
theorem RowSt.nil (W3 : World) (e : TypeId) : RowSt W3 e [] (.slice none 0 0) W3 := ⟨World.ownsRow_nil _ _ _ _, Below.refl _ _⟩
theorem RowSt.next {W3 wr w1 : World} {e : TypeId} {L : List Value} {u v v' : Value} (h : RowSt W3 e L v wr) {o : Obj} (hown : w1.ownsRow W3.heap.size e 1 v' (L.length + 1) (L ++ [u])) (hg : (wr.alloc o).grownBy w1 v.ownBlock) : RowSt W3 e (L ++ [u]) v' w1 := by
  refine ⟨by simpa using hown, (h.2.alloc h.2.size o).grown hg (by have := h.2.size; simp; omega) (fun i hi => ?_)⟩
  rcases h.1.2 with ⟨rfl, _⟩ | ⟨g, cap, cur, rfl, hb, _⟩
  · simp [Value.ownBlock] at hi
  · simp [Value.ownBlock] at hi; subst hi; exact hb
theorem one_cell (W : World) (u : Value) (t : TypeId) : ∀ (j : Nat) (x : Value), [u][j]? = some x → (W.alloc (.cells #[u] t)).cell? (Addr.add ⟨W.heap.size, 0, none⟩ j) = some x := by
  intro j x hj
  match j, hj with
  | 0, hj => simp at hj; subst hj; simp [Addr.add]
/-- The cells of some bytes. -/
def bytOf (l : List UInt8) : List Value := l.map fun b => Value.int .u8 (b.toNat : Int)
theorem infoB : (Try.prog.info? 5).map (fun i => (i.zero, i.size, i.bytes)) = some (some (.int .u8 0), 1, 1) := by kernel_rfl
/-- A row of bytes of the call's own, as a text. -/
theorem RowSt.str {W3 w : World} {v : Value} {L : List UInt8} (h0 : RowSt W3 5 (bytOf L) v w) (T : ByteArray) (hT : T = ⟨L.toArray⟩) : (convert 42 9 v).run Try.prog w = .ok (.string T) w := by
  subst hT
  have h := h0.1
  rw [show (bytOf L).length = L.length by simp [bytOf]] at h
  rcases h.2 with ⟨e1, e2⟩ | ⟨g, cap, cur, hv, _, hg, _, _, _, htk⟩
  · obtain rfl : L = [] := List.eq_nil_of_length_eq_zero e2
    rw [e1, run_convert_bytes_string w 42 9 5 none 0 0 Try.underlying42 Try.underlying5 Try.underlying9]
    rfl
  · rw [hv]
    refine run_convert_bytes_back w 42 9 5 ⟨g, 0, none⟩ cap L Try.underlying42 Try.underlying5 Try.underlying9 (fun j hj => ?_)
    have e1 : (List.take (L.length * 1) cur.toList)[j]? = some (.int .u8 (L[j].toNat : Int)) := by rw [htk]; simp [bytOf, hj]
    rw [List.getElem?_take, if_pos (by omega)] at e1
    rw [Addr.add_lit, Nat.zero_add]
    simp only [World.cell?, hg]
    simpa using e1
end Go.Proofs.Ytdffejpbcoagfaa
