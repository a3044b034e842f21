/-
  An element of a row of the call's own is written anew.
-/
import Derived.Test.YtpkjepbeeebdoaaDoorAnyRows
namespace Go.Proofs.YtpkjepbeeebdoaaDoor
open Go.RowKit

variable {α : Type} {K : Kd α}
/-- Some values, written from a place on. -/
def setM (xs : List Value) (j : Nat) : List Value → List Value
  | [] => xs
  | v :: vs => setM (xs.set j v) (j + 1) vs
def setW (w : World) (g j : Nat) : List Value → World
  | [] => w
  | v :: vs => setW (w.setCell ⟨g, j, none⟩ v) g (j + 1) vs
theorem setM_mid (a b c vs : List Value) (h : vs.length = b.length) : setM (a ++ (b ++ c)) a.length vs = a ++ (vs ++ c) := by
  induction vs generalizing a b with
  | nil =>
    have : b = [] := List.eq_nil_of_length_eq_zero h.symm
    subst this
    rfl
  | cons v vs ih =>
    cases b with
    | nil => simp at h
    | cons y b =>
      have e : (a ++ (y :: b ++ c)).set a.length v = (a ++ [v]) ++ (b ++ c) := by simp
      show setM ((a ++ (y :: b ++ c)).set a.length v) (a.length + 1) vs = _
      rw [e, show a.length + 1 = (a ++ [v]).length by simp, ih (a ++ [v]) b (by simpa using h)]
      simp
theorem all_set (l : List α) (q : Nat) (hq : q < l.length) (x : α) : setM (K.all l) (q * K.k) (K.v x) = K.all (l.set q x) := by
  have e1 : l = l.take q ++ (l[q] :: l.drop (q + 1)) := by rw [List.getElem_cons_drop hq, List.take_append_drop]
  have e2 : l.set q x = l.take q ++ (x :: l.drop (q + 1)) := by
    rw [List.set_eq_take_append_cons_drop, if_pos hq]
  have e3 : q * K.k = (K.all (l.take q)).length := by rw [Kd.all_length, List.length_take, Nat.min_eq_left (Nat.le_of_lt hq)]
  rw [e2, e3, Kd.all_append, Kd.all_cons]
  have e4 : K.all l = K.all (l.take q) ++ (K.v l[q] ++ K.all (l.drop (q + 1))) := by
    have := congrArg K.all e1
    rw [Kd.all_append, Kd.all_cons] at this
    exact this
  rw [e4]
  exact setM_mid _ _ _ _ (by rw [K.len, K.len])
theorem own_cell {w : World} {B : Nat} {e : TypeId} {size : Nat} {g n c : Nat} {xs : List Value} (h : w.ownsRow B e size (.slice (some ⟨g, 0, none⟩) n c) n xs) (j : Nat) (u : Value) :
    (w.setCell ⟨g, j, none⟩ u).ownsRow B e size (.slice (some ⟨g, 0, none⟩) n c) n (xs.set j u) := by
  refine ⟨by rw [List.length_set]; exact h.1, ?_⟩
  rcases h.2 with ⟨h0, _⟩ | ⟨g', cap, cur, hv, hb, hc, hn, hm, hs, ht⟩
  · cases h0
  · injection hv with h1 h2 h3
    injection h1 with h1
    injection h1 with h1 _ _
    subst h1 h3
    refine .inr ⟨g, c, cur.setIfInBounds j u, rfl, hb, ?_, hn, hm, by simpa using hs, ?_⟩
    · simp [World.setCell, Array.getElem?_modify, hc]
    · rw [← ht]
      simp [List.take_set]
/-- One is written anew. -/
theorem OwnR.put {w : World} {B : Nat} {E : TypeId} {g n c : Nat} {l : List α} (h : OwnR K E B w (some ⟨g, 0, none⟩) n c l) (q : Nat) (hq : q < n) (hl : l.length = n) (x : α) :
    OwnR K E B (setW w g (q * K.k) (K.v x)) (some ⟨g, 0, none⟩) n c (l.set q x) := by
  unfold OwnR at h ⊢
  rw [← all_set l q (by omega) x]
  have hle : q * K.k + (K.v x).length ≤ n * K.k := by rw [K.len, ← Nat.succ_mul]; exact Nat.mul_le_mul_right _ hq
  revert h
  generalize K.all l = xs
  generalize q * K.k = j at hle ⊢
  generalize K.v x = vs at hle ⊢
  intro h
  induction vs generalizing w xs j with
  | nil => exact h
  | cons v vs ih =>
    simp only [List.length_cons] at hle
    exact ih _ (j + 1) (by omega) (own_cell h j v)
theorem setW_below {B : Nat} {a w : World} (h : Below B a w) {g : Nat} (hg : B ≤ g) (j : Nat) (vs : List Value) : Below B a (setW w g j vs) := by
  induction vs generalizing w j with
  | nil => exact h
  | cons v vs ih => exact ih (h.setCell (by exact hg) v) (j + 1)
/-- What a store asks for: there are such cells, and none is frozen. -/
theorem OwnR.free {w : World} {B : Nat} {E : TypeId} {A : Option Addr} {n c : Nat} {l : List α} (h : OwnR K E B w A n c l) (hn : 0 < n) : ∃ g, A = some ⟨g, 0, none⟩ ∧ B ≤ g ∧ g < w.heap.size ∧ ∀ j, w.frozen? ⟨g, j, none⟩ = false := by
  rcases h.2 with ⟨h0, h1⟩ | ⟨g', cap, cur, hv, hb, hc, _⟩
  · omega
  · injection hv with h1 h2 h3
    refine ⟨g', h1, hb, (Array.getElem?_eq_some_iff.1 hc).1, fun j => ?_⟩
    simp [World.frozen?, hc]
end Go.Proofs.YtpkjepbeeebdoaaDoor
