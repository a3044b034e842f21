/-
  Contracts of package dict's calls with letters for what they answer, and what the statements ask of these.
-/
import Derived.Test.YtkpomphjicoaeaaDictAwake
import Derived.Test.YtkpomphjicoaeaaDictLoops
import Derived.Deep.RegionHeld3
namespace Go.Proofs.Ytkpomphjicoaeaa
open Go.RowKit

def AddAt (N : Nat) (M : List En) (f : Int) (w : World) (x : Ending) (w' : World) : Prop := ∃ A c, x = .returned (.tuple #[.slice A N c, .int .i64 f]) ∧ Ens w' A N c M ∧ Below w.heap.size w w'
theorem add_at (A : Option Addr) (n c : Nat) (l : List En) (S : ByteArray) (m : Bool) (k v t p : Int) (N : Nat) (M : List En) (f : Int) (w : World) (hn : n ≤ 90000) (hs : S.size ≤ 2000) (h : Ens w A n c l)
    (hf : adE l ⟨S, m, k, v, t, p⟩ = f) (hM : adL l ⟨S, m, k, v, t, p⟩ = M) (hN : M.length = N) :
    Calls Try.prog 14 #[.slice A n c, .agg #[.string S, .bool m, .int .i64 k, .int .i64 v, .int .i64 t, .int .i64 p]] w (AddAt N M f w) := by
  subst hf hM hN
  exact add_any A n c l S m k v t p w hn hs h
theorem find_at (A : Option Addr) (n c : Nat) (l : List En) (S : ByteArray) (i : Int) (b : Bool) (w : World) (hn : n ≤ 100000) (hs : S.size ≤ 2000) (h : Ens w A n c l) (hi : dV (dF l S) = i) (hb : (dF l S).isSome = b) :
    Calls Try.prog 11 #[.slice A n c, .string S] w fun e w' => e = .returned (.tuple #[.int .i64 i, .bool b]) ∧ Below w.heap.size w w' := by
  subst hi hb
  exact find_any A n c l S _ w hn hs h rfl
def CodeAt (N : Nat) (D : List (Int × Int)) (b : Bool) (w : World) (x : Ending) (w' : World) : Prop := ∃ A c, x = .returned (.tuple #[.slice A N c, .bool b]) ∧ Prs w' A N c D ∧ Below w.heap.size w w'
theorem code_at (A : Option Addr) (n c : Nat) (l : List En) (i : Int) (N : Nat) (D : List (Int × Int)) (b : Bool) (w : World) (hs : ∀ e ∈ l, e.s.size ≤ 2000) (h : Ens w A n c l) (hb : dCb l i = b) (hD : dC l i = D) (hN : D.length = N) :
    Calls Try.prog 17 #[.slice A n c, .int .i64 i] w (CodeAt N D b w) := by
  subst hb hD hN
  exact codeD_any A n c l i w hs h
theorem few_size {l : List En} (h : fewB l = true) : ∀ e ∈ l, e.s.size ≤ 100 := by
  unfold fewB at h
  simp only [Bool.and_eq_true, List.all_eq_true, decide_eq_true_eq] at h
  exact h.1
theorem few_len {l : List En} (h : fewB l = true) : l.length ≤ 600 := by
  unfold fewB at h
  simp only [Bool.and_eq_true, decide_eq_true_eq] at h
  exact h.2
/-- The cells of a word's block, and that of what was there nothing has changed. -/
def SixB (W : World) (b : Nat) (e : En) (w : World) : Prop := Below W.heap.size W w ∧ w.cell? ⟨b, 0, none⟩ = some (.string e.s) ∧ w.cell? ⟨b, 1, none⟩ = some (.bool e.m) ∧ w.cell? ⟨b, 2, none⟩ = some (.int .i64 e.k) ∧ w.cell? ⟨b, 3, none⟩ = some (.int .i64 e.v) ∧ w.cell? ⟨b, 4, none⟩ = some (.int .i64 e.t) ∧ w.cell? ⟨b, 5, none⟩ = some (.int .i64 e.p)
theorem sixB {W w : World} {b : Nat} {t : TypeId} {e : En} (X : Ev W b t e) (h : Below W.heap.size W w) : SixB W b e w :=
  ⟨h, (X.keep h).c0, (X.keep h).c1, (X.keep h).c2, (X.keep h).c3, (X.keep h).c4, (X.keep h).c5⟩
theorem ad_bad {l : List En} {e : En} (h : nmB e.s = false) : adE l e = -16 := by unfold adE; rw [if_pos h]
theorem ad_host {l : List En} {e : En} (h : nmB e.s = true) (h2 : saneB (aU e) = false) : adE l e = -21 := by unfold adE; rw [if_neg (by rw [h]; decide), if_pos h2]
theorem ad_full {l : List En} {e : En} (h : nmB e.s = true) (h2 : saneB (aU e) = true) (h3 : 512 ≤ l.length) : adE l e = -8 := by unfold adE; rw [if_neg (by rw [h]; decide), if_neg (by rw [h2]; decide), if_pos h3]
theorem ad_ok {l : List En} {e : En} (h : nmB e.s = true) (h2 : saneB (aU e) = true) (h3 : l.length < 512) : adE l e = 0 := by unfold adE; rw [if_neg (by rw [h]; decide), if_neg (by rw [h2]; decide), if_neg (by omega)]
theorem adL_no {l : List En} {e : En} (h : adE l e ≠ 0) : adL l e = l := by unfold adL; rw [if_neg h]
theorem adL_yes {l : List En} {e : En} (h : adE l e = 0) : adL l e = l ++ [aU e] := by unfold adL; rw [if_pos h]
end Go.Proofs.Ytkpomphjicoaeaa
