/-
  What Code answers, by package dict.
-/
import Derived.Test.YtkpomphjicoaeaaDictCalls
namespace Go.Proofs.Ytkpomphjicoaeaa
open Go.RowKit

def CodePost (l : List En) (i : Int) (w : World) (x : Ending) (w' : World) : Prop :=
  ∃ A c, x = .returned (.tuple #[.slice A (dC l i).length c, .bool (dCb l i)]) ∧ Prs w' A (dC l i).length c (dC l i) ∧ Below w.heap.size w w'
theorem dCb_out {l : List En} {i : Int} (h : ¬ (0 ≤ i ∧ i < (l.length : Int))) : dCb l i = false := by unfold dCb; rw [decide_eq_false h]; rfl
theorem dCb_in {l : List En} {q : Nat} (h : q < l.length) : dCb l (q : Int) = saneB (l.getD q e0) := by
  unfold dCb
  rw [decide_eq_true (by omega : 0 ≤ (q : Int) ∧ (q : Int) < (l.length : Int))]
  simp
theorem dC_no {l : List En} {i : Int} (h : dCb l i = false) : dC l i = [] := by unfold dC; rw [h]; rfl
theorem dC_yes {l : List En} {q : Nat} (h : dCb l (q : Int) = true) : dC l (q : Int) = cdL (l.getD q e0) := by unfold dC; rw [h]; simp
theorem getD_mem {l : List En} {q : Nat} (h : q < l.length) : l.getD q e0 ∈ l := by
  have : l.getD q e0 = l[q] := by simp [List.getD, h]
  rw [this]; exact List.getElem_mem h
theorem saneB_kind {e : En} (h : saneB e = true) : e.k = 0 ∨ e.k = 1 ∨ e.k = 2 ∨ e.k = 3 ∨ e.k = 4 := by
  unfold saneB at h
  simp only [Bool.and_eq_true] at h
  have h2 := h.2
  unfold kdB at h2
  split at h2
  · omega
  · split at h2
    · omega
    · split at h2
      · omega
      · cases h2
/-- The cells of a word at a place. -/
def Six (w : World) (b o : Nat) (e : En) : Prop := b < w.heap.size ∧ ∀ j, j < 6 → w.cell? ⟨b, o + j, none⟩ = (enV e)[j]?
section
variable {w w' : World} {b o : Nat} {e : En}
theorem Six.keep (h : Six w b o e) (hb : Below w.heap.size w w') : Six w' b o e := ⟨Nat.lt_of_lt_of_le h.1 hb.size, fun j hj => (hb.cell (p := ⟨b, o + j, none⟩) h.1).trans (h.2 j hj)⟩
theorem Six.lt (h : Six w b o e) : b < w.heap.size := h.1
theorem Six.c0 (h : Six w b o e) : w.cell? ⟨b, o, none⟩ = some (.string e.s) := h.2 0 (by decide)
theorem Six.c1 (h : Six w b o e) : w.cell? ⟨b, o + 1, none⟩ = some (.bool e.m) := h.2 1 (by decide)
theorem Six.c2 (h : Six w b o e) : w.cell? ⟨b, o + 2, none⟩ = some (.int .i64 e.k) := h.2 2 (by decide)
theorem Six.c3 (h : Six w b o e) : w.cell? ⟨b, o + 3, none⟩ = some (.int .i64 e.v) := h.2 3 (by decide)
theorem Six.c4 (h : Six w b o e) : w.cell? ⟨b, o + 4, none⟩ = some (.int .i64 e.t) := h.2 4 (by decide)
theorem Six.c5 (h : Six w b o e) : w.cell? ⟨b, o + 5, none⟩ = some (.int .i64 e.p) := h.2 5 (by decide)
theorem Ens.six {A : Option Addr} {n c : Nat} {l : List En} (h : Ens w A n c l) (q : Nat) (hq : q < n) : ∃ b o, A = some ⟨b, o, none⟩ ∧ Six w b (o + q * 6) (l.getD q e0) := by
  obtain ⟨b, o, e, hb, f0, f1, f2, f3, f4, f5⟩ := h.at_ q hq
  refine ⟨b, o, e, hb, fun j hj => ?_⟩
  match j, hj with
  | 0, _ => exact f0
  | 1, _ => exact f1
  | 2, _ => exact f2
  | 3, _ => exact f3
  | 4, _ => exact f4
  | 5, _ => exact f5
end
/-- A block of two numbers. -/
def Pa (w : World) (b : Nat) (x y : Int) : Prop := b < w.heap.size ∧ w.cell? ⟨b, 0, none⟩ = some (.int .i64 x) ∧ w.cell? ⟨b, 1, none⟩ = some (.int .i64 y)
theorem Pa.keep {w w' : World} {b : Nat} {x y : Int} (h : Pa w b x y) (hb : Below w.heap.size w w') : Pa w' b x y := ⟨Nat.lt_of_lt_of_le h.1 hb.size, (hb.cell (p := ⟨b, 0, none⟩) h.1).trans h.2.1, (hb.cell (p := ⟨b, 1, none⟩) h.1).trans h.2.2⟩
theorem Pa.new (w : World) (t : TypeId) (x y : Int) (g : Nat) (hg : w.heap.size = g) : Pa (w.alloc (.cells #[.int .i64 x, .int .i64 y] t)) g x y := by
  subst hg
  refine ⟨by simp, ?_, ?_⟩
  · rw [cell_of_row _ _ 0 _ t (0, 0) (heap_alloc_new w _)]; rfl
  · rw [cell_of_row _ _ 1 _ t (0, 0) (heap_alloc_new w _)]; rfl
theorem Prs.lit1 (w : World) (E : TypeId) (x y : Int) (g : Nat) (L : List (Int × Int)) (hg : w.heap.size = g) (hL : L = [(x, y)]) : Prs (w.alloc (.cells #[.int .i64 x, .int .i64 y] E)) (some ⟨g, 0, none⟩) L.length 1 L := by
  subst hg hL; exact Prs.new1 w E x y
theorem Prs.lit2 (w : World) (E : TypeId) (x y x' y' : Int) (g : Nat) (L : List (Int × Int)) (hg : w.heap.size = g) (hL : L = [(x, y), (x', y')]) : Prs (w.alloc (.cells #[.int .i64 x, .int .i64 y, .int .i64 x', .int .i64 y'] E)) (some ⟨g, 0, none⟩) L.length 2 L := by
  subst hg hL; exact Prs.new2 w E x y x' y'
set_option maxHeartbeats 2000000 in
theorem codeD_any (A : Option Addr) (n c : Nat) (l : List En) (i : Int) (w : World) (hs : ∀ e ∈ l, e.s.size ≤ 2000) (h : Ens w A n c l) :
    Calls Try.prog 17 #[.slice A n c, .int .i64 i] w (CodePost l i w) := by
  have hl := h.len
  by_cases h1 : i < 0
  · obtain ⟨r, hr⟩ : ∃ r, dCb l i = r := ⟨_, rfl⟩
    have hz := dCb_out (l := l) (i := i) (by omega)
    have hc := dC_no hz
    unfold CodePost
    rw [hc, hz]
    clear hr r hz hc h hs hl
    go_enter Try.func17, Try.ntmps17
    go_wp2
    go_ret2
    exact ⟨none, 0, rfl, Prs.nil, Below.refl _ _⟩
  · by_cases h2 : (n : Int) ≤ i
    · have hz := dCb_out (l := l) (i := i) (by omega)
      have hc := dC_no hz
      unfold CodePost
      rw [hc, hz]
      clear hz hc h hs hl
      go_enter Try.func17, Try.ntmps17
      go_wp2
      go_ret2
      exact ⟨none, 0, rfl, Prs.nil, Below.refl _ _⟩
    · obtain ⟨q, rfl⟩ : ∃ q : Nat, i = (q : Int) := ⟨i.toNat, by omega⟩
      have hq : q < n := by omega
      have hm := hs _ (getD_mem (q := q) (by omega))
      have hin := dCb_in (l := l) (q := q) (by omega)
      obtain ⟨xb, xo, rfl, hx⟩ := h.six q hq
      have hyes := dC_yes (l := l) (q := q)
      have hno := dC_no (l := l) (i := (q : Int))
      unfold CodePost
      generalize dC l (q : Int) = D at *
      generalize dCb l (q : Int) = r at *
      generalize l.getD q e0 = e at *
      clear h hs hl h1 h2
      obtain ⟨S, m, k, v, t, p⟩ := e
      have X0 := Lib.hid hx
      have f0 := hx.c0
      have f1 := hx.c1
      have f2 := hx.c2
      have f3 := hx.c3
      have f4 := hx.c4
      have f5 := hx.c5
      have hbl := hx.lt
      clear hx
      simp only at f0 f1 f2 f3 f4 f5
      have HS : Hid (saneB ⟨S, m, k, v, t, p⟩ = r) := Lib.hid hin.symm
      have HM : Hid (S.size ≤ 2000) := Lib.hid hm
      clear hm
      obtain ⟨y, hy⟩ : ∃ y, dP t p = y := ⟨_, rfl⟩
      have HY := Lib.hid hy
      cases r
      · obtain rfl := hno rfl
        clear hno hyes hin hy
        go_enter Try.func17, Try.ntmps17
        go_wp2_with (first
          | (go_at_call 26; refine (sane_is _ _ _ _ _ _ _ HM.out HS.out _).mono ?_; rintro e w3 ⟨rfl, hb3⟩; have HB3 := Lib.hid hb3; clear hb3))
        go_ret2
        exact ⟨none, 0, rfl, Prs.nil, HB3.out⟩
      · obtain rfl := hyes rfl
        have hk := saneB_kind hin.symm
        clear hno hyes hin hy
        simp only at hk
        have HB0 := Lib.hid (Below.refl w.heap.size w)
        rcases hk with rfl | rfl | rfl | rfl | rfl
        · go_enter Try.func17, Try.ntmps17
          go_wp2_with (first
            | (go_at_call 26; refine (sane_is _ _ _ _ _ _ _ HM.out HS.out _).mono ?_; rintro e w3 ⟨rfl, hb3⟩; have HB3 := Lib.hid hb3; have X3 := Lib.hid (X0.out.keep hb3); clear hb3 f0 f1 f2 f3 f4 f5; have f0 := X3.out.c0; have f1 := X3.out.c1; have f2 := X3.out.c2; have f3 := X3.out.c3; have f4 := X3.out.c4; have f5 := X3.out.c5; have hlt := X3.out.lt)
            | (go_at_call 24; refine (addr_is _ _ _ HY.out _).mono ?_; rintro e w4 ⟨rfl, hb4⟩; have HB4 := Lib.hid (below_then HB3.out (below_then (two_new _ _ _) hb4)); have X4 := Lib.hid (((Ev.new w3 37 ⟨S, m, 0, v, t, p⟩).alloc (.cells #[.int .i64 0, .int .i64 v] 58)).keep hb4); have P4 := Lib.hid ((Pa.new (w3.alloc (.cells #[.string S, .bool m, .int .i64 0, .int .i64 v, .int .i64 t, .int .i64 p] 37)) 58 0 v (w3.heap.size + 1) (by simp)).keep hb4); clear hb4; have q0 := X4.out.c0; have q1 := X4.out.c1; have q2 := X4.out.c2; have q3 := X4.out.c3; have q4 := X4.out.c4; have q5 := X4.out.c5; have q6 := P4.out.2.1; have q7 := P4.out.2.2; have hlt4 := X4.out.lt; have hlt5 := P4.out.1))
          go_ret2
          exact ⟨_, _, rfl, Prs.lit1 _ _ v 0 _ _ (by simp) rfl, below_then HB4.out (two_new _ _ _)⟩
        · go_enter Try.func17, Try.ntmps17
          go_wp2_with (first
            | (go_at_call 26; refine (sane_is _ _ _ _ _ _ _ HM.out HS.out _).mono ?_; rintro e w3 ⟨rfl, hb3⟩; have HB3 := Lib.hid hb3; have X3 := Lib.hid (X0.out.keep hb3); clear hb3 f0 f1 f2 f3 f4 f5; have f0 := X3.out.c0; have f1 := X3.out.c1; have f2 := X3.out.c2; have f3 := X3.out.c3; have f4 := X3.out.c4; have f5 := X3.out.c5; have hlt := X3.out.lt)
            | (go_at_call 24; refine (addr_is _ _ _ HY.out _).mono ?_; rintro e w4 ⟨rfl, hb4⟩; have HB4 := Lib.hid (below_then HB3.out (below_then (two_new _ _ _) hb4)); have X4 := Lib.hid (((Ev.new w3 37 ⟨S, m, 1, v, t, p⟩).alloc (.cells #[.int .i64 0, .int .i64 v] 58)).keep hb4); have P4 := Lib.hid ((Pa.new (w3.alloc (.cells #[.string S, .bool m, .int .i64 1, .int .i64 v, .int .i64 t, .int .i64 p] 37)) 58 0 v (w3.heap.size + 1) (by simp)).keep hb4); clear hb4; have q0 := X4.out.c0; have q1 := X4.out.c1; have q2 := X4.out.c2; have q3 := X4.out.c3; have q4 := X4.out.c4; have q5 := X4.out.c5; have q6 := P4.out.2.1; have q7 := P4.out.2.2; have hlt4 := X4.out.lt; have hlt5 := P4.out.1))
          go_ret2
          exact ⟨_, _, rfl, Prs.lit1 _ _ 3 y _ _ (by simp) (by rw [← HY.out]; rfl), below_then HB4.out (two_new _ _ _)⟩
        · go_enter Try.func17, Try.ntmps17
          go_wp2_with (first
            | (go_at_call 26; refine (sane_is _ _ _ _ _ _ _ HM.out HS.out _).mono ?_; rintro e w3 ⟨rfl, hb3⟩; have HB3 := Lib.hid hb3; have X3 := Lib.hid (X0.out.keep hb3); clear hb3 f0 f1 f2 f3 f4 f5; have f0 := X3.out.c0; have f1 := X3.out.c1; have f2 := X3.out.c2; have f3 := X3.out.c3; have f4 := X3.out.c4; have f5 := X3.out.c5; have hlt := X3.out.lt)
            | (go_at_call 24; refine (addr_is _ _ _ HY.out _).mono ?_; rintro e w4 ⟨rfl, hb4⟩; have HB4 := Lib.hid (below_then HB3.out (below_then (two_new _ _ _) hb4)); have X4 := Lib.hid (((Ev.new w3 37 ⟨S, m, 2, v, t, p⟩).alloc (.cells #[.int .i64 0, .int .i64 v] 58)).keep hb4); have P4 := Lib.hid ((Pa.new (w3.alloc (.cells #[.string S, .bool m, .int .i64 2, .int .i64 v, .int .i64 t, .int .i64 p] 37)) 58 0 v (w3.heap.size + 1) (by simp)).keep hb4); clear hb4; have q0 := X4.out.c0; have q1 := X4.out.c1; have q2 := X4.out.c2; have q3 := X4.out.c3; have q4 := X4.out.c4; have q5 := X4.out.c5; have q6 := P4.out.2.1; have q7 := P4.out.2.2; have hlt4 := X4.out.lt; have hlt5 := P4.out.1))
          go_ret2
          exact ⟨_, _, rfl, Prs.lit1 _ _ 0 v _ _ (by simp) rfl, below_then HB4.out (two_new _ _ _)⟩
        · go_enter Try.func17, Try.ntmps17
          go_wp2_with (first
            | (go_at_call 26; refine (sane_is _ _ _ _ _ _ _ HM.out HS.out _).mono ?_; rintro e w3 ⟨rfl, hb3⟩; have HB3 := Lib.hid hb3; have X3 := Lib.hid (X0.out.keep hb3); clear hb3 f0 f1 f2 f3 f4 f5; have f0 := X3.out.c0; have f1 := X3.out.c1; have f2 := X3.out.c2; have f3 := X3.out.c3; have f4 := X3.out.c4; have f5 := X3.out.c5; have hlt := X3.out.lt)
            | (go_at_call 24; refine (addr_is _ _ _ HY.out _).mono ?_; rintro e w4 ⟨rfl, hb4⟩; have HB4 := Lib.hid (below_then HB3.out (below_then (two_new _ _ _) hb4)); have X4 := Lib.hid (((Ev.new w3 37 ⟨S, m, 3, v, t, p⟩).alloc (.cells #[.int .i64 0, .int .i64 v] 58)).keep hb4); have P4 := Lib.hid ((Pa.new (w3.alloc (.cells #[.string S, .bool m, .int .i64 3, .int .i64 v, .int .i64 t, .int .i64 p] 37)) 58 0 v (w3.heap.size + 1) (by simp)).keep hb4); clear hb4; have q0 := X4.out.c0; have q1 := X4.out.c1; have q2 := X4.out.c2; have q3 := X4.out.c3; have q4 := X4.out.c4; have q5 := X4.out.c5; have q6 := P4.out.2.1; have q7 := P4.out.2.2; have hlt4 := X4.out.lt; have hlt5 := P4.out.1))
          go_ret2
          exact ⟨_, _, rfl, Prs.lit1 _ _ 0 v _ _ (by simp) rfl, below_then HB4.out (two_new _ _ _)⟩
        · go_enter Try.func17, Try.ntmps17
          go_wp2_with (first
            | (go_at_call 26; refine (sane_is _ _ _ _ _ _ _ HM.out HS.out _).mono ?_; rintro e w3 ⟨rfl, hb3⟩; have HB3 := Lib.hid hb3; have X3 := Lib.hid (X0.out.keep hb3); clear hb3 f0 f1 f2 f3 f4 f5; have f0 := X3.out.c0; have f1 := X3.out.c1; have f2 := X3.out.c2; have f3 := X3.out.c3; have f4 := X3.out.c4; have f5 := X3.out.c5; have hlt := X3.out.lt)
            | (go_at_call 24; refine (addr_is _ _ _ HY.out _).mono ?_; rintro e w4 ⟨rfl, hb4⟩; have HB4 := Lib.hid (below_then HB3.out (below_then (two_new _ _ _) hb4)); have X4 := Lib.hid (((Ev.new w3 37 ⟨S, m, 4, v, t, p⟩).alloc (.cells #[.int .i64 0, .int .i64 v] 58)).keep hb4); have P4 := Lib.hid ((Pa.new (w3.alloc (.cells #[.string S, .bool m, .int .i64 4, .int .i64 v, .int .i64 t, .int .i64 p] 37)) 58 0 v (w3.heap.size + 1) (by simp)).keep hb4); clear hb4; have q0 := X4.out.c0; have q1 := X4.out.c1; have q2 := X4.out.c2; have q3 := X4.out.c3; have q4 := X4.out.c4; have q5 := X4.out.c5; have q6 := P4.out.2.1; have q7 := P4.out.2.2; have hlt4 := X4.out.lt; have hlt5 := P4.out.1))
          go_ret2
          exact ⟨_, _, rfl, Prs.lit2 _ _ 0 v 3 y _ _ (by simp) (by rw [← HY.out]; rfl), below_then HB4.out (two_new _ _ _)⟩
end Go.Proofs.Ytkpomphjicoaeaa
