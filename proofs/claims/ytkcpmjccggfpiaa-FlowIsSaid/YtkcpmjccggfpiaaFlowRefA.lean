/-
  What the document's own calls answer: append onto a new row of pairs; more, out, resolve, less, top, own of a thread.
-/
import Derived.Test.YtkcpmjccggfpiaaFlowRdeep
import Derived.Test.YtkcpmjccggfpiaaFlowFacts
import Derived.Deep.AppendSrc
import Derived.Laws.Runes
namespace Go.Proofs.Ytkcpmjccggfpiaa
open Go.RowKit

theorem run_app0P {T E : TypeId} (pt : PT T E) {w : World} {g : Nat} {B : Option Addr} {m d : Nat} {l : List (Int × Int)} (ty : TypeId) (hs : Prs w B m d l) (hm : m ≤ 100000) :
    ∃ A' c' w', (Builtin.append_ #[T, T] ty #[.slice (some ⟨g, 0, none⟩) 0 0, .slice B m d]).run Try.prog w = .ok (.slice A' m c') w' ∧ Prs w' A' m c' l ∧ Below w.heap.size w w' := by
  obtain ⟨i, hi, hz0, hz1, hz2⟩ := info_parts pt.info
  have hsrc : _root_.Go.Src Try.prog i.size T (.slice B m d) m (prsOf l) w := by
    cases B with
    | none =>
      obtain ⟨rfl, rfl, rfl⟩ := hs.none_
      exact _root_.Go.Src.ofNil w pt.under 0
    | some a => exact _root_.Go.Src.ofSlice w pt.under a m d (prsOf l) (by rw [prsOf_length, hs.1, hz1]) hs.src (prsOf_one l)
  rcases Nat.eq_zero_or_pos m with h0 | h0
  · subst h0
    obtain rfl : l = [] := List.eq_nil_of_length_eq_zero hs.1
    have h := run_append_room_src (P := Try.prog) w T T ty E i pt.under hi g 0 0 0 (.slice B 0 d) 0 (prsOf []) hsrc (Nat.le_refl _) (fun j hj => by simp [prsOf] at hj) (fun j hj => by simp [prsOf] at hj)
    refine ⟨_, _, _, h, ⟨rfl, Nat.le_refl _, fun h => absurd h (by omega), fun h => by cases h⟩, ?_⟩
    exact Below.refl _ _
  · have h := run_append_grow_src (P := Try.prog) w T T ty E i (.agg #[.int .i64 0, .int .i64 0]) pt.under hi hz0 (some ⟨g, 0, none⟩) 0 0 [] (run_firstCells_some w.drew i.size 0 ⟨g, 0, none⟩ 0 0 [] (by simp) (fun j v hv => by simp at hv)) (.slice B m d) m (prsOf l) hsrc (by omega) (by omega)
      (by rw [Nat.zero_add, nextslicecap_zero h0, hz2]; omega)
    rw [Nat.zero_add] at h
    have hge := grownCap_ge w m 0 E
    have hle := grownCap_le_maxLen w m 0 E (by unfold maxLen; omega)
    refine ⟨_, _, _, h, Prs.of_own (base := w.heap.size) (e := E) ⟨by rw [prsOf_length, hs.1], .inr ⟨w.heap.size, _, _, rfl, Nat.le_refl _, heap_alloc_new w.drew _, hge, hle, ?_, ?_⟩⟩, ((Below.refl _ w).drew).alloc (Nat.le_refl _) _⟩
    · simp [Builtin.zeroCells, Value.cells, prsOf_length, hs.1]
      omega
    · have e : (prsOf l).length = m * 2 := by rw [prsOf_length, hs.1]
      simp [Builtin.zeroCells, Value.cells, ← e]
theorem step_app0P {T E : TypeId} (pt : PT T E) {w : World} {ops : Array Oper} {o : Oper} {a : Act} {K : Act → World → Prop} {Q : Exit → Act → World → Prop} {E' : Prop} (hgd : o.guard = none) (s x : Operand)
    (ho : o.op = .call { callee := .builtin .append, args := #[s, x], argTypes := #[T, T] })
    {B : Option Addr} {g m d : Nat} {l : List (Int × Int)} (hs : a.eval s = .slice (some ⟨g, 0, none⟩) 0 0) (hx : a.eval x = .slice B m d) (hl : Prs w B m d l) (hn : m ≤ 100000)
    (hk : ∀ A' c' w', Prs w' A' m c' l → Below w.heap.size w w' → K (a.put o.dst (.slice A' m c')) w') : if Region.wanted o (yielded ops a.tmps) = true then Oper.wp Try.prog o a w K Q else E' := by
  have hw : Region.wanted o (yielded ops a.tmps) = true := by simp [Region.wanted, hgd]
  rw [if_pos hw]
  obtain ⟨A', c', w', hrun, h2, h3⟩ := run_app0P (g := g) pt o.type hl hn
  unfold Oper.wp execOp
  simp only [ho, resolve, invoke, builtin, Sem.run_bind, Sem.run_pure, Result.andThen_ok, List.map_toArray, List.map_cons, List.map_nil, hs, hx, hrun]
  exact hk A' c' w' h2 h3
theorem own_nil' {E : TypeId} {W w : World} {A : Option Addr} {n c : Nat} {l : List (Int × Int)} (h : OwnP E W w A (0 + n) c ([] ++ l)) : OwnP E W w A n c l := by
  rw [Nat.zero_add, List.nil_append] at h
  exact h
set_option maxHeartbeats 1000000 in
theorem rmore_any (A B C : Option Addr) (n c m d k f : Nat) (b : Bd) (u v : Int) (w : World) (hF : Few 50000 b) (h : Bl w A n c B m d C k f b) :
    Calls Try.prog 57 #[.agg #[.slice A n c, .slice B m d, .slice C k f], .int .i64 u, .int .i64 v] w (BdPost w (markB b u v)) := by
  obtain ⟨hn, hm, hk⟩ := h.ns hF
  have LC := Lib.hid h.1.len
  have LM := Lib.hid h.2.1.len
  have LO := Lib.hid h.2.2.len
  have H := Lib.hid h
  clear h hF
  have X1 := Lib.hid ((Bx.new w 25 (.slice A n c) (.slice B m d) (.slice C k f)).alloc (.cells #[.slice none 0 0, .slice none 0 0, .slice none 0 0] 25))
  have X2 := Lib.hid (Bx.new2 w (.cells #[.slice A n c, .slice B m d, .slice C k f] 25) 25 (.slice none 0 0) (.slice none 0 0) (.slice none 0 0))
  have HB := Lib.hid (below_two w (.cells #[.slice A n c, .slice B m d, .slice C k f] 25) (.cells #[.slice none 0 0, .slice none 0 0, .slice none 0 0] 25))
  go_enter Try.func57, Try.ntmps57
  go_upto_region 1 with (fail)
  generalize (w.alloc (.cells #[.slice A n c, .slice B m d, .slice C k f] 25)).alloc (.cells #[.slice none 0 0, .slice none 0 0, .slice none 0 0] 25) = W at *
  have hg1 : w.heap.size < W.heap.size := X1.out.lt
  have hg2 : w.heap.size + 1 < W.heap.size := X2.out.lt
  have HL := Lib.hid (H.out.below HB.out)
  have a0 := X1.out.c0; have a1 := X1.out.c1; have a2 := X1.out.c2; have af0 := X1.out.f0; have af1 := X1.out.f1; have af2 := X1.out.f2
  have z0 := X2.out.c0; have z1 := X2.out.c1; have z2 := X2.out.c2; have zf0 := X2.out.f0; have zf1 := X2.out.f1; have zf2 := X2.out.f2
  go_upto_region 2 with ((at_builtin; refine wpList_app ptM (W := W) rfl (.tmp 8) (.tmp 10) rfl rfl rfl (OwnP.made _ _) (HL.out.pm.alloc _) (by omega) ?_; intro A3 c3 w3 hw3 _; have HW3 := Lib.hid (own_nil' hw3); clear hw3; have Y1 := Lib.hid (X1.out.keep HW3.out.below); have Y2 := Lib.hid (X2.out.keep HW3.out.below); clear a0 a1 a2 af0 af1 af2 z0 z1 z2 zf0 zf1 zf2; have a0 := Y1.out.c0; have a1 := Y1.out.c1; have a2 := Y1.out.c2; have af0 := Y1.out.f0; have af1 := Y1.out.f1; have af2 := Y1.out.f2; have z0 := Y2.out.c0; have z1 := Y2.out.c1; have z2 := Y2.out.c2; have zf0 := Y2.out.f0; have zf1 := Y2.out.f1; have zf2 := Y2.out.f2))
  go_upto_region 3 with ((at_builtin; refine wpList_app ptM (W := W) rfl (.tmp 12) (.tmp 16) rfl rfl rfl ⟨row_alloc HW3.out.1 _, HW3.out.below.alloc HW3.out.below.size _⟩ (Prs.new1 _ _ u v) (by omega) ?_; intro A4 c4 w4 hw4 _; have HW4 := Lib.hid hw4; clear hw4; have Z1 := Lib.hid (X1.out.keep HW4.out.below); have Z2 := Lib.hid (X2.out.keep HW4.out.below); clear a0 a1 a2 af0 af1 af2 z0 z1 z2 zf0 zf1 zf2; have a0 := Z1.out.c0; have a1 := Z1.out.c1; have a2 := Z1.out.c2; have af0 := Z1.out.f0; have af1 := Z1.out.f1; have af2 := Z1.out.f2; have z0 := Z2.out.c0; have z1 := Z2.out.c1; have z2 := Z2.out.c2; have zf0 := Z2.out.f0; have zf1 := Z2.out.f1; have zf2 := Z2.out.f2))
  have hz2 := Z2.out.lt
  go_wp2
  have hl := HL.out.below HW4.out.below
  refine bodyPost_ret (v := .agg #[.slice A n c, .slice A4 (m+1) c4, .slice C k f]) (by simp [results, Try.results57, go_sem, z0, z1, z2] <;> rfl) rfl (bd_fin (b' := markB b u v) (Bl.set3 ⟨hl.pc, HW4.out.prs, hl.po⟩ Z2.out) (below_set3 (below_then HB.out HW4.out.below) (by simp) _ _ _) rfl)
set_option maxHeartbeats 1000000 in
theorem rout_any (A B C : Option Addr) (n c m d k f : Nat) (b : Bd) (v : Int) (w : World) (hF : Few 50000 b) (h : Bl w A n c B m d C k f b) :
    Calls Try.prog 58 #[.agg #[.slice A n c, .slice B m d, .slice C k f], .int .i64 v] w (BdPost w (outB b v)) := by
  obtain ⟨hn, hm, hk⟩ := h.ns hF
  have LC := Lib.hid h.1.len
  have LM := Lib.hid h.2.1.len
  have LO := Lib.hid h.2.2.len
  have H := Lib.hid h
  clear h hF
  have X1 := Lib.hid ((Bx.new w 25 (.slice A n c) (.slice B m d) (.slice C k f)).alloc (.cells #[.slice none 0 0, .slice none 0 0, .slice none 0 0] 25))
  have X2 := Lib.hid (Bx.new2 w (.cells #[.slice A n c, .slice B m d, .slice C k f] 25) 25 (.slice none 0 0) (.slice none 0 0) (.slice none 0 0))
  have HB := Lib.hid (below_two w (.cells #[.slice A n c, .slice B m d, .slice C k f] 25) (.cells #[.slice none 0 0, .slice none 0 0, .slice none 0 0] 25))
  go_enter Try.func58, Try.ntmps58
  go_upto_region 1 with (fail)
  generalize (w.alloc (.cells #[.slice A n c, .slice B m d, .slice C k f] 25)).alloc (.cells #[.slice none 0 0, .slice none 0 0, .slice none 0 0] 25) = W at *
  have hg1 : w.heap.size < W.heap.size := X1.out.lt
  have hg2 : w.heap.size + 1 < W.heap.size := X2.out.lt
  have HL := Lib.hid (H.out.below HB.out)
  have a0 := X1.out.c0; have a1 := X1.out.c1; have a2 := X1.out.c2; have af0 := X1.out.f0; have af1 := X1.out.f1; have af2 := X1.out.f2
  have z0 := X2.out.c0; have z1 := X2.out.c1; have z2 := X2.out.c2; have zf0 := X2.out.f0; have zf1 := X2.out.f1; have zf2 := X2.out.f2
  go_upto_region 2 with ((at_builtin; refine wpList_app ptM (W := W) rfl (.tmp 6) (.tmp 8) rfl rfl rfl (OwnP.made _ _) (HL.out.po.alloc _) (by omega) ?_; intro A3 c3 w3 hw3 _; have HW3 := Lib.hid (own_nil' hw3); clear hw3; have Y1 := Lib.hid (X1.out.keep HW3.out.below); have Y2 := Lib.hid (X2.out.keep HW3.out.below); clear a0 a1 a2 af0 af1 af2 z0 z1 z2 zf0 zf1 zf2; have a0 := Y1.out.c0; have a1 := Y1.out.c1; have a2 := Y1.out.c2; have af0 := Y1.out.f0; have af1 := Y1.out.f1; have af2 := Y1.out.f2; have z0 := Y2.out.c0; have z1 := Y2.out.c1; have z2 := Y2.out.c2; have zf0 := Y2.out.f0; have zf1 := Y2.out.f1; have zf2 := Y2.out.f2))
  go_upto_region 3 with (first
    | (at_builtin; refine wpList_app ptM (W := W) rfl (.tmp 10) (.tmp 15) rfl rfl rfl ⟨row_alloc HD.out.1 _, HD.out.2.alloc HD.out.2.size _⟩ (Prs.new1 _ _ _ v) (by omega) ?_; intro A4 c4 w4 hw4 _; have HW4 := Lib.hid hw4; clear hw4; have Z1 := Lib.hid (X1.out.keep HW4.out.below); have Z2 := Lib.hid (X2.out.keep HW4.out.below); clear a0 a1 a2 af0 af1 af2 z0 z1 z2 zf0 zf1 zf2; have a0 := Z1.out.c0; have a1 := Z1.out.c1; have a2 := Z1.out.c2; have af0 := Z1.out.f0; have af1 := Z1.out.f1; have af2 := Z1.out.f2; have z0 := Z2.out.c0; have z1 := Z2.out.c1; have z2 := Z2.out.c2; have zf0 := Z2.out.f0; have zf1 := Z2.out.f1; have zf2 := Z2.out.f2)
    | (go_at_call 25; refine (rdeep_any _ _ _ _ _ _ _ _ _ b.marks _ (by omega) (HL.out.pm.below HW3.out.below)).mono ?_; rintro e wd ⟨rfl, hbd⟩; have HD : Hid (OwnP 57 W wd A3 k c3 b.outs) := Lib.hid ⟨row_keep2 HW3.out.1 (fun g _ hg => hbd.block g hg), below_then HW3.out.below hbd⟩; clear hbd; have V1 := Lib.hid (X1.out.keep HD.out.2); have V2 := Lib.hid (X2.out.keep HD.out.2); clear a0 a1 a2 af0 af1 af2 z0 z1 z2 zf0 zf1 zf2; have a0 := V1.out.c0; have a1 := V1.out.c1; have a2 := V1.out.c2; have af0 := V1.out.f0; have af1 := V1.out.f1; have af2 := V1.out.f2; have z0 := V2.out.c0; have z1 := V2.out.c1; have z2 := V2.out.c2; have zf0 := V2.out.f0; have zf1 := V2.out.f1; have zf2 := V2.out.f2))
  have hz2 := Z2.out.lt
  go_wp2
  have hl := HL.out.below HW4.out.below
  refine bodyPost_ret (v := .agg #[.slice A n c, .slice B m d, .slice A4 (k+1) c4]) (by simp [results, Try.results58, go_sem, z0, z1, z2] <;> rfl) rfl (bd_fin (b' := outB b v) (Bl.set3 ⟨hl.pc, hl.pm, HW4.out.prs⟩ Z2.out) (below_set3 (below_then HB.out HW4.out.below) (by simp) _ _ _) rfl)
theorem prsOf_set2 (l : List (Int × Int)) (q : Nat) (u v : Int) (hq : q < l.length) : ((prsOf l).set (q * 2) (.int .i64 u)).set (q * 2 + 1) (.int .i64 v) = prsOf (l.set q (u, v)) := by
  induction l generalizing q with
  | nil => simp at hq
  | cons p l ih =>
    cases q with
    | zero => rfl
    | succ q =>
      have := ih q (by simpa using hq)
      rw [prsOf_cons, show (q + 1) * 2 + 1 = q * 2 + 1 + 1 + 1 by omega, show (q + 1) * 2 = q * 2 + 1 + 1 by omega, List.set_cons_succ, List.set_cons_succ, List.set_cons_succ, List.set_cons_succ, this, List.set_cons_succ, prsOf_cons]
theorem own_set2 {w : World} {B0 : Nat} {E : TypeId} {A : Option Addr} {n c : Nat} {l : List (Int × Int)} (h : w.ownsRow B0 E 2 (.slice A n c) n (prsOf l)) (q : Nat) (hq : q < n) (v : Int) :
    ∃ g y, A = some ⟨g, 0, none⟩ ∧ B0 ≤ g ∧ g < w.heap.size ∧ w.cell? ⟨g, q * 2, none⟩ = some (.int .i64 (l.getD q (0, 0)).1) ∧ w.cell? ⟨g, q * 2 + 1, none⟩ = some (.int .i64 y) ∧ w.frozen? ⟨g, q * 2, none⟩ = false ∧ w.frozen? ⟨g, q * 2 + 1, none⟩ = false ∧
      ∀ u : Int, ((w.setCell ⟨g, q * 2, none⟩ (.int .i64 u)).setCell ⟨g, q * 2 + 1, none⟩ (.int .i64 v)).ownsRow B0 E 2 (.slice A n c) n (prsOf (l.set q (u, v))) := by
  have hl : l.length = n := by have := h.1; rw [prsOf_length] at this; omega
  rcases h.2 with ⟨_, e⟩ | ⟨g, cap, cur, hv, hb, hg, hnc, hcm, hsz, htk⟩
  · omega
  · injection hv with h1 h2 h3
    subst h1 h3
    have hp := (Prs.of_own h).at_ q hq
    obtain ⟨b, o, e, hbl, c0, c1⟩ := hp
    cases e
    refine ⟨g, _, rfl, hb, hbl, by rw [← Nat.zero_add (q * 2)]; exact c0, by rw [← Nat.zero_add (q * 2)]; exact c1, by simp [World.frozen?, hg], by simp [World.frozen?, hg], fun u => ?_⟩
    refine ⟨by rw [prsOf_length, List.length_set, hl], .inr ⟨g, _, (cur.setIfInBounds (q * 2) (.int .i64 u)).setIfInBounds (q * 2 + 1) (.int .i64 v), rfl, hb, ?_, hnc, hcm, by simpa using hsz, ?_⟩⟩
    · simp [World.setCell, Array.getElem?_modify, hg]
    · rw [Array.toList_setIfInBounds, Array.toList_setIfInBounds, take_set_lt, take_set_lt, htk, prsOf_set2 _ _ _ _ (by omega)]
set_option maxHeartbeats 1000000 in
theorem rresolve_any (A B C : Option Addr) (n c m d k f : Nat) (b : Bd) (q : Nat) (w : World) (hF : Few 50000 b) (hq : q < b.code.length) (h : Bl w A n c B m d C k f b) :
    Calls Try.prog 60 #[.agg #[.slice A n c, .slice B m d, .slice C k f], .int .i64 q] w (BdPost w (resB b [(q : Int)])) := by
  obtain ⟨hn, hm, hk⟩ := h.ns hF
  have LC := Lib.hid h.1.len
  have LM := Lib.hid h.2.1.len
  have LO := Lib.hid h.2.2.len
  have H := Lib.hid h
  clear h hF
  have X1 := Lib.hid ((Bx.new w 25 (.slice A n c) (.slice B m d) (.slice C k f)).alloc (.cells #[.slice none 0 0, .slice none 0 0, .slice none 0 0] 25))
  have X2 := Lib.hid (Bx.new2 w (.cells #[.slice A n c, .slice B m d, .slice C k f] 25) 25 (.slice none 0 0) (.slice none 0 0) (.slice none 0 0))
  have HB := Lib.hid (below_two w (.cells #[.slice A n c, .slice B m d, .slice C k f] 25) (.cells #[.slice none 0 0, .slice none 0 0, .slice none 0 0] 25))
  go_enter Try.func60, Try.ntmps60
  go_upto_region 1 with (fail)
  generalize (w.alloc (.cells #[.slice A n c, .slice B m d, .slice C k f] 25)).alloc (.cells #[.slice none 0 0, .slice none 0 0, .slice none 0 0] 25) = W at *
  have hg1 : w.heap.size < W.heap.size := X1.out.lt
  have hg2 : w.heap.size + 1 < W.heap.size := X2.out.lt
  have HL := Lib.hid (H.out.below HB.out)
  have a0 := X1.out.c0; have a1 := X1.out.c1; have a2 := X1.out.c2; have af0 := X1.out.f0; have af1 := X1.out.f1; have af2 := X1.out.f2
  have z0 := X2.out.c0; have z1 := X2.out.c1; have z2 := X2.out.c2; have zf0 := X2.out.f0; have zf1 := X2.out.f1; have zf2 := X2.out.f2
  have hqn : q < n := by rw [← LC.out]; exact hq
  have hq0 : (0 : Int) ≤ (q : Int) := by omega
  have hq1 : (q : Int) < (n : Int) := by omega
  go_upto_region 2 with ((at_builtin; refine wpList_app ptI (W := W) rfl (.tmp 6) (.tmp 8) rfl rfl rfl (OwnP.made _ _) (HL.out.pc.alloc _) (by omega) ?_; intro A3 c3 w3 hw3 _; have HW3 := Lib.hid (own_nil' hw3); clear hw3; have Y1 := Lib.hid (X1.out.keep HW3.out.below); have Y2 := Lib.hid (X2.out.keep HW3.out.below); clear a0 a1 a2 af0 af1 af2 z0 z1 z2 zf0 zf1 zf2; have a0 := Y1.out.c0; have a1 := Y1.out.c1; have a2 := Y1.out.c2; have af0 := Y1.out.f0; have af1 := Y1.out.f1; have af2 := Y1.out.f2; have z0 := Y2.out.c0; have z1 := Y2.out.c1; have z2 := Y2.out.c2; have zf0 := Y2.out.f0; have zf1 := Y2.out.f1; have zf2 := Y2.out.f2))
  obtain ⟨g, y, rfl, hgb, hgl, e0, e1, ef0, ef1, hO2⟩ := own_set2 HW3.out.1 q hqn (n : Int)
  have HO := Lib.hid (hO2 (b.code.getD q (0, 0)).1)
  have HQ : Hid (b.code.set q ((b.code.getD q (0, 0)).1, (n : Int)) = (resB b [(q : Int)]).code) := Lib.hid (by unfold resB flRes flSet; simp [LC.out])
  clear hO2
  generalize (b.code.getD q (0, 0)).1 = x at *
  have hne1 : ¬ g = w.heap.size := by omega
  have hne2 : ¬ g = w.heap.size + 1 := by omega
  go_upto_region 3 with (fail)
  have WB := Lib.hid ((HW3.out.below.setCell (p := ⟨g, q * 2, none⟩) hgb (.int .i64 x)).setCell (p := ⟨g, q * 2 + 1, none⟩) hgb (.int .i64 (n : Int)))
  have Z1 := Lib.hid (X1.out.keep WB.out)
  have Z2 := Lib.hid (X2.out.keep WB.out)
  have hO := HO.out
  rw [HQ.out] at hO
  have HO2 := Lib.hid hO
  clear hO HO HQ
  generalize (w3.setCell ⟨g, q * 2, none⟩ (.int .i64 x)).setCell ⟨g, q * 2 + 1, none⟩ (.int .i64 (n : Int)) = w4 at *
  clear a0 a1 a2 af0 af1 af2 z0 z1 z2 zf0 zf1 zf2
  have a0 := Z1.out.c0; have a1 := Z1.out.c1; have a2 := Z1.out.c2; have af0 := Z1.out.f0; have af1 := Z1.out.f1; have af2 := Z1.out.f2
  have z0 := Z2.out.c0; have z1 := Z2.out.c1; have z2 := Z2.out.c2; have zf0 := Z2.out.f0; have zf1 := Z2.out.f1; have zf2 := Z2.out.f2
  have hz2 := Z2.out.lt
  go_wp2
  have hl := HL.out.below WB.out
  refine bodyPost_ret (v := .agg #[.slice (some ⟨g, 0, none⟩) n c3, .slice B m d, .slice C k f]) (by simp [results, Try.results60, go_sem, z0, z1, z2] <;> rfl) rfl (bd_fin (b' := resB b [(q : Int)]) (Bl.set3 ⟨Prs.of_own HO2.out, hl.pm, hl.po⟩ Z2.out) (below_set3 (below_then HB.out WB.out) (by simp) _ _ _) rfl)
set_option maxHeartbeats 1000000 in
theorem rtop_yes (A B C : Option Addr) (n c m d k f : Nat) (b : Bd) (p : Nat) (u : Int) (w : World) (hF : Few 50000 b) (q : Nat) (hq : b.marks.length = q + 1 + p) (hu : (b.marks.getD q (0, 0)).1 = u) (h : Bl w A n c B m d C k f b) :
    Calls Try.prog 59 #[.agg #[.slice A n c, .slice B m d, .slice C k f], .int .i64 p, .int .i64 u] w fun e w' => e = .returned (.tuple #[.agg #[.int .i64 u, .int .i64 (b.marks.getD q (0, 0)).2], .bool true]) ∧ Below w.heap.size w w' := by
  obtain ⟨hn, hm, hk⟩ := h.ns hF
  have LC := Lib.hid h.1.len
  have LM := Lib.hid h.2.1.len
  have LO := Lib.hid h.2.2.len
  have H := Lib.hid h
  clear h hF
  have X1 := Lib.hid ((Bx.new w 25 (.slice A n c) (.slice B m d) (.slice C k f)).alloc (.cells #[.int .i64 0, .int .i64 0] 57))
  have X2 : Hid (Px ((w.alloc (.cells #[.slice A n c, .slice B m d, .slice C k f] 25)).alloc (.cells #[.int .i64 0, .int .i64 0] 57)) (w.heap.size + 1) 57 (.int .i64 0) (.int .i64 0)) := Lib.hid (by have h := Px.new (w.alloc (.cells #[.slice A n c, .slice B m d, .slice C k f] 25)) 57 (.int .i64 0) (.int .i64 0); rw [World.size_alloc] at h; exact h)
  have HB := Lib.hid (below_two w (.cells #[.slice A n c, .slice B m d, .slice C k f] 25) (.cells #[.int .i64 0, .int .i64 0] 57))
  go_enter Try.func59, Try.ntmps59
  go_upto_region 1 with (fail)
  generalize (w.alloc (.cells #[.slice A n c, .slice B m d, .slice C k f] 25)).alloc (.cells #[.int .i64 0, .int .i64 0] 57) = W at *
  have HL := Lib.hid (H.out.below HB.out)
  have a0 := X1.out.c0; have a1 := X1.out.c1; have a2 := X1.out.c2; have af0 := X1.out.f0; have af1 := X1.out.f1; have af2 := X1.out.f2
  have p0 := X2.out.c0
  have p1 := X2.out.c1
  have pf0 := X2.out.f0
  have pf1 := X2.out.f1
  have hx1 := X1.out.lt
  have hx2 := X2.out.lt
  obtain rfl : q + 1 + p = m := by rw [← LM.out, hq]
  obtain ⟨mb, mo, rfl, hbl, e0, e1⟩ := HL.out.pm.at_ q (by omega)
  rw [hu] at e0
  obtain ⟨v, hv⟩ : ∃ v, (b.marks.getD q (0, 0)).2 = v := ⟨_, rfl⟩
  rw [hv] at e1
  have HVv := Lib.hid hv
  clear hv
  have hne : (u != u) = false := by simp
  have hk1 : wrap64 ((q : Int) + 1 + (p : Int) - 1) = (q : Int) + (p : Int) := by unfold wrap64; omega
  have hk2 : (q : Int) + 1 + (p : Int) - 1 - (p : Int) = (q : Int) := by omega
  have hk3 : decide ((q : Int) < 0) = false := decide_eq_false (by omega)
  have hk4 : (0 : Int) ≤ (q : Int) := by omega
  have hk5 : (q : Int) < (q : Int) + 1 + (p : Int) := by omega
  clear hq hu
  go_wp2
  refine bodyPost_ret (v := .tuple #[.agg #[.int .i64 u, .int .i64 v], .bool true]) (by simp [results, Try.results59, go_sem, p0, p1] <;> rfl) rfl ⟨by rw [HVv.out], below_set2 HB.out (by simp) _ _⟩
set_option maxHeartbeats 1000000 in
theorem rtop_no (A B C : Option Addr) (n c m d k f : Nat) (b : Bd) (p : Nat) (u : Int) (w : World) (hF : Few 50000 b) (hp : p ≤ 10) (hno : ∀ q, b.marks.length = q + 1 + p → (b.marks.getD q (0, 0)).1 ≠ u) (h : Bl w A n c B m d C k f b) :
    Calls Try.prog 59 #[.agg #[.slice A n c, .slice B m d, .slice C k f], .int .i64 p, .int .i64 u] w fun e w' => e = .returned (.tuple #[.agg #[.int .i64 0, .int .i64 0], .bool false]) ∧ Below w.heap.size w w' := by
  obtain ⟨hn, hm, hk⟩ := h.ns hF
  have LC := Lib.hid h.1.len
  have LM := Lib.hid h.2.1.len
  have LO := Lib.hid h.2.2.len
  have H := Lib.hid h
  clear h hF
  have X1 := Lib.hid ((Bx.new w 25 (.slice A n c) (.slice B m d) (.slice C k f)).alloc (.cells #[.int .i64 0, .int .i64 0] 57))
  have X2 : Hid (Px ((w.alloc (.cells #[.slice A n c, .slice B m d, .slice C k f] 25)).alloc (.cells #[.int .i64 0, .int .i64 0] 57)) (w.heap.size + 1) 57 (.int .i64 0) (.int .i64 0)) := Lib.hid (by have h := Px.new (w.alloc (.cells #[.slice A n c, .slice B m d, .slice C k f] 25)) 57 (.int .i64 0) (.int .i64 0); rw [World.size_alloc] at h; exact h)
  have HB := Lib.hid (below_two w (.cells #[.slice A n c, .slice B m d, .slice C k f] 25) (.cells #[.int .i64 0, .int .i64 0] 57))
  go_enter Try.func59, Try.ntmps59
  go_upto_region 1 with (fail)
  generalize (w.alloc (.cells #[.slice A n c, .slice B m d, .slice C k f] 25)).alloc (.cells #[.int .i64 0, .int .i64 0] 57) = W at *
  have HL := Lib.hid (H.out.below HB.out)
  have a0 := X1.out.c0; have a1 := X1.out.c1; have a2 := X1.out.c2; have af0 := X1.out.f0; have af1 := X1.out.f1; have af2 := X1.out.f2
  have p0 := X2.out.c0
  have p1 := X2.out.c1
  have pf0 := X2.out.f0
  have pf1 := X2.out.f1
  have hx1 := X1.out.lt
  have hx2 := X2.out.lt
  by_cases hm : m ≤ p
  · have hk1 : wrap64 ((m : Int) - 1) = (m : Int) - 1 := by unfold wrap64; omega
    have hk2 : wrap64 ((m : Int) - 1 - (p : Int)) = (m : Int) - 1 - (p : Int) := by unfold wrap64; omega
    have hk3 : decide ((m : Int) - 1 - (p : Int) < 0) = true := decide_eq_true (by omega)
    have hk4 : (m : Int) - 1 - (p : Int) < 0 := by omega
    clear hno
    go_wp2
    refine bodyPost_ret (v := .tuple #[.agg #[.int .i64 0, .int .i64 0], .bool false]) (by simp [results, Try.results59, go_sem, p0, p1] <;> rfl) rfl ⟨rfl, below_set2 HB.out (by simp) _ _⟩
  · obtain ⟨q, rfl⟩ : ∃ q, m = q + 1 + p := ⟨m - 1 - p, by omega⟩
    obtain ⟨mb, mo, rfl, hbl, e0, e1⟩ := HL.out.pm.at_ q (by omega)
    have hne : ((b.marks.getD q (0, 0)).1 != u) = true := by simpa using hno q LM.out
    generalize (b.marks.getD q (0, 0)).1 = x at *
    generalize (b.marks.getD q (0, 0)).2 = v at *
    have hk1 : wrap64 ((q : Int) + 1 + (p : Int) - 1) = (q : Int) + (p : Int) := by unfold wrap64; omega
    have hk2 : (q : Int) + 1 + (p : Int) - 1 - (p : Int) = (q : Int) := by omega
    have hk3 : decide ((q : Int) < 0) = false := decide_eq_false (by omega)
    have hk4 : (0 : Int) ≤ (q : Int) := by omega
    have hk5 : (q : Int) < (q : Int) + 1 + (p : Int) := by omega
    clear hno
    go_wp2
    refine bodyPost_ret (v := .tuple #[.agg #[.int .i64 0, .int .i64 0], .bool false]) (by simp [results, Try.results59, go_sem, p0, p1] <;> rfl) rfl ⟨rfl, below_set2 HB.out (by simp) _ _⟩
set_option maxHeartbeats 1000000 in
theorem rless_any (A B C : Option Addr) (n c m d k f : Nat) (b : Bd) (p q : Nat) (w : World) (hF : Few 50000 b) (hq : b.marks.length = q + p) (hp : p ≤ 10) (h : Bl w A n c B m d C k f b) :
    Calls Try.prog 61 #[.agg #[.slice A n c, .slice B m d, .slice C k f], .int .i64 p] w (BdPost w ⟨b.code, b.marks.take q, b.outs⟩) := by
  obtain ⟨hn, hm, hk⟩ := h.ns hF
  have LC := Lib.hid h.1.len
  have LM := Lib.hid h.2.1.len
  have LO := Lib.hid h.2.2.len
  have H := Lib.hid h
  clear h hF
  have X1 := Lib.hid ((Bx.new w 25 (.slice A n c) (.slice B m d) (.slice C k f)).alloc (.cells #[.slice none 0 0, .slice none 0 0, .slice none 0 0] 25))
  have X2 := Lib.hid (Bx.new2 w (.cells #[.slice A n c, .slice B m d, .slice C k f] 25) 25 (.slice none 0 0) (.slice none 0 0) (.slice none 0 0))
  have HB := Lib.hid (below_two w (.cells #[.slice A n c, .slice B m d, .slice C k f] 25) (.cells #[.slice none 0 0, .slice none 0 0, .slice none 0 0] 25))
  go_enter Try.func61, Try.ntmps61
  go_upto_region 1 with (fail)
  generalize (w.alloc (.cells #[.slice A n c, .slice B m d, .slice C k f] 25)).alloc (.cells #[.slice none 0 0, .slice none 0 0, .slice none 0 0] 25) = W at *
  have hg1 : w.heap.size < W.heap.size := X1.out.lt
  have hg2 : w.heap.size + 1 < W.heap.size := X2.out.lt
  have HL := Lib.hid (H.out.below HB.out)
  have a0 := X1.out.c0; have a1 := X1.out.c1; have a2 := X1.out.c2; have af0 := X1.out.f0; have af1 := X1.out.f1; have af2 := X1.out.f2
  have z0 := X2.out.c0; have z1 := X2.out.c1; have z2 := X2.out.c2; have zf0 := X2.out.f0; have zf1 := X2.out.f1; have zf2 := X2.out.f2
  obtain rfl : q + p = m := by rw [← LM.out, hq]
  obtain ⟨hs1, hs2⟩ := HL.out.pm.head ptM q (by omega)
  have hs3 : ∀ W : World, (Instr.slice 23 (.slice B (q + p) d) none (some (.int .i64 (q : Int))) none).run Try.prog W = .ok (.slice B q d) W := hs1
  have HS := Lib.hid hs2
  have hk : (q : Int) + (p : Int) - (p : Int) = (q : Int) := by omega
  have hw1 : wrap64 ((q : Int) + (p : Int) - (p : Int)) = (q : Int) := by unfold wrap64; omega
  have hw2 : wrap64 (q : Int) = (q : Int) := by unfold wrap64; omega
  have hw3 : IntKind.i64.wrap (q : Int) = (q : Int) := wrap_small _ (by omega) (by omega)
  have hw4 : IntKind.i64.wrap ((q : Int) + (p : Int) - (p : Int)) = (q : Int) := by rw [hk]; exact hw3
  clear hs1 hs2 hq
  have SK : Hid (∀ w', Below W.heap.size W w' → w'.cell? ⟨w.heap.size, 0, none⟩ = some (.slice A n c) ∧ w'.cell? ⟨w.heap.size, 1, none⟩ = some (.slice B (q + p) d) ∧ w'.cell? ⟨w.heap.size, 2, none⟩ = some (.slice C k f)) := Lib.hid fun w' h => ⟨(X1.out.keep h).c0, (X1.out.keep h).c1, (X1.out.keep h).c2⟩
  have HU : Hid (Below W.heap.size W W.drew) := Lib.hid (Below.refl _ _).drew
  go_region_held3 (fun w' => w'.cell? ⟨w.heap.size, 0, none⟩ = some (.slice A n c) ∧ w'.cell? ⟨w.heap.size, 1, none⟩ = some (.slice B (q + p) d) ∧ w'.cell? ⟨w.heap.size, 2, none⟩ = some (.slice C k f)) (first | assumption | exact SK.out _ HU.out | exact SK.out _ (below_one _ _).drew | exact ⟨(U1.out.other3 (by simp) _ _ _).c0, (U1.out.other3 (by simp) _ _ _).c1, (U1.out.other3 (by simp) _ _ _).c2⟩)
    (first | (refine step_app0P ptM rfl (.tmp 7) (.tmp 15) rfl rfl rfl (HS.out.below (below_one _ _).drew) (by omega) ?_; intro A3 c3 w3 s3 b3; have HU := Lib.hid (below_then (below_one W _).drew b3); have R3 := Lib.hid s3; have U1 := Lib.hid (X1.out.keep HU.out); have U2 := Lib.hid (X2.out.keep HU.out); clear s3 b3; clear z0 z1 z2 zf0 zf1 zf2; have z0 := U2.out.c0; have z1 := U2.out.c1; have z2 := U2.out.c2; have zf0 := U2.out.f0; have zf1 := U2.out.f1; have zf2 := U2.out.f2; have hu2 := U2.out.lt))
  all_goals
    go_wp2
    have hl := HL.out.below HU.out
    refine bodyPost_ret (v := .agg #[.slice A n c, .slice A3 q c3, .slice C k f]) (by simp [results, Try.results61, go_sem, z0, z1, z2] <;> rfl) rfl (bd_fin (b' := ⟨b.code, b.marks.take q, b.outs⟩) (Bl.set3 ⟨hl.pc, R3.out, hl.po⟩ U2.out) (below_set3 (below_then HB.out HU.out) (by simp) _ _ _) rfl)
end Go.Proofs.Ytkcpmjccggfpiaa
