/-
  What package flow's own steps answer at any thread that is built: ahead, back, beginLoop.
-/
import Derived.Test.YtkcpmjccggfpiaaFlowRes
namespace Go.Proofs.Ytkcpmjccggfpiaa
open Go.RowKit

theorem Few.lay {N : Nat} {b : Bd} (h : Few N b) {x : List (Int × Int)} (hx : x.length ≤ 2) : Few (N + 2) (layB b x) := by
  obtain ⟨h1, h2, h3⟩ := h
  unfold layB
  split
  · exact ⟨by omega, by omega, by omega⟩
  · refine ⟨by simp; omega, by simp; omega, by simp; omega⟩
theorem Few.mark {N : Nat} {b : Bd} (h : Few N b) (u v : Int) : Few (N + 1) (markB b u v) := ⟨by have := h.1; simp [markB]; omega, by have := h.2.1; simp [markB]; omega, by have := h.2.2; simp [markB]; omega⟩
theorem Few.take {N : Nat} {b : Bd} (h : Few N b) : Few N (takeB b) := ⟨h.1, by have := h.2.1; simp [takeB]; omega, h.2.2⟩
theorem Few.out {N : Nat} {b : Bd} (h : Few N b) (v : Int) : Few (N + 1) (outB b v) := ⟨by have := h.1; simp [outB]; omega, by have := h.2.1; simp [outB]; omega, by have := h.2.2; simp [outB]; omega⟩
theorem Few.ahead {N : Nat} {b : Bd} (h : Few N b) (o : Int) : Few (N + 3) (aheadB b o) := (h.lay (by simp)).mark _ _
theorem Few.begin {N : Nat} {b : Bd} (h : Few N b) (o : Int) : Few (N + 3) (beginB b o) := (h.lay (by simp)).mark _ _
-- What changes one block of what was there.
theorem gb_drew {a w : World} {row : Option Nat} (h : a.grownBy w row) : a.grownBy w.drew row := ⟨h.os, h.tape, h.output, h.size, h.block⟩
theorem gb_alloc {a w : World} {row : Option Nat} (h : a.grownBy w row) (o : Obj) : a.grownBy (w.alloc o) row :=
  ⟨h.os, h.tape, h.output, Nat.le_trans h.size (by simp), fun i hi hne => (Below.heap_alloc w o i (Nat.lt_of_lt_of_le hi h.size)).trans (h.block i hi hne)⟩
theorem gb_set {a w : World} {g : Nat} (h : a.grownBy w (some g)) {p : Addr} (hp : p.block = g ∨ a.heap.size ≤ p.block) (u : Value) : a.grownBy (w.setCell p u) (some g) :=
  ⟨h.os, h.tape, h.output, by simpa [World.setCell] using h.size, fun i hi hne => (Below.heap_setCell w p u i (by
    rintro rfl
    rcases hp with hp | hp
    · exact hne (by rw [hp])
    · omega)).trans (h.block i hi hne)⟩
theorem gb_set3 {a w : World} {g : Nat} (h : a.grownBy w (some g)) (x y z : Value) : a.grownBy (((w.setCell ⟨g, 0, none⟩ x).setCell ⟨g, 1, none⟩ y).setCell ⟨g, 2, none⟩ z) (some g) := gb_set (gb_set (gb_set h (.inl rfl) _) (.inl rfl) _) (.inl rfl) _
theorem Prs.only {w w' : World} {A A1 A2 A3 : Option Addr} {n c n1 c1 n2 c2 n3 c3 g : Nat} {t : TypeId} {l : List (Int × Int)} (h : Prs w A n c l) (X : Bx w g t (.slice A1 n1 c1) (.slice A2 n2 c2) (.slice A3 n3 c3)) (hg : w.grownBy w' (some g)) : Prs w' A n c l := by
  refine ⟨h.1, h.2.1, fun hn => ?_, h.2.2.2⟩
  obtain ⟨b, o, e, hb, hc⟩ := h.at0 hn
  have hne := h.far X e hn
  have hk := hg.block b hb (fun q => hne (by injection q))
  refine ⟨b, o, e, Nat.lt_of_lt_of_le hb hg.size, fun j hj => ?_⟩
  rw [World.cell?_of_block (w := w) (a := ⟨b, _, none⟩) hk, World.cell?_of_block (w := w) (a := ⟨b, _, none⟩) hk]
  exact hc j hj
theorem Bl.only {w w' : World} {A B C A1 A2 A3 : Option Addr} {n c m d k f n1 c1 n2 c2 n3 c3 g : Nat} {b : Bd} {t : TypeId} (h : Bl w A n c B m d C k f b) (X : Bx w g t (.slice A1 n1 c1) (.slice A2 n2 c2) (.slice A3 n3 c3)) (hg : w.grownBy w' (some g)) : Bl w' A n c B m d C k f b := ⟨h.1.only X hg, h.2.1.only X hg, h.2.2.only X hg⟩

theorem Px.new_set3 (w : World) (g : Nat) (t : TypeId) (x y u v z : Value) : Px ((((w.setCell ⟨g, 0, none⟩ u).setCell ⟨g, 1, none⟩ v).setCell ⟨g, 2, none⟩ z).alloc (.cells #[x, y] t)) w.heap.size t x y := by
  have h := Px.new (((w.setCell ⟨g, 0, none⟩ u).setCell ⟨g, 1, none⟩ v).setCell ⟨g, 2, none⟩ z) t x y
  simpa [World.setCell] using h

set_option maxHeartbeats 1000000 in
theorem ahead_any (A B C : Option Addr) (n c m d k f : Nat) (b : Bd) (o : Int) (w : World) (hF : Few 40000 b) (h : Bl w A n c B m d C k f b) :
    Calls Try.prog 63 #[.agg #[.slice A n c, .slice B m d, .slice C k f], .int .i64 o] w (BtPost w (aheadB b o) (layE b 1)) := by
  have HF := Lib.hid hF
  obtain ⟨hn, hm, hk⟩ := h.ns hF
  have LC := Lib.hid h.1.len
  have LM := Lib.hid h.2.1.len
  have LO := Lib.hid h.2.2.len
  have H := Lib.hid h
  clear h hF
  have X1 := Lib.hid ((Bx.new w 30 (.slice A n c) (.slice B m d) (.slice C k f)).alloc (.cells #[.slice none 0 0, .slice none 0 0, .slice none 0 0] 30))
  have X2 := Lib.hid (Bx.new2 w (.cells #[.slice A n c, .slice B m d, .slice C k f] 30) 30 (.slice none 0 0) (.slice none 0 0) (.slice none 0 0))
  have HB := Lib.hid (below_two w (.cells #[.slice A n c, .slice B m d, .slice C k f] 30) (.cells #[.slice none 0 0, .slice none 0 0, .slice none 0 0] 30))
  go_enter Try.func63, Try.ntmps63
  go_upto_region 1 with (fail)
  generalize (w.alloc (.cells #[.slice A n c, .slice B m d, .slice C k f] 30)).alloc (.cells #[.slice none 0 0, .slice none 0 0, .slice none 0 0] 30) = W at *
  have hg1 : w.heap.size < W.heap.size := X1.out.lt
  have hg2 : w.heap.size + 1 < W.heap.size := X2.out.lt
  have HL := Lib.hid (H.out.below HB.out)
  have a0 := X1.out.c0; have a1 := X1.out.c1; have a2 := X1.out.c2; have af0 := X1.out.f0; have af1 := X1.out.f1; have af2 := X1.out.f2
  have z0 := X2.out.c0; have z1 := X2.out.c1; have z2 := X2.out.c2; have zf0 := X2.out.f0; have zf1 := X2.out.f1; have zf2 := X2.out.f2
  go_wp2_with (first
    | (go_at_call 27; refine (lay_any _ _ _ _ _ _ _ _ _ b _ _ _ [(o, 0)] _ (HF.out.mono (by omega)) (by omega) (HL.out.alloc _) (Prs.new1 _ _ o 0)).mono ?_; rintro e w1 ⟨A1, n1, c1, B1, m1, d1, C1, k1, f1, rfl, h1, hb1⟩; have HB1 := Lib.hid (below_new hb1); have H1 := Lib.hid h1; clear h1 hb1; have Y1 := Lib.hid (X1.out.keep HB1.out); have Y2 := Lib.hid (X2.out.keep HB1.out); clear a0 a1 a2 af0 af1 af2 z0 z1 z2 zf0 zf1 zf2; have a0 := Y1.out.c0; have a1 := Y1.out.c1; have a2 := Y1.out.c2; have af0 := Y1.out.f0; have af1 := Y1.out.f1; have af2 := Y1.out.f2; have z0 := Y2.out.c0; have z1 := Y2.out.c1; have z2 := Y2.out.c2; have zf0 := Y2.out.f0; have zf1 := Y2.out.f1; have zf2 := Y2.out.f2; have hY1 := Y1.out.lt; have hY2 := Y2.out.lt; have U1 := Lib.hid (Y1.out.set3 (.slice A1 n1 c1) (.slice B1 m1 d1) (.slice C1 k1 f1)); have U2 := Lib.hid (Y2.out.other3 (g' := w.heap.size) (by simp) (.slice A1 n1 c1) (.slice B1 m1 d1) (.slice C1 k1 f1)); have UB := Lib.hid (below_set3 (g := w.heap.size) (below_then HB.out HB1.out) (Nat.le_refl _) (.slice A1 n1 c1) (.slice B1 m1 d1) (.slice C1 k1 f1)))
    | (go_at_call 66; refine (mark_any _ _ _ _ _ _ _ _ _ (layB b [(o, 0)]) 1 (n : Int) _ ((HF.out.lay (by simp)).mono (by omega)) (H1.out.set3 Y1.out)).mono ?_; rintro e w2 ⟨A2, n2, c2, B2, m2, d2, C2, k2, f2, rfl, h2, hb2⟩; have HB2 := Lib.hid hb2; have H2 := Lib.hid h2; clear h2 hb2; have Z1 := Lib.hid (U1.out.keep HB2.out); have Z2 := Lib.hid (U2.out.keep HB2.out); clear a0 a1 a2 af0 af1 af2 z0 z1 z2 zf0 zf1 zf2; have a0 := Z1.out.c0; have a1 := Z1.out.c1; have a2 := Z1.out.c2; have af0 := Z1.out.f0; have af1 := Z1.out.f1; have af2 := Z1.out.f2; have z0 := Z2.out.c0; have z1 := Z2.out.c1; have z2 := Z2.out.c2; have zf0 := Z2.out.f0; have zf1 := Z2.out.f1; have zf2 := Z2.out.f2; have hZ1 := Z1.out.lt; have hZ2 := Z2.out.lt))
  refine bodyPost_ret (v := .tuple #[.agg #[.slice A2 n2 c2, .slice B2 m2 d2, .slice C2 k2 f2], .int .i64 (layE b 1)]) (by simp [results, Try.results63, go_sem, z0, z1, z2]) rfl (bt_fin (H2.out.set3 Z2.out) (below_set3 (below_then UB.out HB2.out) (by simp) _ _ _) (by unfold aheadB; rw [LC.out]) rfl)

set_option maxHeartbeats 1000000 in
theorem beginLoop_any (A B C : Option Addr) (n c m d k f : Nat) (b : Bd) (o : Int) (w : World) (hF : Few 40000 b) (h : Bl w A n c B m d C k f b) :
    Calls Try.prog 68 #[.agg #[.slice A n c, .slice B m d, .slice C k f], .int .i64 o] w (BtPost w (beginB b o) (layE b 1)) := by
  have HF := Lib.hid hF
  obtain ⟨hn, hm, hk⟩ := h.ns hF
  have LC := Lib.hid h.1.len
  have LM := Lib.hid h.2.1.len
  have LO := Lib.hid h.2.2.len
  have H := Lib.hid h
  clear h hF
  have X1 := Lib.hid ((Bx.new w 30 (.slice A n c) (.slice B m d) (.slice C k f)).alloc (.cells #[.slice none 0 0, .slice none 0 0, .slice none 0 0] 30))
  have X2 := Lib.hid (Bx.new2 w (.cells #[.slice A n c, .slice B m d, .slice C k f] 30) 30 (.slice none 0 0) (.slice none 0 0) (.slice none 0 0))
  have HB := Lib.hid (below_two w (.cells #[.slice A n c, .slice B m d, .slice C k f] 30) (.cells #[.slice none 0 0, .slice none 0 0, .slice none 0 0] 30))
  go_enter Try.func68, Try.ntmps68
  go_upto_region 1 with (fail)
  generalize (w.alloc (.cells #[.slice A n c, .slice B m d, .slice C k f] 30)).alloc (.cells #[.slice none 0 0, .slice none 0 0, .slice none 0 0] 30) = W at *
  have hg1 : w.heap.size < W.heap.size := X1.out.lt
  have hg2 : w.heap.size + 1 < W.heap.size := X2.out.lt
  have HL := Lib.hid (H.out.below HB.out)
  have a0 := X1.out.c0; have a1 := X1.out.c1; have a2 := X1.out.c2; have af0 := X1.out.f0; have af1 := X1.out.f1; have af2 := X1.out.f2
  have z0 := X2.out.c0; have z1 := X2.out.c1; have z2 := X2.out.c2; have zf0 := X2.out.f0; have zf1 := X2.out.f1; have zf2 := X2.out.f2
  go_wp2_with (first
    | (go_at_call 27; refine (lay_any _ _ _ _ _ _ _ _ _ b _ _ _ [(o, 0)] _ (HF.out.mono (by omega)) (by omega) (HL.out.alloc _) (Prs.new1 _ _ o 0)).mono ?_; rintro e w1 ⟨A1, n1, c1, B1, m1, d1, C1, k1, f1, rfl, h1, hb1⟩; have HB1 := Lib.hid (below_new hb1); have H1 := Lib.hid h1; clear h1 hb1; have Y1 := Lib.hid (X1.out.keep HB1.out); have Y2 := Lib.hid (X2.out.keep HB1.out); clear a0 a1 a2 af0 af1 af2 z0 z1 z2 zf0 zf1 zf2; have a0 := Y1.out.c0; have a1 := Y1.out.c1; have a2 := Y1.out.c2; have af0 := Y1.out.f0; have af1 := Y1.out.f1; have af2 := Y1.out.f2; have z0 := Y2.out.c0; have z1 := Y2.out.c1; have z2 := Y2.out.c2; have zf0 := Y2.out.f0; have zf1 := Y2.out.f1; have zf2 := Y2.out.f2; have hY1 := Y1.out.lt; have hY2 := Y2.out.lt; have U1 := Lib.hid (Y1.out.set3 (.slice A1 n1 c1) (.slice B1 m1 d1) (.slice C1 k1 f1)); have U2 := Lib.hid (Y2.out.other3 (g' := w.heap.size) (by simp) (.slice A1 n1 c1) (.slice B1 m1 d1) (.slice C1 k1 f1)); have UB := Lib.hid (below_set3 (g := w.heap.size) (below_then HB.out HB1.out) (Nat.le_refl _) (.slice A1 n1 c1) (.slice B1 m1 d1) (.slice C1 k1 f1)))
    | (go_at_call 66; refine (mark_any _ _ _ _ _ _ _ _ _ (layB b [(o, 0)]) 3 (n1 : Int) _ ((HF.out.lay (by simp)).mono (by omega)) (H1.out.set3 Y1.out)).mono ?_; rintro e w2 ⟨A2, n2, c2, B2, m2, d2, C2, k2, f2, rfl, h2, hb2⟩; have HB2 := Lib.hid hb2; have H2 := Lib.hid h2; clear h2 hb2; have Z1 := Lib.hid (U1.out.keep HB2.out); have Z2 := Lib.hid (U2.out.keep HB2.out); clear a0 a1 a2 af0 af1 af2 z0 z1 z2 zf0 zf1 zf2; have a0 := Z1.out.c0; have a1 := Z1.out.c1; have a2 := Z1.out.c2; have af0 := Z1.out.f0; have af1 := Z1.out.f1; have af2 := Z1.out.f2; have z0 := Z2.out.c0; have z1 := Z2.out.c1; have z2 := Z2.out.c2; have zf0 := Z2.out.f0; have zf1 := Z2.out.f1; have zf2 := Z2.out.f2; have hZ1 := Z1.out.lt; have hZ2 := Z2.out.lt))
  refine bodyPost_ret (v := .tuple #[.agg #[.slice A2 n2 c2, .slice B2 m2 d2, .slice C2 k2 f2], .int .i64 (layE b 1)]) (by simp [results, Try.results68, go_sem, z0, z1, z2]) rfl (bt_fin (H2.out.set3 Z2.out) (below_set3 (below_then UB.out HB2.out) (by simp) _ _ _) (by unfold beginB; rw [H1.out.pc.len]) rfl)

set_option maxHeartbeats 1000000 in
theorem back_any (A B C : Option Addr) (n c m d k f : Nat) (b : Bd) (q o : Int) (w : World) (hF : Few 40000 b) (hq : q ≠ 0) (h : Bl w A n c B m d C k f b) :
    Calls Try.prog 67 #[.agg #[.slice A n c, .slice B m d, .slice C k f], .int .i64 q, .int .i64 o] w (BtPost w (backB b q o) (backE b q)) := by
  have HF := Lib.hid hF
  obtain ⟨hn, hm, hk⟩ := h.ns hF
  have LC := Lib.hid h.1.len
  have LM := Lib.hid h.2.1.len
  have LO := Lib.hid h.2.2.len
  have H := Lib.hid h
  clear h hF
  have X1 := Lib.hid ((Bx.new w 30 (.slice A n c) (.slice B m d) (.slice C k f)).alloc (.cells #[.slice none 0 0, .slice none 0 0, .slice none 0 0] 30))
  have X2 := Lib.hid (Bx.new2 w (.cells #[.slice A n c, .slice B m d, .slice C k f] 30) 30 (.slice none 0 0) (.slice none 0 0) (.slice none 0 0))
  have HB := Lib.hid (below_two w (.cells #[.slice A n c, .slice B m d, .slice C k f] 30) (.cells #[.slice none 0 0, .slice none 0 0, .slice none 0 0] 30))
  go_enter Try.func67, Try.ntmps67
  go_upto_region 1 with (fail)
  generalize (w.alloc (.cells #[.slice A n c, .slice B m d, .slice C k f] 30)).alloc (.cells #[.slice none 0 0, .slice none 0 0, .slice none 0 0] 30) = W at *
  have hg1 : w.heap.size < W.heap.size := X1.out.lt
  have hg2 : w.heap.size + 1 < W.heap.size := X2.out.lt
  have HL := Lib.hid (H.out.below HB.out)
  have a0 := X1.out.c0; have a1 := X1.out.c1; have a2 := X1.out.c2; have af0 := X1.out.f0; have af1 := X1.out.f1; have af2 := X1.out.f2
  have z0 := X2.out.c0; have z1 := X2.out.c1; have z2 := X2.out.c2; have zf0 := X2.out.f0; have zf1 := X2.out.f1; have zf2 := X2.out.f2
  by_cases ht : topK b = q
  · have HK := Lib.hid ht
    clear ht
    go_upto_region 2 with ((go_at_call 64; refine (take_yes _ _ _ _ _ _ _ _ _ b q _ (HF.out.mono (by omega)) HK.out hq HL.out).mono ?_; rintro e w1 ⟨A1, n1, c1, B1, m1, d1, C1, k1, f1, rfl, h1, hb1⟩; have HB1 := Lib.hid hb1; have H1 := Lib.hid h1; clear h1 hb1; have Y1 := Lib.hid (X1.out.keep HB1.out); have Y2 := Lib.hid (X2.out.keep HB1.out); clear a0 a1 a2 af0 af1 af2 z0 z1 z2 zf0 zf1 zf2; have a0 := Y1.out.c0; have a1 := Y1.out.c1; have a2 := Y1.out.c2; have af0 := Y1.out.f0; have af1 := Y1.out.f1; have af2 := Y1.out.f2; have z0 := Y2.out.c0; have z1 := Y2.out.c1; have z2 := Y2.out.c2; have zf0 := Y2.out.f0; have zf1 := Y2.out.f1; have zf2 := Y2.out.f2; have hY1 := Y1.out.lt; have hY2 := Y2.out.lt; have U1 := Lib.hid (Y1.out.set3 (.slice A1 n1 c1) (.slice B1 m1 d1) (.slice C1 k1 f1)); have U2 := Lib.hid (Y2.out.other3 (g' := w.heap.size) (by simp) (.slice A1 n1 c1) (.slice B1 m1 d1) (.slice C1 k1 f1)); have UB := Lib.hid (below_set3 (g := w.heap.size) (below_then HB.out HB1.out) (Nat.le_refl _) (.slice A1 n1 c1) (.slice B1 m1 d1) (.slice C1 k1 f1))))
    have V1 := Lib.hid (U1.out.alloc (.cells #[.int .i64 q, .int .i64 (topA b)] 62))
    have V2 := Lib.hid (U2.out.alloc (.cells #[.int .i64 q, .int .i64 (topA b)] 62))
    have VP := Lib.hid (Px.new_set3 w1 w.heap.size 62 (.int .i64 q) (.int .i64 (topA b)) (.slice A1 n1 c1) (.slice B1 m1 d1) (.slice C1 k1 f1))
    have VB := Lib.hid (UB.out.alloc UB.out.size (.cells #[.int .i64 q, .int .i64 (topA b)] 62))
    have HV := Lib.hid ((H1.out.set3 Y1.out (B1 := A1) (p1 := n1) (e1 := c1) (B2 := B1) (p2 := m1) (e2 := d1) (B3 := C1) (p3 := k1) (e3 := f1)).alloc (.cells #[.int .i64 q, .int .i64 (topA b)] 62))
    have hP1 : w1.heap.size < ((((w1.setCell ⟨w.heap.size, 0, none⟩ (.slice A1 n1 c1)).setCell ⟨w.heap.size, 1, none⟩ (.slice B1 m1 d1)).setCell ⟨w.heap.size, 2, none⟩ (.slice C1 k1 f1)).alloc (.cells #[.int .i64 q, .int .i64 (topA b)] 62)).heap.size := VP.out.lt
    generalize (((w1.setCell ⟨w.heap.size, 0, none⟩ (.slice A1 n1 c1)).setCell ⟨w.heap.size, 1, none⟩ (.slice B1 m1 d1)).setCell ⟨w.heap.size, 2, none⟩ (.slice C1 k1 f1)).alloc (.cells #[.int .i64 q, .int .i64 (topA b)] 62) = W1 at *
    have hd11 : ¬ w1.heap.size = w.heap.size := by omega
    have hd21 : ¬ w1.heap.size = w.heap.size + 1 := by omega
    clear a0 a1 a2 af0 af1 af2 z0 z1 z2 zf0 zf1 zf2
    have a0 := V1.out.c0; have a1 := V1.out.c1; have a2 := V1.out.c2; have af0 := V1.out.f0; have af1 := V1.out.f1; have af2 := V1.out.f2
    have z0 := V2.out.c0; have z1 := V2.out.c1; have z2 := V2.out.c2; have zf0 := V2.out.f0; have zf1 := V2.out.f1; have zf2 := V2.out.f2
    have p10 := VP.out.c0; have p11 := VP.out.c1; have hV1 := V1.out.lt; have hV2 := V2.out.lt
    go_wp2_with (go_at_call 27; refine (lay_any _ _ _ _ _ _ _ _ _ (takeB b) _ _ _ [(o, topA b)] _ (HF.out.take.mono (by omega)) (by omega) (HV.out.alloc _) (Prs.new1 _ _ o (topA b))).mono ?_; rintro e w2 ⟨A2, n2, c2, B2, m2, d2, C2, k2, f2, rfl, h2, hb2⟩; have HB2 := Lib.hid (below_new hb2); have H2 := Lib.hid h2; clear h2 hb2; have Z1 := Lib.hid (V1.out.keep HB2.out); have Z2 := Lib.hid (V2.out.keep HB2.out); clear a0 a1 a2 af0 af1 af2 z0 z1 z2 zf0 zf1 zf2; have a0 := Z1.out.c0; have a1 := Z1.out.c1; have a2 := Z1.out.c2; have af0 := Z1.out.f0; have af1 := Z1.out.f1; have af2 := Z1.out.f2; have z0 := Z2.out.c0; have z1 := Z2.out.c1; have z2 := Z2.out.c2; have zf0 := Z2.out.f0; have zf1 := Z2.out.f1; have zf2 := Z2.out.f2; have hZ1 := Z1.out.lt; have hZ2 := Z2.out.lt)
    refine bodyPost_ret (v := .tuple #[.agg #[.slice A2 n2 c2, .slice B2 m2 d2, .slice C2 k2 f2], .int .i64 (layE (takeB b) 1)]) (by simp [results, Try.results67, go_sem, z0, z1, z2]) rfl (bt_fin (H2.out.set3 Z2.out) (below_set3 (below_then VB.out HB2.out) (by simp) _ _ _) (by unfold backB; rw [if_pos HK.out]) (by unfold backE; rw [if_pos HK.out]))
  · have HK := Lib.hid ht
    clear ht
    go_wp2_with (go_at_call 64; refine (take_no _ _ _ _ _ _ _ _ _ b q _ (HF.out.mono (by omega)) HK.out HL.out).mono ?_; rintro e w1 ⟨A1, n1, c1, B1, m1, d1, C1, k1, f1, rfl, h1, hb1⟩; have HB1 := Lib.hid hb1; have H1 := Lib.hid h1; clear h1 hb1; have Y1 := Lib.hid (X1.out.keep HB1.out); have Y2 := Lib.hid (X2.out.keep HB1.out); clear a0 a1 a2 af0 af1 af2 z0 z1 z2 zf0 zf1 zf2; have a0 := Y1.out.c0; have a1 := Y1.out.c1; have a2 := Y1.out.c2; have af0 := Y1.out.f0; have af1 := Y1.out.f1; have af2 := Y1.out.f2; have z0 := Y2.out.c0; have z1 := Y2.out.c1; have z2 := Y2.out.c2; have zf0 := Y2.out.f0; have zf1 := Y2.out.f1; have zf2 := Y2.out.f2; have hY1 := Y1.out.lt; have hY2 := Y2.out.lt; have U1 := Lib.hid (Y1.out.set3 (.slice A1 n1 c1) (.slice B1 m1 d1) (.slice C1 k1 f1)); have U2 := Lib.hid (Y2.out.other3 (g' := w.heap.size) (by simp) (.slice A1 n1 c1) (.slice B1 m1 d1) (.slice C1 k1 f1)); have UB := Lib.hid (below_set3 (g := w.heap.size) (below_then HB.out HB1.out) (Nat.le_refl _) (.slice A1 n1 c1) (.slice B1 m1 d1) (.slice C1 k1 f1)))
    refine bodyPost_ret (v := .tuple #[.agg #[.slice A1 n1 c1, .slice B1 m1 d1, .slice C1 k1 f1], .int .i64 (-22)]) (by simp [results, Try.results67, go_sem, z0, z1, z2, hY2]) rfl (bt_fin (((H1.out.set3 Y1.out (B1 := A1) (p1 := n1) (e1 := c1) (B2 := B1) (p2 := m1) (e2 := d1) (B3 := C1) (p3 := k1) (e3 := f1)).set3 U2.out).alloc _) ((below_set3 (g := w.heap.size + 1) UB.out (by omega) _ _ _).alloc (by have := UB.out.size; simpa [World.setCell] using this) _) (by unfold backB; rw [if_neg HK.out]) (by unfold backE; rw [if_neg HK.out]))
end Go.Proofs.Ytkcpmjccggfpiaa
