/-
  What the document's own Word and End answer.
-/
import Derived.Test.YtkcpmjccggfpiaaFlowRefH
import Derived.Test.YtkcpmjccggfpiaaFlowCalls
namespace Go.Proofs.Ytkcpmjccggfpiaa
open Go.RowKit

set_option maxHeartbeats 4000000 in
theorem rword_some (S : ByteArray) (l : List UInt8) (d' : Wd) (hS : S = ⟨l.toArray⟩) (hl : l.length ≤ 2000) (hw : wdF (l.map scU) = some d') (A B C : Option Addr) (n c m d k f : Nat) (b : Bd) (w : World) (hF : Few 1000 b) (h : Bl w A n c B m d C k f b) :
    Calls Try.prog 15 #[.agg #[.slice A n c, .slice B m d, .slice C k f], .string S] w (WdPost w (wdN (flSnd b) d') true (wdE (flSnd b) d')) := by
  have hU := rupper_is l S ⟨(l.map scU).toArray⟩ hS hl rfl
  rw [wdF_some hw] at hU
  have HU := Lib.hid hU
  clear hU
  have HF := Lib.hid hF
  clear hS hl hw
  obtain ⟨hn, hm, hk⟩ := h.ns hF
  have LC := Lib.hid h.1.len
  have LM := Lib.hid h.2.1.len
  have LO := Lib.hid h.2.2.len
  have H := Lib.hid h
  clear h hF
  have X1 := Lib.hid ((Bx.new w 25 (.slice A n c) (.slice B m d) (.slice C k f)).alloc (.cells #[.slice none 0 0, .slice none 0 0, .slice none 0 0] 25))
  have X2 := Lib.hid (Bx.new2 w (.cells #[.slice A n c, .slice B m d, .slice C k f] 25) 25 (.slice none 0 0) (.slice none 0 0) (.slice none 0 0))
  have HB := Lib.hid (below_two w (.cells #[.slice A n c, .slice B m d, .slice C k f] 25) (.cells #[.slice none 0 0, .slice none 0 0, .slice none 0 0] 25))
  go_enter Try.func15, Try.ntmps15
  go_upto_region 1 with (fail)
  generalize (w.alloc (.cells #[.slice A n c, .slice B m d, .slice C k f] 25)).alloc (.cells #[.slice none 0 0, .slice none 0 0, .slice none 0 0] 25) = W at *
  have hg1 : w.heap.size < W.heap.size := X1.out.lt
  have hg2 : w.heap.size + 1 < W.heap.size := X2.out.lt
  have HL := Lib.hid (H.out.below HB.out)
  have a0 := X1.out.c0; have a1 := X1.out.c1; have a2 := X1.out.c2; have af0 := X1.out.f0; have af1 := X1.out.f1; have af2 := X1.out.f2
  have z0 := X2.out.c0; have z1 := X2.out.c1; have z2 := X2.out.c2; have zf0 := X2.out.f0; have zf1 := X2.out.f1; have zf2 := X2.out.f2
  go_upto_region 2 with (go_at_call 28; refine (rown_any _ _ _ _ _ _ _ _ _ b _ (HF.out.mono (by omega)) HL.out).mono ?_; rintro e w1 ⟨A1, n1, c1, B1, m1, d1, C1, k1, f1, rfl, h1, hb1⟩; have HB1 := Lib.hid (hb1); have H1 := Lib.hid h1; clear h1 hb1; have Y1 := Lib.hid (X1.out.keep HB1.out); have Y2 := Lib.hid (X2.out.keep HB1.out); clear a0 a1 a2 af0 af1 af2 z0 z1 z2 zf0 zf1 zf2; have a0 := Y1.out.c0; have a1 := Y1.out.c1; have a2 := Y1.out.c2; have af0 := Y1.out.f0; have af1 := Y1.out.f1; have af2 := Y1.out.f2; have z0 := Y2.out.c0; have z1 := Y2.out.c1; have z2 := Y2.out.c2; have zf0 := Y2.out.f0; have zf1 := Y2.out.f1; have zf2 := Y2.out.f2; have hY1 := Y1.out.lt; have hY2 := Y2.out.lt)
  have Q1 := Lib.hid (Y1.out.set3 (.slice A1 n1 c1) (.slice B1 m1 d1) (.slice C1 k1 f1))
  have Q2 := Lib.hid (Y2.out.other3 (g' := w.heap.size) (by simp) (.slice A1 n1 c1) (.slice B1 m1 d1) (.slice C1 k1 f1))
  have QB := Lib.hid (below_set3 (g := w.heap.size) (below_then HB.out HB1.out) (Nat.le_refl _) (.slice A1 n1 c1) (.slice B1 m1 d1) (.slice C1 k1 f1))
  have HQ := Lib.hid (H1.out.set3 Y1.out (B1 := A1) (p1 := n1) (e1 := c1) (B2 := B1) (p2 := m1) (e2 := d1) (B3 := C1) (p3 := k1) (e3 := f1))
  generalize (((w1.setCell ⟨w.heap.size, 0, none⟩ (.slice A1 n1 c1)).setCell ⟨w.heap.size, 1, none⟩ (.slice B1 m1 d1)).setCell ⟨w.heap.size, 2, none⟩ (.slice C1 k1 f1)) = W1 at *
  clear a0 a1 a2 af0 af1 af2 z0 z1 z2 zf0 zf1 zf2
  have a0 := Q1.out.c0; have a1 := Q1.out.c1; have a2 := Q1.out.c2; have af0 := Q1.out.f0; have af1 := Q1.out.f1; have af2 := Q1.out.f2
  have z0 := Q2.out.c0; have z1 := Q2.out.c1; have z2 := Q2.out.c2; have zf0 := Q2.out.f0; have zf1 := Q2.out.f1; have zf2 := Q2.out.f2
  have hQ1 := Q1.out.lt; have hQ2 := Q2.out.lt
  have HSs := Lib.hid (snd_is b)
  have HFs := Lib.hid HF.out.snd'
  generalize flSnd b = b' at *
  cases d'
  · unfold wdT at HU
    go_upto_region 4 with ((go_at_call 31; refine (HU.out _).mono ?_; rintro e w2 ⟨rfl, hb2⟩; have HC2 := Lib.hid (below_then hb2 (below_one w2 (.cells #[.slice A1 n1 c1, .slice B1 m1 d1, .slice C1 k1 f1] 25))); have X8 := Lib.hid (Bx.new w2 25 (.slice A1 n1 c1) (.slice B1 m1 d1) (.slice C1 k1 f1)); have hw2 := hb2.size; have G1 := Lib.hid (Q1.out.keep hb2); clear hb2 a0 a1 a2 af0 af1 af2; have a0 := G1.out.c0; have a1 := G1.out.c1; have a2 := G1.out.c2; have af0 := G1.out.f0; have af1 := G1.out.f1; have af2 := G1.out.f2))
    generalize w2.alloc (.cells #[.slice A1 n1 c1, .slice B1 m1 d1, .slice C1 k1 f1] 25) = W2 at *
    have HB2 := Lib.hid (below_then QB.out HC2.out)
    have Z1 := Lib.hid (Q1.out.keep HC2.out)
    have Z2 := Lib.hid (Q2.out.keep HC2.out)
    have HL2 := Lib.hid (HQ.out.below HC2.out)
    clear a0 a1 a2 af0 af1 af2 z0 z1 z2 zf0 zf1 zf2
    have a0 := Z1.out.c0; have a1 := Z1.out.c1; have a2 := Z1.out.c2; have af0 := Z1.out.f0; have af1 := Z1.out.f1; have af2 := Z1.out.f2
    have z0 := Z2.out.c0; have z1 := Z2.out.c1; have z2 := Z2.out.c2; have zf0 := Z2.out.f0; have zf1 := Z2.out.f1; have zf2 := Z2.out.f2
    have x0 := X8.out.c0; have x1 := X8.out.c1; have x2 := X8.out.c2; have xf0 := X8.out.f0; have xf1 := X8.out.f1; have xf2 := X8.out.f2
    have hZ1 := Z1.out.lt
    have hZ2 := Z2.out.lt
    have hX8 := X8.out.lt
    have hg8 : w.heap.size ≤ w2.heap.size := by omega
    have hn8 : w.heap.size + 1 ≠ w2.heap.size := by omega
    go_wp2_with (go_at_call 32; refine (rif__any _ _ _ _ _ _ _ _ _ b' _ HFs.out HSs.out HL2.out).mono ?_; rintro e w4 ⟨A4, n4, c4, B4, m4, d4, C4, k4, f4, rfl, h4, hb4⟩; have HC4 := Lib.hid hb4; have H4 := Lib.hid h4; clear h4 hb4; have V2 := Lib.hid (Z2.out.keep HC4.out); have V8 := Lib.hid (X8.out.keep HC4.out); clear a0 a1 a2 af0 af1 af2 z0 z1 z2 zf0 zf1 zf2 x0 x1 x2 xf0 xf1 xf2; have z0 := V2.out.c0; have z1 := V2.out.c1; have z2 := V2.out.c2; have zf0 := V2.out.f0; have zf1 := V2.out.f1; have zf2 := V2.out.f2; have x0 := V8.out.c0; have x1 := V8.out.c1; have x2 := V8.out.c2; have xf0 := V8.out.f0; have xf1 := V8.out.f1; have xf2 := V8.out.f2; have hv2 := V2.out.lt; have hv8 := V8.out.lt)
    refine bodyPost_ret (v := .tuple #[.agg #[.slice A4 n4 c4, .slice B4 m4 d4, .slice C4 k4 f4], .bool true, .int .i64 (wdE b' .if_)]) (by simp [results, Try.results15, go_sem, z0, z1, z2] <;> rfl) rfl (wd_fin ((H4.out.set3 V8.out (B1 := A4) (p1 := n4) (e1 := c4) (B2 := B4) (p2 := m4) (e2 := d4) (B3 := C4) (p3 := k4) (e3 := f4)).set3 (V2.out.other3 (g' := w2.heap.size) hn8 (.slice A4 n4 c4) (.slice B4 m4 d4) (.slice C4 k4 f4))) (below_set3 (below_set3 (below_then HB2.out HC4.out) hg8 (.slice A4 n4 c4) (.slice B4 m4 d4) (.slice C4 k4 f4)) (by simp) _ _ _) rfl rfl)
  · unfold wdT at HU
    go_upto_region 4 with ((go_at_call 31; refine (HU.out _).mono ?_; rintro e w2 ⟨rfl, hb2⟩; have HC2 := Lib.hid (below_then hb2 (below_one w2 (.cells #[.slice A1 n1 c1, .slice B1 m1 d1, .slice C1 k1 f1] 25))); have X8 := Lib.hid (Bx.new w2 25 (.slice A1 n1 c1) (.slice B1 m1 d1) (.slice C1 k1 f1)); have hw2 := hb2.size; have G1 := Lib.hid (Q1.out.keep hb2); clear hb2 a0 a1 a2 af0 af1 af2; have a0 := G1.out.c0; have a1 := G1.out.c1; have a2 := G1.out.c2; have af0 := G1.out.f0; have af1 := G1.out.f1; have af2 := G1.out.f2))
    generalize w2.alloc (.cells #[.slice A1 n1 c1, .slice B1 m1 d1, .slice C1 k1 f1] 25) = W2 at *
    have HB2 := Lib.hid (below_then QB.out HC2.out)
    have Z1 := Lib.hid (Q1.out.keep HC2.out)
    have Z2 := Lib.hid (Q2.out.keep HC2.out)
    have HL2 := Lib.hid (HQ.out.below HC2.out)
    clear a0 a1 a2 af0 af1 af2 z0 z1 z2 zf0 zf1 zf2
    have a0 := Z1.out.c0; have a1 := Z1.out.c1; have a2 := Z1.out.c2; have af0 := Z1.out.f0; have af1 := Z1.out.f1; have af2 := Z1.out.f2
    have z0 := Z2.out.c0; have z1 := Z2.out.c1; have z2 := Z2.out.c2; have zf0 := Z2.out.f0; have zf1 := Z2.out.f1; have zf2 := Z2.out.f2
    have x0 := X8.out.c0; have x1 := X8.out.c1; have x2 := X8.out.c2; have xf0 := X8.out.f0; have xf1 := X8.out.f1; have xf2 := X8.out.f2
    have hZ1 := Z1.out.lt
    have hZ2 := Z2.out.lt
    have hX8 := X8.out.lt
    have hg8 : w.heap.size ≤ w2.heap.size := by omega
    have hn8 : w.heap.size + 1 ≠ w2.heap.size := by omega
    go_wp2_with (go_at_call 33; refine (relse__any _ _ _ _ _ _ _ _ _ b' _ HFs.out HSs.out HL2.out).mono ?_; rintro e w4 ⟨A4, n4, c4, B4, m4, d4, C4, k4, f4, rfl, h4, hb4⟩; have HC4 := Lib.hid hb4; have H4 := Lib.hid h4; clear h4 hb4; have V2 := Lib.hid (Z2.out.keep HC4.out); have V8 := Lib.hid (X8.out.keep HC4.out); clear a0 a1 a2 af0 af1 af2 z0 z1 z2 zf0 zf1 zf2 x0 x1 x2 xf0 xf1 xf2; have z0 := V2.out.c0; have z1 := V2.out.c1; have z2 := V2.out.c2; have zf0 := V2.out.f0; have zf1 := V2.out.f1; have zf2 := V2.out.f2; have x0 := V8.out.c0; have x1 := V8.out.c1; have x2 := V8.out.c2; have xf0 := V8.out.f0; have xf1 := V8.out.f1; have xf2 := V8.out.f2; have hv2 := V2.out.lt; have hv8 := V8.out.lt)
    refine bodyPost_ret (v := .tuple #[.agg #[.slice A4 n4 c4, .slice B4 m4 d4, .slice C4 k4 f4], .bool true, .int .i64 (wdE b' .else_)]) (by simp [results, Try.results15, go_sem, z0, z1, z2] <;> rfl) rfl (wd_fin ((H4.out.set3 V8.out (B1 := A4) (p1 := n4) (e1 := c4) (B2 := B4) (p2 := m4) (e2 := d4) (B3 := C4) (p3 := k4) (e3 := f4)).set3 (V2.out.other3 (g' := w2.heap.size) hn8 (.slice A4 n4 c4) (.slice B4 m4 d4) (.slice C4 k4 f4))) (below_set3 (below_set3 (below_then HB2.out HC4.out) hg8 (.slice A4 n4 c4) (.slice B4 m4 d4) (.slice C4 k4 f4)) (by simp) _ _ _) rfl rfl)
  · unfold wdT at HU
    go_upto_region 4 with ((go_at_call 31; refine (HU.out _).mono ?_; rintro e w2 ⟨rfl, hb2⟩; have HC2 := Lib.hid (below_then hb2 (below_one w2 (.cells #[.slice A1 n1 c1, .slice B1 m1 d1, .slice C1 k1 f1] 25))); have X8 := Lib.hid (Bx.new w2 25 (.slice A1 n1 c1) (.slice B1 m1 d1) (.slice C1 k1 f1)); have hw2 := hb2.size; have G1 := Lib.hid (Q1.out.keep hb2); clear hb2 a0 a1 a2 af0 af1 af2; have a0 := G1.out.c0; have a1 := G1.out.c1; have a2 := G1.out.c2; have af0 := G1.out.f0; have af1 := G1.out.f1; have af2 := G1.out.f2))
    generalize w2.alloc (.cells #[.slice A1 n1 c1, .slice B1 m1 d1, .slice C1 k1 f1] 25) = W2 at *
    have HB2 := Lib.hid (below_then QB.out HC2.out)
    have Z1 := Lib.hid (Q1.out.keep HC2.out)
    have Z2 := Lib.hid (Q2.out.keep HC2.out)
    have HL2 := Lib.hid (HQ.out.below HC2.out)
    clear a0 a1 a2 af0 af1 af2 z0 z1 z2 zf0 zf1 zf2
    have a0 := Z1.out.c0; have a1 := Z1.out.c1; have a2 := Z1.out.c2; have af0 := Z1.out.f0; have af1 := Z1.out.f1; have af2 := Z1.out.f2
    have z0 := Z2.out.c0; have z1 := Z2.out.c1; have z2 := Z2.out.c2; have zf0 := Z2.out.f0; have zf1 := Z2.out.f1; have zf2 := Z2.out.f2
    have x0 := X8.out.c0; have x1 := X8.out.c1; have x2 := X8.out.c2; have xf0 := X8.out.f0; have xf1 := X8.out.f1; have xf2 := X8.out.f2
    have hZ1 := Z1.out.lt
    have hZ2 := Z2.out.lt
    have hX8 := X8.out.lt
    have hg8 : w.heap.size ≤ w2.heap.size := by omega
    have hn8 : w.heap.size + 1 ≠ w2.heap.size := by omega
    go_wp2_with (go_at_call 33; refine (rthen__any _ _ _ _ _ _ _ _ _ b' _ HFs.out HSs.out HL2.out).mono ?_; rintro e w4 ⟨A4, n4, c4, B4, m4, d4, C4, k4, f4, rfl, h4, hb4⟩; have HC4 := Lib.hid hb4; have H4 := Lib.hid h4; clear h4 hb4; have V2 := Lib.hid (Z2.out.keep HC4.out); have V8 := Lib.hid (X8.out.keep HC4.out); clear a0 a1 a2 af0 af1 af2 z0 z1 z2 zf0 zf1 zf2 x0 x1 x2 xf0 xf1 xf2; have z0 := V2.out.c0; have z1 := V2.out.c1; have z2 := V2.out.c2; have zf0 := V2.out.f0; have zf1 := V2.out.f1; have zf2 := V2.out.f2; have x0 := V8.out.c0; have x1 := V8.out.c1; have x2 := V8.out.c2; have xf0 := V8.out.f0; have xf1 := V8.out.f1; have xf2 := V8.out.f2; have hv2 := V2.out.lt; have hv8 := V8.out.lt)
    refine bodyPost_ret (v := .tuple #[.agg #[.slice A4 n4 c4, .slice B4 m4 d4, .slice C4 k4 f4], .bool true, .int .i64 (wdE b' .then_)]) (by simp [results, Try.results15, go_sem, z0, z1, z2] <;> rfl) rfl (wd_fin ((H4.out.set3 V8.out (B1 := A4) (p1 := n4) (e1 := c4) (B2 := B4) (p2 := m4) (e2 := d4) (B3 := C4) (p3 := k4) (e3 := f4)).set3 (V2.out.other3 (g' := w2.heap.size) hn8 (.slice A4 n4 c4) (.slice B4 m4 d4) (.slice C4 k4 f4))) (below_set3 (below_set3 (below_then HB2.out HC4.out) hg8 (.slice A4 n4 c4) (.slice B4 m4 d4) (.slice C4 k4 f4)) (by simp) _ _ _) rfl rfl)
  · unfold wdT at HU
    go_upto_region 4 with ((go_at_call 31; refine (HU.out _).mono ?_; rintro e w2 ⟨rfl, hb2⟩; have HC2 := Lib.hid (below_then hb2 (below_one w2 (.cells #[.slice A1 n1 c1, .slice B1 m1 d1, .slice C1 k1 f1] 25))); have X8 := Lib.hid (Bx.new w2 25 (.slice A1 n1 c1) (.slice B1 m1 d1) (.slice C1 k1 f1)); have hw2 := hb2.size; have G1 := Lib.hid (Q1.out.keep hb2); clear hb2 a0 a1 a2 af0 af1 af2; have a0 := G1.out.c0; have a1 := G1.out.c1; have a2 := G1.out.c2; have af0 := G1.out.f0; have af1 := G1.out.f1; have af2 := G1.out.f2))
    generalize w2.alloc (.cells #[.slice A1 n1 c1, .slice B1 m1 d1, .slice C1 k1 f1] 25) = W2 at *
    have HB2 := Lib.hid (below_then QB.out HC2.out)
    have Z1 := Lib.hid (Q1.out.keep HC2.out)
    have Z2 := Lib.hid (Q2.out.keep HC2.out)
    have HL2 := Lib.hid (HQ.out.below HC2.out)
    clear a0 a1 a2 af0 af1 af2 z0 z1 z2 zf0 zf1 zf2
    have a0 := Z1.out.c0; have a1 := Z1.out.c1; have a2 := Z1.out.c2; have af0 := Z1.out.f0; have af1 := Z1.out.f1; have af2 := Z1.out.f2
    have z0 := Z2.out.c0; have z1 := Z2.out.c1; have z2 := Z2.out.c2; have zf0 := Z2.out.f0; have zf1 := Z2.out.f1; have zf2 := Z2.out.f2
    have x0 := X8.out.c0; have x1 := X8.out.c1; have x2 := X8.out.c2; have xf0 := X8.out.f0; have xf1 := X8.out.f1; have xf2 := X8.out.f2
    have hZ1 := Z1.out.lt
    have hZ2 := Z2.out.lt
    have hX8 := X8.out.lt
    have hg8 : w.heap.size ≤ w2.heap.size := by omega
    have hn8 : w.heap.size + 1 ≠ w2.heap.size := by omega
    go_wp2_with (go_at_call 32; refine (rbegin__any _ _ _ _ _ _ _ _ _ b' _ HFs.out HSs.out HL2.out).mono ?_; rintro e w4 ⟨A4, n4, c4, B4, m4, d4, C4, k4, f4, rfl, h4, hb4⟩; have HC4 := Lib.hid hb4; have H4 := Lib.hid h4; clear h4 hb4; have V2 := Lib.hid (Z2.out.keep HC4.out); have V8 := Lib.hid (X8.out.keep HC4.out); clear a0 a1 a2 af0 af1 af2 z0 z1 z2 zf0 zf1 zf2 x0 x1 x2 xf0 xf1 xf2; have z0 := V2.out.c0; have z1 := V2.out.c1; have z2 := V2.out.c2; have zf0 := V2.out.f0; have zf1 := V2.out.f1; have zf2 := V2.out.f2; have x0 := V8.out.c0; have x1 := V8.out.c1; have x2 := V8.out.c2; have xf0 := V8.out.f0; have xf1 := V8.out.f1; have xf2 := V8.out.f2; have hv2 := V2.out.lt; have hv8 := V8.out.lt)
    refine bodyPost_ret (v := .tuple #[.agg #[.slice A4 n4 c4, .slice B4 m4 d4, .slice C4 k4 f4], .bool true, .int .i64 (wdE b' .begin_)]) (by simp [results, Try.results15, go_sem, z0, z1, z2] <;> rfl) rfl (wd_fin ((H4.out.set3 V8.out (B1 := A4) (p1 := n4) (e1 := c4) (B2 := B4) (p2 := m4) (e2 := d4) (B3 := C4) (p3 := k4) (e3 := f4)).set3 (V2.out.other3 (g' := w2.heap.size) hn8 (.slice A4 n4 c4) (.slice B4 m4 d4) (.slice C4 k4 f4))) (below_set3 (below_set3 (below_then HB2.out HC4.out) hg8 (.slice A4 n4 c4) (.slice B4 m4 d4) (.slice C4 k4 f4)) (by simp) _ _ _) rfl rfl)
  · unfold wdT at HU
    go_upto_region 4 with ((go_at_call 31; refine (HU.out _).mono ?_; rintro e w2 ⟨rfl, hb2⟩; have HC2 := Lib.hid (below_then hb2 (below_one w2 (.cells #[.slice A1 n1 c1, .slice B1 m1 d1, .slice C1 k1 f1] 25))); have X8 := Lib.hid (Bx.new w2 25 (.slice A1 n1 c1) (.slice B1 m1 d1) (.slice C1 k1 f1)); have hw2 := hb2.size; have G1 := Lib.hid (Q1.out.keep hb2); clear hb2 a0 a1 a2 af0 af1 af2; have a0 := G1.out.c0; have a1 := G1.out.c1; have a2 := G1.out.c2; have af0 := G1.out.f0; have af1 := G1.out.f1; have af2 := G1.out.f2))
    generalize w2.alloc (.cells #[.slice A1 n1 c1, .slice B1 m1 d1, .slice C1 k1 f1] 25) = W2 at *
    have HB2 := Lib.hid (below_then QB.out HC2.out)
    have Z1 := Lib.hid (Q1.out.keep HC2.out)
    have Z2 := Lib.hid (Q2.out.keep HC2.out)
    have HL2 := Lib.hid (HQ.out.below HC2.out)
    clear a0 a1 a2 af0 af1 af2 z0 z1 z2 zf0 zf1 zf2
    have a0 := Z1.out.c0; have a1 := Z1.out.c1; have a2 := Z1.out.c2; have af0 := Z1.out.f0; have af1 := Z1.out.f1; have af2 := Z1.out.f2
    have z0 := Z2.out.c0; have z1 := Z2.out.c1; have z2 := Z2.out.c2; have zf0 := Z2.out.f0; have zf1 := Z2.out.f1; have zf2 := Z2.out.f2
    have x0 := X8.out.c0; have x1 := X8.out.c1; have x2 := X8.out.c2; have xf0 := X8.out.f0; have xf1 := X8.out.f1; have xf2 := X8.out.f2
    have hZ1 := Z1.out.lt
    have hZ2 := Z2.out.lt
    have hX8 := X8.out.lt
    have hg8 : w.heap.size ≤ w2.heap.size := by omega
    have hn8 : w.heap.size + 1 ≠ w2.heap.size := by omega
    go_wp2_with (go_at_call 34; refine (ragain_any _ _ _ _ _ _ _ _ _ b' _ HFs.out HSs.out HL2.out).mono ?_; rintro e w4 ⟨A4, n4, c4, B4, m4, d4, C4, k4, f4, rfl, h4, hb4⟩; have HC4 := Lib.hid hb4; have H4 := Lib.hid h4; clear h4 hb4; have V2 := Lib.hid (Z2.out.keep HC4.out); have V8 := Lib.hid (X8.out.keep HC4.out); clear a0 a1 a2 af0 af1 af2 z0 z1 z2 zf0 zf1 zf2 x0 x1 x2 xf0 xf1 xf2; have z0 := V2.out.c0; have z1 := V2.out.c1; have z2 := V2.out.c2; have zf0 := V2.out.f0; have zf1 := V2.out.f1; have zf2 := V2.out.f2; have x0 := V8.out.c0; have x1 := V8.out.c1; have x2 := V8.out.c2; have xf0 := V8.out.f0; have xf1 := V8.out.f1; have xf2 := V8.out.f2; have hv2 := V2.out.lt; have hv8 := V8.out.lt)
    refine bodyPost_ret (v := .tuple #[.agg #[.slice A4 n4 c4, .slice B4 m4 d4, .slice C4 k4 f4], .bool true, .int .i64 (wdE b' .again)]) (by simp [results, Try.results15, go_sem, z0, z1, z2] <;> rfl) rfl (wd_fin ((H4.out.set3 V8.out (B1 := A4) (p1 := n4) (e1 := c4) (B2 := B4) (p2 := m4) (e2 := d4) (B3 := C4) (p3 := k4) (e3 := f4)).set3 (V2.out.other3 (g' := w2.heap.size) hn8 (.slice A4 n4 c4) (.slice B4 m4 d4) (.slice C4 k4 f4))) (below_set3 (below_set3 (below_then HB2.out HC4.out) hg8 (.slice A4 n4 c4) (.slice B4 m4 d4) (.slice C4 k4 f4)) (by simp) _ _ _) rfl rfl)
  · unfold wdT at HU
    go_upto_region 4 with ((go_at_call 31; refine (HU.out _).mono ?_; rintro e w2 ⟨rfl, hb2⟩; have HC2 := Lib.hid (below_then hb2 (below_one w2 (.cells #[.slice A1 n1 c1, .slice B1 m1 d1, .slice C1 k1 f1] 25))); have X8 := Lib.hid (Bx.new w2 25 (.slice A1 n1 c1) (.slice B1 m1 d1) (.slice C1 k1 f1)); have hw2 := hb2.size; have G1 := Lib.hid (Q1.out.keep hb2); clear hb2 a0 a1 a2 af0 af1 af2; have a0 := G1.out.c0; have a1 := G1.out.c1; have a2 := G1.out.c2; have af0 := G1.out.f0; have af1 := G1.out.f1; have af2 := G1.out.f2))
    generalize w2.alloc (.cells #[.slice A1 n1 c1, .slice B1 m1 d1, .slice C1 k1 f1] 25) = W2 at *
    have HB2 := Lib.hid (below_then QB.out HC2.out)
    have Z1 := Lib.hid (Q1.out.keep HC2.out)
    have Z2 := Lib.hid (Q2.out.keep HC2.out)
    have HL2 := Lib.hid (HQ.out.below HC2.out)
    clear a0 a1 a2 af0 af1 af2 z0 z1 z2 zf0 zf1 zf2
    have a0 := Z1.out.c0; have a1 := Z1.out.c1; have a2 := Z1.out.c2; have af0 := Z1.out.f0; have af1 := Z1.out.f1; have af2 := Z1.out.f2
    have z0 := Z2.out.c0; have z1 := Z2.out.c1; have z2 := Z2.out.c2; have zf0 := Z2.out.f0; have zf1 := Z2.out.f1; have zf2 := Z2.out.f2
    have x0 := X8.out.c0; have x1 := X8.out.c1; have x2 := X8.out.c2; have xf0 := X8.out.f0; have xf1 := X8.out.f1; have xf2 := X8.out.f2
    have hZ1 := Z1.out.lt
    have hZ2 := Z2.out.lt
    have hX8 := X8.out.lt
    have hg8 : w.heap.size ≤ w2.heap.size := by omega
    have hn8 : w.heap.size + 1 ≠ w2.heap.size := by omega
    go_wp2_with (go_at_call 34; refine (runtil__any _ _ _ _ _ _ _ _ _ b' _ HFs.out HSs.out HL2.out).mono ?_; rintro e w4 ⟨A4, n4, c4, B4, m4, d4, C4, k4, f4, rfl, h4, hb4⟩; have HC4 := Lib.hid hb4; have H4 := Lib.hid h4; clear h4 hb4; have V2 := Lib.hid (Z2.out.keep HC4.out); have V8 := Lib.hid (X8.out.keep HC4.out); clear a0 a1 a2 af0 af1 af2 z0 z1 z2 zf0 zf1 zf2 x0 x1 x2 xf0 xf1 xf2; have z0 := V2.out.c0; have z1 := V2.out.c1; have z2 := V2.out.c2; have zf0 := V2.out.f0; have zf1 := V2.out.f1; have zf2 := V2.out.f2; have x0 := V8.out.c0; have x1 := V8.out.c1; have x2 := V8.out.c2; have xf0 := V8.out.f0; have xf1 := V8.out.f1; have xf2 := V8.out.f2; have hv2 := V2.out.lt; have hv8 := V8.out.lt)
    refine bodyPost_ret (v := .tuple #[.agg #[.slice A4 n4 c4, .slice B4 m4 d4, .slice C4 k4 f4], .bool true, .int .i64 (wdE b' .until_)]) (by simp [results, Try.results15, go_sem, z0, z1, z2] <;> rfl) rfl (wd_fin ((H4.out.set3 V8.out (B1 := A4) (p1 := n4) (e1 := c4) (B2 := B4) (p2 := m4) (e2 := d4) (B3 := C4) (p3 := k4) (e3 := f4)).set3 (V2.out.other3 (g' := w2.heap.size) hn8 (.slice A4 n4 c4) (.slice B4 m4 d4) (.slice C4 k4 f4))) (below_set3 (below_set3 (below_then HB2.out HC4.out) hg8 (.slice A4 n4 c4) (.slice B4 m4 d4) (.slice C4 k4 f4)) (by simp) _ _ _) rfl rfl)
  · unfold wdT at HU
    go_upto_region 4 with ((go_at_call 31; refine (HU.out _).mono ?_; rintro e w2 ⟨rfl, hb2⟩; have HC2 := Lib.hid (below_then hb2 (below_one w2 (.cells #[.slice A1 n1 c1, .slice B1 m1 d1, .slice C1 k1 f1] 25))); have X8 := Lib.hid (Bx.new w2 25 (.slice A1 n1 c1) (.slice B1 m1 d1) (.slice C1 k1 f1)); have hw2 := hb2.size; have G1 := Lib.hid (Q1.out.keep hb2); clear hb2 a0 a1 a2 af0 af1 af2; have a0 := G1.out.c0; have a1 := G1.out.c1; have a2 := G1.out.c2; have af0 := G1.out.f0; have af1 := G1.out.f1; have af2 := G1.out.f2))
    generalize w2.alloc (.cells #[.slice A1 n1 c1, .slice B1 m1 d1, .slice C1 k1 f1] 25) = W2 at *
    have HB2 := Lib.hid (below_then QB.out HC2.out)
    have Z1 := Lib.hid (Q1.out.keep HC2.out)
    have Z2 := Lib.hid (Q2.out.keep HC2.out)
    have HL2 := Lib.hid (HQ.out.below HC2.out)
    clear a0 a1 a2 af0 af1 af2 z0 z1 z2 zf0 zf1 zf2
    have a0 := Z1.out.c0; have a1 := Z1.out.c1; have a2 := Z1.out.c2; have af0 := Z1.out.f0; have af1 := Z1.out.f1; have af2 := Z1.out.f2
    have z0 := Z2.out.c0; have z1 := Z2.out.c1; have z2 := Z2.out.c2; have zf0 := Z2.out.f0; have zf1 := Z2.out.f1; have zf2 := Z2.out.f2
    have x0 := X8.out.c0; have x1 := X8.out.c1; have x2 := X8.out.c2; have xf0 := X8.out.f0; have xf1 := X8.out.f1; have xf2 := X8.out.f2
    have hZ1 := Z1.out.lt
    have hZ2 := Z2.out.lt
    have hX8 := X8.out.lt
    have hg8 : w.heap.size ≤ w2.heap.size := by omega
    have hn8 : w.heap.size + 1 ≠ w2.heap.size := by omega
    go_wp2_with (go_at_call 34; refine (rwhile__any _ _ _ _ _ _ _ _ _ b' _ HFs.out HSs.out HL2.out).mono ?_; rintro e w4 ⟨A4, n4, c4, B4, m4, d4, C4, k4, f4, rfl, h4, hb4⟩; have HC4 := Lib.hid hb4; have H4 := Lib.hid h4; clear h4 hb4; have V2 := Lib.hid (Z2.out.keep HC4.out); have V8 := Lib.hid (X8.out.keep HC4.out); clear a0 a1 a2 af0 af1 af2 z0 z1 z2 zf0 zf1 zf2 x0 x1 x2 xf0 xf1 xf2; have z0 := V2.out.c0; have z1 := V2.out.c1; have z2 := V2.out.c2; have zf0 := V2.out.f0; have zf1 := V2.out.f1; have zf2 := V2.out.f2; have x0 := V8.out.c0; have x1 := V8.out.c1; have x2 := V8.out.c2; have xf0 := V8.out.f0; have xf1 := V8.out.f1; have xf2 := V8.out.f2; have hv2 := V2.out.lt; have hv8 := V8.out.lt)
    refine bodyPost_ret (v := .tuple #[.agg #[.slice A4 n4 c4, .slice B4 m4 d4, .slice C4 k4 f4], .bool true, .int .i64 (wdE b' .while_)]) (by simp [results, Try.results15, go_sem, z0, z1, z2] <;> rfl) rfl (wd_fin ((H4.out.set3 V8.out (B1 := A4) (p1 := n4) (e1 := c4) (B2 := B4) (p2 := m4) (e2 := d4) (B3 := C4) (p3 := k4) (e3 := f4)).set3 (V2.out.other3 (g' := w2.heap.size) hn8 (.slice A4 n4 c4) (.slice B4 m4 d4) (.slice C4 k4 f4))) (below_set3 (below_set3 (below_then HB2.out HC4.out) hg8 (.slice A4 n4 c4) (.slice B4 m4 d4) (.slice C4 k4 f4)) (by simp) _ _ _) rfl rfl)
  · unfold wdT at HU
    go_upto_region 4 with ((go_at_call 31; refine (HU.out _).mono ?_; rintro e w2 ⟨rfl, hb2⟩; have HC2 := Lib.hid (below_then hb2 (below_one w2 (.cells #[.slice A1 n1 c1, .slice B1 m1 d1, .slice C1 k1 f1] 25))); have X8 := Lib.hid (Bx.new w2 25 (.slice A1 n1 c1) (.slice B1 m1 d1) (.slice C1 k1 f1)); have hw2 := hb2.size; have G1 := Lib.hid (Q1.out.keep hb2); clear hb2 a0 a1 a2 af0 af1 af2; have a0 := G1.out.c0; have a1 := G1.out.c1; have a2 := G1.out.c2; have af0 := G1.out.f0; have af1 := G1.out.f1; have af2 := G1.out.f2))
    generalize w2.alloc (.cells #[.slice A1 n1 c1, .slice B1 m1 d1, .slice C1 k1 f1] 25) = W2 at *
    have HB2 := Lib.hid (below_then QB.out HC2.out)
    have Z1 := Lib.hid (Q1.out.keep HC2.out)
    have Z2 := Lib.hid (Q2.out.keep HC2.out)
    have HL2 := Lib.hid (HQ.out.below HC2.out)
    clear a0 a1 a2 af0 af1 af2 z0 z1 z2 zf0 zf1 zf2
    have a0 := Z1.out.c0; have a1 := Z1.out.c1; have a2 := Z1.out.c2; have af0 := Z1.out.f0; have af1 := Z1.out.f1; have af2 := Z1.out.f2
    have z0 := Z2.out.c0; have z1 := Z2.out.c1; have z2 := Z2.out.c2; have zf0 := Z2.out.f0; have zf1 := Z2.out.f1; have zf2 := Z2.out.f2
    have x0 := X8.out.c0; have x1 := X8.out.c1; have x2 := X8.out.c2; have xf0 := X8.out.f0; have xf1 := X8.out.f1; have xf2 := X8.out.f2
    have hZ1 := Z1.out.lt
    have hZ2 := Z2.out.lt
    have hX8 := X8.out.lt
    have hg8 : w.heap.size ≤ w2.heap.size := by omega
    have hn8 : w.heap.size + 1 ≠ w2.heap.size := by omega
    go_wp2_with (go_at_call 34; refine (rrepeat__any _ _ _ _ _ _ _ _ _ b' _ HFs.out HSs.out HL2.out).mono ?_; rintro e w4 ⟨A4, n4, c4, B4, m4, d4, C4, k4, f4, rfl, h4, hb4⟩; have HC4 := Lib.hid hb4; have H4 := Lib.hid h4; clear h4 hb4; have V2 := Lib.hid (Z2.out.keep HC4.out); have V8 := Lib.hid (X8.out.keep HC4.out); clear a0 a1 a2 af0 af1 af2 z0 z1 z2 zf0 zf1 zf2 x0 x1 x2 xf0 xf1 xf2; have z0 := V2.out.c0; have z1 := V2.out.c1; have z2 := V2.out.c2; have zf0 := V2.out.f0; have zf1 := V2.out.f1; have zf2 := V2.out.f2; have x0 := V8.out.c0; have x1 := V8.out.c1; have x2 := V8.out.c2; have xf0 := V8.out.f0; have xf1 := V8.out.f1; have xf2 := V8.out.f2; have hv2 := V2.out.lt; have hv8 := V8.out.lt)
    refine bodyPost_ret (v := .tuple #[.agg #[.slice A4 n4 c4, .slice B4 m4 d4, .slice C4 k4 f4], .bool true, .int .i64 (wdE b' .repeat_)]) (by simp [results, Try.results15, go_sem, z0, z1, z2] <;> rfl) rfl (wd_fin ((H4.out.set3 V8.out (B1 := A4) (p1 := n4) (e1 := c4) (B2 := B4) (p2 := m4) (e2 := d4) (B3 := C4) (p3 := k4) (e3 := f4)).set3 (V2.out.other3 (g' := w2.heap.size) hn8 (.slice A4 n4 c4) (.slice B4 m4 d4) (.slice C4 k4 f4))) (below_set3 (below_set3 (below_then HB2.out HC4.out) hg8 (.slice A4 n4 c4) (.slice B4 m4 d4) (.slice C4 k4 f4)) (by simp) _ _ _) rfl rfl)
  · unfold wdT at HU
    go_upto_region 4 with ((go_at_call 31; refine (HU.out _).mono ?_; rintro e w2 ⟨rfl, hb2⟩; have HC2 := Lib.hid (below_then hb2 (below_one w2 (.cells #[.slice A1 n1 c1, .slice B1 m1 d1, .slice C1 k1 f1] 25))); have X8 := Lib.hid (Bx.new w2 25 (.slice A1 n1 c1) (.slice B1 m1 d1) (.slice C1 k1 f1)); have hw2 := hb2.size; have G1 := Lib.hid (Q1.out.keep hb2); clear hb2 a0 a1 a2 af0 af1 af2; have a0 := G1.out.c0; have a1 := G1.out.c1; have a2 := G1.out.c2; have af0 := G1.out.f0; have af1 := G1.out.f1; have af2 := G1.out.f2))
    generalize w2.alloc (.cells #[.slice A1 n1 c1, .slice B1 m1 d1, .slice C1 k1 f1] 25) = W2 at *
    have HB2 := Lib.hid (below_then QB.out HC2.out)
    have Z1 := Lib.hid (Q1.out.keep HC2.out)
    have Z2 := Lib.hid (Q2.out.keep HC2.out)
    have HL2 := Lib.hid (HQ.out.below HC2.out)
    clear a0 a1 a2 af0 af1 af2 z0 z1 z2 zf0 zf1 zf2
    have a0 := Z1.out.c0; have a1 := Z1.out.c1; have a2 := Z1.out.c2; have af0 := Z1.out.f0; have af1 := Z1.out.f1; have af2 := Z1.out.f2
    have z0 := Z2.out.c0; have z1 := Z2.out.c1; have z2 := Z2.out.c2; have zf0 := Z2.out.f0; have zf1 := Z2.out.f1; have zf2 := Z2.out.f2
    have x0 := X8.out.c0; have x1 := X8.out.c1; have x2 := X8.out.c2; have xf0 := X8.out.f0; have xf1 := X8.out.f1; have xf2 := X8.out.f2
    have hZ1 := Z1.out.lt
    have hZ2 := Z2.out.lt
    have hX8 := X8.out.lt
    have hg8 : w.heap.size ≤ w2.heap.size := by omega
    have hn8 : w.heap.size + 1 ≠ w2.heap.size := by omega
    go_wp2_with (go_at_call 32; refine (rdo__any _ _ _ _ _ _ _ _ _ b' _ HFs.out HSs.out HL2.out).mono ?_; rintro e w4 ⟨A4, n4, c4, B4, m4, d4, C4, k4, f4, rfl, h4, hb4⟩; have HC4 := Lib.hid hb4; have H4 := Lib.hid h4; clear h4 hb4; have V2 := Lib.hid (Z2.out.keep HC4.out); have V8 := Lib.hid (X8.out.keep HC4.out); clear a0 a1 a2 af0 af1 af2 z0 z1 z2 zf0 zf1 zf2 x0 x1 x2 xf0 xf1 xf2; have z0 := V2.out.c0; have z1 := V2.out.c1; have z2 := V2.out.c2; have zf0 := V2.out.f0; have zf1 := V2.out.f1; have zf2 := V2.out.f2; have x0 := V8.out.c0; have x1 := V8.out.c1; have x2 := V8.out.c2; have xf0 := V8.out.f0; have xf1 := V8.out.f1; have xf2 := V8.out.f2; have hv2 := V2.out.lt; have hv8 := V8.out.lt)
    refine bodyPost_ret (v := .tuple #[.agg #[.slice A4 n4 c4, .slice B4 m4 d4, .slice C4 k4 f4], .bool true, .int .i64 (wdE b' .do_)]) (by simp [results, Try.results15, go_sem, z0, z1, z2] <;> rfl) rfl (wd_fin ((H4.out.set3 V8.out (B1 := A4) (p1 := n4) (e1 := c4) (B2 := B4) (p2 := m4) (e2 := d4) (B3 := C4) (p3 := k4) (e3 := f4)).set3 (V2.out.other3 (g' := w2.heap.size) hn8 (.slice A4 n4 c4) (.slice B4 m4 d4) (.slice C4 k4 f4))) (below_set3 (below_set3 (below_then HB2.out HC4.out) hg8 (.slice A4 n4 c4) (.slice B4 m4 d4) (.slice C4 k4 f4)) (by simp) _ _ _) rfl rfl)
  · unfold wdT at HU
    go_upto_region 4 with ((go_at_call 31; refine (HU.out _).mono ?_; rintro e w2 ⟨rfl, hb2⟩; have HC2 := Lib.hid (below_then hb2 (below_one w2 (.cells #[.slice A1 n1 c1, .slice B1 m1 d1, .slice C1 k1 f1] 25))); have X8 := Lib.hid (Bx.new w2 25 (.slice A1 n1 c1) (.slice B1 m1 d1) (.slice C1 k1 f1)); have hw2 := hb2.size; have G1 := Lib.hid (Q1.out.keep hb2); clear hb2 a0 a1 a2 af0 af1 af2; have a0 := G1.out.c0; have a1 := G1.out.c1; have a2 := G1.out.c2; have af0 := G1.out.f0; have af1 := G1.out.f1; have af2 := G1.out.f2))
    generalize w2.alloc (.cells #[.slice A1 n1 c1, .slice B1 m1 d1, .slice C1 k1 f1] 25) = W2 at *
    have HB2 := Lib.hid (below_then QB.out HC2.out)
    have Z1 := Lib.hid (Q1.out.keep HC2.out)
    have Z2 := Lib.hid (Q2.out.keep HC2.out)
    have HL2 := Lib.hid (HQ.out.below HC2.out)
    clear a0 a1 a2 af0 af1 af2 z0 z1 z2 zf0 zf1 zf2
    have a0 := Z1.out.c0; have a1 := Z1.out.c1; have a2 := Z1.out.c2; have af0 := Z1.out.f0; have af1 := Z1.out.f1; have af2 := Z1.out.f2
    have z0 := Z2.out.c0; have z1 := Z2.out.c1; have z2 := Z2.out.c2; have zf0 := Z2.out.f0; have zf1 := Z2.out.f1; have zf2 := Z2.out.f2
    have x0 := X8.out.c0; have x1 := X8.out.c1; have x2 := X8.out.c2; have xf0 := X8.out.f0; have xf1 := X8.out.f1; have xf2 := X8.out.f2
    have hZ1 := Z1.out.lt
    have hZ2 := Z2.out.lt
    have hX8 := X8.out.lt
    have hg8 : w.heap.size ≤ w2.heap.size := by omega
    have hn8 : w.heap.size + 1 ≠ w2.heap.size := by omega
    go_wp2_with (go_at_call 32; refine (rmayDo_any _ _ _ _ _ _ _ _ _ b' _ HFs.out HSs.out HL2.out).mono ?_; rintro e w4 ⟨A4, n4, c4, B4, m4, d4, C4, k4, f4, rfl, h4, hb4⟩; have HC4 := Lib.hid hb4; have H4 := Lib.hid h4; clear h4 hb4; have V2 := Lib.hid (Z2.out.keep HC4.out); have V8 := Lib.hid (X8.out.keep HC4.out); clear a0 a1 a2 af0 af1 af2 z0 z1 z2 zf0 zf1 zf2 x0 x1 x2 xf0 xf1 xf2; have z0 := V2.out.c0; have z1 := V2.out.c1; have z2 := V2.out.c2; have zf0 := V2.out.f0; have zf1 := V2.out.f1; have zf2 := V2.out.f2; have x0 := V8.out.c0; have x1 := V8.out.c1; have x2 := V8.out.c2; have xf0 := V8.out.f0; have xf1 := V8.out.f1; have xf2 := V8.out.f2; have hv2 := V2.out.lt; have hv8 := V8.out.lt)
    refine bodyPost_ret (v := .tuple #[.agg #[.slice A4 n4 c4, .slice B4 m4 d4, .slice C4 k4 f4], .bool true, .int .i64 (wdE b' .mayDo)]) (by simp [results, Try.results15, go_sem, z0, z1, z2] <;> rfl) rfl (wd_fin ((H4.out.set3 V8.out (B1 := A4) (p1 := n4) (e1 := c4) (B2 := B4) (p2 := m4) (e2 := d4) (B3 := C4) (p3 := k4) (e3 := f4)).set3 (V2.out.other3 (g' := w2.heap.size) hn8 (.slice A4 n4 c4) (.slice B4 m4 d4) (.slice C4 k4 f4))) (below_set3 (below_set3 (below_then HB2.out HC4.out) hg8 (.slice A4 n4 c4) (.slice B4 m4 d4) (.slice C4 k4 f4)) (by simp) _ _ _) rfl rfl)
  · unfold wdT at HU
    go_upto_region 4 with ((go_at_call 31; refine (HU.out _).mono ?_; rintro e w2 ⟨rfl, hb2⟩; have HC2 := Lib.hid (below_then hb2 (below_one w2 (.cells #[.slice A1 n1 c1, .slice B1 m1 d1, .slice C1 k1 f1] 25))); have X8 := Lib.hid (Bx.new w2 25 (.slice A1 n1 c1) (.slice B1 m1 d1) (.slice C1 k1 f1)); have hw2 := hb2.size; have G1 := Lib.hid (Q1.out.keep hb2); clear hb2 a0 a1 a2 af0 af1 af2; have a0 := G1.out.c0; have a1 := G1.out.c1; have a2 := G1.out.c2; have af0 := G1.out.f0; have af1 := G1.out.f1; have af2 := G1.out.f2))
    generalize w2.alloc (.cells #[.slice A1 n1 c1, .slice B1 m1 d1, .slice C1 k1 f1] 25) = W2 at *
    have HB2 := Lib.hid (below_then QB.out HC2.out)
    have Z1 := Lib.hid (Q1.out.keep HC2.out)
    have Z2 := Lib.hid (Q2.out.keep HC2.out)
    have HL2 := Lib.hid (HQ.out.below HC2.out)
    clear a0 a1 a2 af0 af1 af2 z0 z1 z2 zf0 zf1 zf2
    have a0 := Z1.out.c0; have a1 := Z1.out.c1; have a2 := Z1.out.c2; have af0 := Z1.out.f0; have af1 := Z1.out.f1; have af2 := Z1.out.f2
    have z0 := Z2.out.c0; have z1 := Z2.out.c1; have z2 := Z2.out.c2; have zf0 := Z2.out.f0; have zf1 := Z2.out.f1; have zf2 := Z2.out.f2
    have x0 := X8.out.c0; have x1 := X8.out.c1; have x2 := X8.out.c2; have xf0 := X8.out.f0; have xf1 := X8.out.f1; have xf2 := X8.out.f2
    have hZ1 := Z1.out.lt
    have hZ2 := Z2.out.lt
    have hX8 := X8.out.lt
    have hg8 : w.heap.size ≤ w2.heap.size := by omega
    have hn8 : w.heap.size + 1 ≠ w2.heap.size := by omega
    go_wp2_with (go_at_call 35; refine (rloop__any _ _ _ _ _ _ _ _ _ b' _ HFs.out HSs.out HL2.out).mono ?_; rintro e w4 ⟨A4, n4, c4, B4, m4, d4, C4, k4, f4, rfl, h4, hb4⟩; have HC4 := Lib.hid hb4; have H4 := Lib.hid h4; clear h4 hb4; have V2 := Lib.hid (Z2.out.keep HC4.out); have V8 := Lib.hid (X8.out.keep HC4.out); clear a0 a1 a2 af0 af1 af2 z0 z1 z2 zf0 zf1 zf2 x0 x1 x2 xf0 xf1 xf2; have z0 := V2.out.c0; have z1 := V2.out.c1; have z2 := V2.out.c2; have zf0 := V2.out.f0; have zf1 := V2.out.f1; have zf2 := V2.out.f2; have x0 := V8.out.c0; have x1 := V8.out.c1; have x2 := V8.out.c2; have xf0 := V8.out.f0; have xf1 := V8.out.f1; have xf2 := V8.out.f2; have hv2 := V2.out.lt; have hv8 := V8.out.lt)
    refine bodyPost_ret (v := .tuple #[.agg #[.slice A4 n4 c4, .slice B4 m4 d4, .slice C4 k4 f4], .bool true, .int .i64 (wdE b' .loop_)]) (by simp [results, Try.results15, go_sem, z0, z1, z2] <;> rfl) rfl (wd_fin ((H4.out.set3 V8.out (B1 := A4) (p1 := n4) (e1 := c4) (B2 := B4) (p2 := m4) (e2 := d4) (B3 := C4) (p3 := k4) (e3 := f4)).set3 (V2.out.other3 (g' := w2.heap.size) hn8 (.slice A4 n4 c4) (.slice B4 m4 d4) (.slice C4 k4 f4))) (below_set3 (below_set3 (below_then HB2.out HC4.out) hg8 (.slice A4 n4 c4) (.slice B4 m4 d4) (.slice C4 k4 f4)) (by simp) _ _ _) rfl rfl)
  · unfold wdT at HU
    go_upto_region 4 with ((go_at_call 31; refine (HU.out _).mono ?_; rintro e w2 ⟨rfl, hb2⟩; have HC2 := Lib.hid (below_then hb2 (below_one w2 (.cells #[.slice A1 n1 c1, .slice B1 m1 d1, .slice C1 k1 f1] 25))); have X8 := Lib.hid (Bx.new w2 25 (.slice A1 n1 c1) (.slice B1 m1 d1) (.slice C1 k1 f1)); have hw2 := hb2.size; have G1 := Lib.hid (Q1.out.keep hb2); clear hb2 a0 a1 a2 af0 af1 af2; have a0 := G1.out.c0; have a1 := G1.out.c1; have a2 := G1.out.c2; have af0 := G1.out.f0; have af1 := G1.out.f1; have af2 := G1.out.f2))
    generalize w2.alloc (.cells #[.slice A1 n1 c1, .slice B1 m1 d1, .slice C1 k1 f1] 25) = W2 at *
    have HB2 := Lib.hid (below_then QB.out HC2.out)
    have Z1 := Lib.hid (Q1.out.keep HC2.out)
    have Z2 := Lib.hid (Q2.out.keep HC2.out)
    have HL2 := Lib.hid (HQ.out.below HC2.out)
    clear a0 a1 a2 af0 af1 af2 z0 z1 z2 zf0 zf1 zf2
    have a0 := Z1.out.c0; have a1 := Z1.out.c1; have a2 := Z1.out.c2; have af0 := Z1.out.f0; have af1 := Z1.out.f1; have af2 := Z1.out.f2
    have z0 := Z2.out.c0; have z1 := Z2.out.c1; have z2 := Z2.out.c2; have zf0 := Z2.out.f0; have zf1 := Z2.out.f1; have zf2 := Z2.out.f2
    have x0 := X8.out.c0; have x1 := X8.out.c1; have x2 := X8.out.c2; have xf0 := X8.out.f0; have xf1 := X8.out.f1; have xf2 := X8.out.f2
    have hZ1 := Z1.out.lt
    have hZ2 := Z2.out.lt
    have hX8 := X8.out.lt
    have hg8 : w.heap.size ≤ w2.heap.size := by omega
    have hn8 : w.heap.size + 1 ≠ w2.heap.size := by omega
    go_wp2_with (go_at_call 35; refine (rplusLoop_any _ _ _ _ _ _ _ _ _ b' _ HFs.out HSs.out HL2.out).mono ?_; rintro e w4 ⟨A4, n4, c4, B4, m4, d4, C4, k4, f4, rfl, h4, hb4⟩; have HC4 := Lib.hid hb4; have H4 := Lib.hid h4; clear h4 hb4; have V2 := Lib.hid (Z2.out.keep HC4.out); have V8 := Lib.hid (X8.out.keep HC4.out); clear a0 a1 a2 af0 af1 af2 z0 z1 z2 zf0 zf1 zf2 x0 x1 x2 xf0 xf1 xf2; have z0 := V2.out.c0; have z1 := V2.out.c1; have z2 := V2.out.c2; have zf0 := V2.out.f0; have zf1 := V2.out.f1; have zf2 := V2.out.f2; have x0 := V8.out.c0; have x1 := V8.out.c1; have x2 := V8.out.c2; have xf0 := V8.out.f0; have xf1 := V8.out.f1; have xf2 := V8.out.f2; have hv2 := V2.out.lt; have hv8 := V8.out.lt)
    refine bodyPost_ret (v := .tuple #[.agg #[.slice A4 n4 c4, .slice B4 m4 d4, .slice C4 k4 f4], .bool true, .int .i64 (wdE b' .plusLoop)]) (by simp [results, Try.results15, go_sem, z0, z1, z2] <;> rfl) rfl (wd_fin ((H4.out.set3 V8.out (B1 := A4) (p1 := n4) (e1 := c4) (B2 := B4) (p2 := m4) (e2 := d4) (B3 := C4) (p3 := k4) (e3 := f4)).set3 (V2.out.other3 (g' := w2.heap.size) hn8 (.slice A4 n4 c4) (.slice B4 m4 d4) (.slice C4 k4 f4))) (below_set3 (below_set3 (below_then HB2.out HC4.out) hg8 (.slice A4 n4 c4) (.slice B4 m4 d4) (.slice C4 k4 f4)) (by simp) _ _ _) rfl rfl)
  · unfold wdT at HU
    go_upto_region 4 with ((go_at_call 31; refine (HU.out _).mono ?_; rintro e w2 ⟨rfl, hb2⟩; have HC2 := Lib.hid (below_then hb2 (below_one w2 (.cells #[.slice A1 n1 c1, .slice B1 m1 d1, .slice C1 k1 f1] 25))); have X8 := Lib.hid (Bx.new w2 25 (.slice A1 n1 c1) (.slice B1 m1 d1) (.slice C1 k1 f1)); have hw2 := hb2.size; have G1 := Lib.hid (Q1.out.keep hb2); clear hb2 a0 a1 a2 af0 af1 af2; have a0 := G1.out.c0; have a1 := G1.out.c1; have a2 := G1.out.c2; have af0 := G1.out.f0; have af1 := G1.out.f1; have af2 := G1.out.f2))
    generalize w2.alloc (.cells #[.slice A1 n1 c1, .slice B1 m1 d1, .slice C1 k1 f1] 25) = W2 at *
    have HB2 := Lib.hid (below_then QB.out HC2.out)
    have Z1 := Lib.hid (Q1.out.keep HC2.out)
    have Z2 := Lib.hid (Q2.out.keep HC2.out)
    have HL2 := Lib.hid (HQ.out.below HC2.out)
    clear a0 a1 a2 af0 af1 af2 z0 z1 z2 zf0 zf1 zf2
    have a0 := Z1.out.c0; have a1 := Z1.out.c1; have a2 := Z1.out.c2; have af0 := Z1.out.f0; have af1 := Z1.out.f1; have af2 := Z1.out.f2
    have z0 := Z2.out.c0; have z1 := Z2.out.c1; have z2 := Z2.out.c2; have zf0 := Z2.out.f0; have zf1 := Z2.out.f1; have zf2 := Z2.out.f2
    have x0 := X8.out.c0; have x1 := X8.out.c1; have x2 := X8.out.c2; have xf0 := X8.out.f0; have xf1 := X8.out.f1; have xf2 := X8.out.f2
    have hZ1 := Z1.out.lt
    have hZ2 := Z2.out.lt
    have hX8 := X8.out.lt
    have hg8 : w.heap.size ≤ w2.heap.size := by omega
    have hn8 : w.heap.size + 1 ≠ w2.heap.size := by omega
    go_wp2_with (go_at_call 36; refine (rleave_any _ _ _ _ _ _ _ _ _ b' _ HFs.out HSs.out HL2.out).mono ?_; rintro e w4 ⟨A4, n4, c4, B4, m4, d4, C4, k4, f4, rfl, h4, hb4⟩; have HC4 := Lib.hid hb4; have H4 := Lib.hid h4; clear h4 hb4; have V2 := Lib.hid (Z2.out.keep HC4.out); have V8 := Lib.hid (X8.out.keep HC4.out); clear a0 a1 a2 af0 af1 af2 z0 z1 z2 zf0 zf1 zf2 x0 x1 x2 xf0 xf1 xf2; have z0 := V2.out.c0; have z1 := V2.out.c1; have z2 := V2.out.c2; have zf0 := V2.out.f0; have zf1 := V2.out.f1; have zf2 := V2.out.f2; have x0 := V8.out.c0; have x1 := V8.out.c1; have x2 := V8.out.c2; have xf0 := V8.out.f0; have xf1 := V8.out.f1; have xf2 := V8.out.f2; have hv2 := V2.out.lt; have hv8 := V8.out.lt)
    refine bodyPost_ret (v := .tuple #[.agg #[.slice A4 n4 c4, .slice B4 m4 d4, .slice C4 k4 f4], .bool true, .int .i64 (wdE b' .leave)]) (by simp [results, Try.results15, go_sem, z0, z1, z2] <;> rfl) rfl (wd_fin ((H4.out.set3 V8.out (B1 := A4) (p1 := n4) (e1 := c4) (B2 := B4) (p2 := m4) (e2 := d4) (B3 := C4) (p3 := k4) (e3 := f4)).set3 (V2.out.other3 (g' := w2.heap.size) hn8 (.slice A4 n4 c4) (.slice B4 m4 d4) (.slice C4 k4 f4))) (below_set3 (below_set3 (below_then HB2.out HC4.out) hg8 (.slice A4 n4 c4) (.slice B4 m4 d4) (.slice C4 k4 f4)) (by simp) _ _ _) rfl rfl)
set_option maxHeartbeats 4000000 in
theorem rword_none (S : ByteArray) (l : List UInt8) (hS : S = ⟨l.toArray⟩) (hl : l.length ≤ 2000) (hw : wdF (l.map scU) = none) (A B C : Option Addr) (n c m d k f : Nat) (b : Bd) (w : World) (hF : Few 1000 b) (h : Bl w A n c B m d C k f b) :
    Calls Try.prog 15 #[.agg #[.slice A n c, .slice B m d, .slice C k f], .string S] w (WdPost w (flSnd b) false 0) := by
  obtain ⟨T, hT⟩ : ∃ T : ByteArray, T = ⟨(l.map scU).toArray⟩ := ⟨_, rfl⟩
  have HU := Lib.hid (rupper_is l S T hS hl hT)
  have t0 := bytes_ne hT (wdF_none hw .if_)
  have t1 := bytes_ne hT (wdF_none hw .else_)
  have t2 := bytes_ne hT (wdF_none hw .then_)
  have t3 := bytes_ne hT (wdF_none hw .begin_)
  have t4 := bytes_ne hT (wdF_none hw .again)
  have t5 := bytes_ne hT (wdF_none hw .until_)
  have t6 := bytes_ne hT (wdF_none hw .while_)
  have t7 := bytes_ne hT (wdF_none hw .repeat_)
  have t8 := bytes_ne hT (wdF_none hw .do_)
  have t9 := bytes_ne hT (wdF_none hw .mayDo)
  have t10 := bytes_ne hT (wdF_none hw .loop_)
  have t11 := bytes_ne hT (wdF_none hw .plusLoop)
  have t12 := bytes_ne hT (wdF_none hw .leave)
  unfold wdT at t0 t1 t2 t3 t4 t5 t6 t7 t8 t9 t10 t11 t12
  clear hT
  have HF := Lib.hid hF
  clear hS hl hw
  obtain ⟨hn, hm, hk⟩ := h.ns hF
  have LC := Lib.hid h.1.len
  have LM := Lib.hid h.2.1.len
  have LO := Lib.hid h.2.2.len
  have H := Lib.hid h
  clear h hF
  have X1 := Lib.hid ((Bx.new w 25 (.slice A n c) (.slice B m d) (.slice C k f)).alloc (.cells #[.slice none 0 0, .slice none 0 0, .slice none 0 0] 25))
  have X2 := Lib.hid (Bx.new2 w (.cells #[.slice A n c, .slice B m d, .slice C k f] 25) 25 (.slice none 0 0) (.slice none 0 0) (.slice none 0 0))
  have HB := Lib.hid (below_two w (.cells #[.slice A n c, .slice B m d, .slice C k f] 25) (.cells #[.slice none 0 0, .slice none 0 0, .slice none 0 0] 25))
  go_enter Try.func15, Try.ntmps15
  go_upto_region 1 with (fail)
  generalize (w.alloc (.cells #[.slice A n c, .slice B m d, .slice C k f] 25)).alloc (.cells #[.slice none 0 0, .slice none 0 0, .slice none 0 0] 25) = W at *
  have hg1 : w.heap.size < W.heap.size := X1.out.lt
  have hg2 : w.heap.size + 1 < W.heap.size := X2.out.lt
  have HL := Lib.hid (H.out.below HB.out)
  have a0 := X1.out.c0; have a1 := X1.out.c1; have a2 := X1.out.c2; have af0 := X1.out.f0; have af1 := X1.out.f1; have af2 := X1.out.f2
  have z0 := X2.out.c0; have z1 := X2.out.c1; have z2 := X2.out.c2; have zf0 := X2.out.f0; have zf1 := X2.out.f1; have zf2 := X2.out.f2
  go_upto_region 2 with (go_at_call 28; refine (rown_any _ _ _ _ _ _ _ _ _ b _ (HF.out.mono (by omega)) HL.out).mono ?_; rintro e w1 ⟨A1, n1, c1, B1, m1, d1, C1, k1, f1, rfl, h1, hb1⟩; have HB1 := Lib.hid (hb1); have H1 := Lib.hid h1; clear h1 hb1; have Y1 := Lib.hid (X1.out.keep HB1.out); have Y2 := Lib.hid (X2.out.keep HB1.out); clear a0 a1 a2 af0 af1 af2 z0 z1 z2 zf0 zf1 zf2; have a0 := Y1.out.c0; have a1 := Y1.out.c1; have a2 := Y1.out.c2; have af0 := Y1.out.f0; have af1 := Y1.out.f1; have af2 := Y1.out.f2; have z0 := Y2.out.c0; have z1 := Y2.out.c1; have z2 := Y2.out.c2; have zf0 := Y2.out.f0; have zf1 := Y2.out.f1; have zf2 := Y2.out.f2; have hY1 := Y1.out.lt; have hY2 := Y2.out.lt)
  have Q1 := Lib.hid (Y1.out.set3 (.slice A1 n1 c1) (.slice B1 m1 d1) (.slice C1 k1 f1))
  have Q2 := Lib.hid (Y2.out.other3 (g' := w.heap.size) (by simp) (.slice A1 n1 c1) (.slice B1 m1 d1) (.slice C1 k1 f1))
  have QB := Lib.hid (below_set3 (g := w.heap.size) (below_then HB.out HB1.out) (Nat.le_refl _) (.slice A1 n1 c1) (.slice B1 m1 d1) (.slice C1 k1 f1))
  have HQ := Lib.hid (H1.out.set3 Y1.out (B1 := A1) (p1 := n1) (e1 := c1) (B2 := B1) (p2 := m1) (e2 := d1) (B3 := C1) (p3 := k1) (e3 := f1))
  generalize (((w1.setCell ⟨w.heap.size, 0, none⟩ (.slice A1 n1 c1)).setCell ⟨w.heap.size, 1, none⟩ (.slice B1 m1 d1)).setCell ⟨w.heap.size, 2, none⟩ (.slice C1 k1 f1)) = W1 at *
  clear a0 a1 a2 af0 af1 af2 z0 z1 z2 zf0 zf1 zf2
  have a0 := Q1.out.c0; have a1 := Q1.out.c1; have a2 := Q1.out.c2; have af0 := Q1.out.f0; have af1 := Q1.out.f1; have af2 := Q1.out.f2
  have z0 := Q2.out.c0; have z1 := Q2.out.c1; have z2 := Q2.out.c2; have zf0 := Q2.out.f0; have zf1 := Q2.out.f1; have zf2 := Q2.out.f2
  have hQ1 := Q1.out.lt; have hQ2 := Q2.out.lt
  have HSs := Lib.hid (snd_is b)
  have HFs := Lib.hid HF.out.snd'
  generalize flSnd b = b' at *
  go_upto_region 4 with ((go_at_call 31; refine (HU.out _).mono ?_; rintro e w2 ⟨rfl, hb2⟩; have HC2 := Lib.hid (below_then hb2 (below_one w2 (.cells #[.slice A1 n1 c1, .slice B1 m1 d1, .slice C1 k1 f1] 25))); have X8 := Lib.hid (Bx.new w2 25 (.slice A1 n1 c1) (.slice B1 m1 d1) (.slice C1 k1 f1)); have hw2 := hb2.size; have G1 := Lib.hid (Q1.out.keep hb2); clear hb2 a0 a1 a2 af0 af1 af2; have a0 := G1.out.c0; have a1 := G1.out.c1; have a2 := G1.out.c2; have af0 := G1.out.f0; have af1 := G1.out.f1; have af2 := G1.out.f2))
  generalize w2.alloc (.cells #[.slice A1 n1 c1, .slice B1 m1 d1, .slice C1 k1 f1] 25) = W2 at *
  have HB2 := Lib.hid (below_then QB.out HC2.out)
  have Z1 := Lib.hid (Q1.out.keep HC2.out)
  have Z2 := Lib.hid (Q2.out.keep HC2.out)
  have HL2 := Lib.hid (HQ.out.below HC2.out)
  clear a0 a1 a2 af0 af1 af2 z0 z1 z2 zf0 zf1 zf2
  have a0 := Z1.out.c0; have a1 := Z1.out.c1; have a2 := Z1.out.c2; have af0 := Z1.out.f0; have af1 := Z1.out.f1; have af2 := Z1.out.f2
  have z0 := Z2.out.c0; have z1 := Z2.out.c1; have z2 := Z2.out.c2; have zf0 := Z2.out.f0; have zf1 := Z2.out.f1; have zf2 := Z2.out.f2
  have x0 := X8.out.c0; have x1 := X8.out.c1; have x2 := X8.out.c2; have xf0 := X8.out.f0; have xf1 := X8.out.f1; have xf2 := X8.out.f2
  have hZ1 := Z1.out.lt
  have hZ2 := Z2.out.lt
  have hX8 := X8.out.lt
  have hg8 : w.heap.size ≤ w2.heap.size := by omega
  have hn8 : w.heap.size + 1 ≠ w2.heap.size := by omega
  go_wp2
  refine bodyPost_ret (v := .tuple #[.agg #[.slice A1 n1 c1, .slice B1 m1 d1, .slice C1 k1 f1], .bool false, .int .i64 0]) (by simp [results, Try.results15, go_sem, z0, z1, z2] <;> rfl) rfl (wd_fin (HL2.out.set3 Z2.out) (below_set3 HB2.out (by simp) _ _ _) rfl rfl)
end Go.Proofs.Ytkcpmjccggfpiaa
