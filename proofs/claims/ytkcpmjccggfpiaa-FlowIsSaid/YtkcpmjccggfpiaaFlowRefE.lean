/-
  What the document's own calls answer: begins, origs, dests, word by word.
-/
import Derived.Test.YtkcpmjccggfpiaaFlowRefD
namespace Go.Proofs.Ytkcpmjccggfpiaa
open Go.RowKit

set_option maxHeartbeats 2000000 in
theorem rbegin__any (A B C : Option Addr) (n c m d k f : Nat) (b : Bd) (w : World) (hF : Few 1000 b) (hs : flSane b = true) (h : Bl w A n c B m d C k f b) :
    Calls Try.prog 32 #[.agg #[.slice A n c, .slice B m d, .slice C k f], .string ⟨#[66, 69, 71, 73, 78]⟩] w (BtPost w (wdN b .begin_) (wdE b .begin_)) := by
  have HF := Lib.hid hF
  have HS := Lib.hid hs
  clear hs
  obtain ⟨hn, hm, hk⟩ := h.ns hF
  have LC := Lib.hid h.1.len
  have LM := Lib.hid h.2.1.len
  have LO := Lib.hid h.2.2.len
  have H := Lib.hid h
  clear h hF
  have X1 := Lib.hid ((Bx.new w 25 (.slice A n c) (.slice B m d) (.slice C k f)).alloc (.cells #[.slice none 0 0, .slice none 0 0, .slice none 0 0] 25))
  have X2 := Lib.hid (Bx.new2 w (.cells #[.slice A n c, .slice B m d, .slice C k f] 25) 25 (.slice none 0 0) (.slice none 0 0) (.slice none 0 0))
  have HB := Lib.hid (below_two w (.cells #[.slice A n c, .slice B m d, .slice C k f] 25) (.cells #[.slice none 0 0, .slice none 0 0, .slice none 0 0] 25))
  go_enter Try.func32, Try.ntmps32
  go_upto_region 1 with (fail)
  generalize (w.alloc (.cells #[.slice A n c, .slice B m d, .slice C k f] 25)).alloc (.cells #[.slice none 0 0, .slice none 0 0, .slice none 0 0] 25) = W at *
  have hg1 : w.heap.size < W.heap.size := X1.out.lt
  have hg2 : w.heap.size + 1 < W.heap.size := X2.out.lt
  have HL := Lib.hid (H.out.below HB.out)
  have a0 := X1.out.c0; have a1 := X1.out.c1; have a2 := X1.out.c2; have af0 := X1.out.f0; have af1 := X1.out.f1; have af2 := X1.out.f2
  have z0 := X2.out.c0; have z1 := X2.out.c1; have z2 := X2.out.c2; have zf0 := X2.out.f0; have zf1 := X2.out.f1; have zf2 := X2.out.f2
  have HU0 := Lib.hid (Below.refl W.heap.size W)
  have HE : Hid (wdE b .begin_ = 0) := Lib.hid rfl
  have HN : Hid (wdN b .begin_ = markB b 2 (n : Int)) := Lib.hid (by rw [wdN_of HE.out]; simp only [wdB]; rw [LC.out])
  go_wp2_with (go_at_call 57; refine (rmore_any _ _ _ _ _ _ _ _ _ b 2 (n : Int) _ (HF.out.mono (by omega)) HL.out).mono ?_; rintro e w3 ⟨A3, n3, c3, B3, m3, d3, C3, k3, f3, rfl, h3, hb3⟩; have HU3 := Lib.hid (below_then HU0.out hb3); have H3 := Lib.hid h3; clear h3 hb3; have V2 := Lib.hid (X2.out.keep HU3.out); clear z0 z1 z2 zf0 zf1 zf2; have z0 := V2.out.c0; have z1 := V2.out.c1; have z2 := V2.out.c2; have zf0 := V2.out.f0; have zf1 := V2.out.f1; have zf2 := V2.out.f2; have hv2 := V2.out.lt)
  refine bodyPost_ret (v := .tuple #[.agg #[.slice A3 n3 c3, .slice B3 m3 d3, .slice C3 k3 f3], .int .i64 0]) (by simp [results, Try.results32, go_sem, z0, z1, z2] <;> rfl) rfl (bt_fin (H3.out.set3 V2.out) (below_set3 (below_then HB.out HU3.out) (by simp) _ _ _) HN.out.symm HE.out.symm)
set_option maxHeartbeats 2000000 in
theorem rif__any (A B C : Option Addr) (n c m d k f : Nat) (b : Bd) (w : World) (hF : Few 1000 b) (hs : flSane b = true) (h : Bl w A n c B m d C k f b) :
    Calls Try.prog 32 #[.agg #[.slice A n c, .slice B m d, .slice C k f], .string ⟨#[73, 70]⟩] w (BtPost w (wdN b .if_) (wdE b .if_)) := by
  have HF := Lib.hid hF
  have HS := Lib.hid hs
  clear hs
  obtain ⟨hn, hm, hk⟩ := h.ns hF
  have LC := Lib.hid h.1.len
  have LM := Lib.hid h.2.1.len
  have LO := Lib.hid h.2.2.len
  have H := Lib.hid h
  clear h hF
  have X1 := Lib.hid ((Bx.new w 25 (.slice A n c) (.slice B m d) (.slice C k f)).alloc (.cells #[.slice none 0 0, .slice none 0 0, .slice none 0 0] 25))
  have X2 := Lib.hid (Bx.new2 w (.cells #[.slice A n c, .slice B m d, .slice C k f] 25) 25 (.slice none 0 0) (.slice none 0 0) (.slice none 0 0))
  have HB := Lib.hid (below_two w (.cells #[.slice A n c, .slice B m d, .slice C k f] 25) (.cells #[.slice none 0 0, .slice none 0 0, .slice none 0 0] 25))
  go_enter Try.func32, Try.ntmps32
  go_upto_region 1 with (fail)
  generalize (w.alloc (.cells #[.slice A n c, .slice B m d, .slice C k f] 25)).alloc (.cells #[.slice none 0 0, .slice none 0 0, .slice none 0 0] 25) = W at *
  have hg1 : w.heap.size < W.heap.size := X1.out.lt
  have hg2 : w.heap.size + 1 < W.heap.size := X2.out.lt
  have HL := Lib.hid (H.out.below HB.out)
  have a0 := X1.out.c0; have a1 := X1.out.c1; have a2 := X1.out.c2; have af0 := X1.out.f0; have af1 := X1.out.f1; have af2 := X1.out.f2
  have z0 := X2.out.c0; have z1 := X2.out.c1; have z2 := X2.out.c2; have zf0 := X2.out.f0; have zf1 := X2.out.f1; have zf2 := X2.out.f2
  have HU0 := Lib.hid (Below.refl W.heap.size W)
  have HE : Hid (wdE b .if_ = 0) := Lib.hid (layE_of (by have := HF.out.1; omega))
  have HN : Hid (wdN b .if_ = markB ⟨b.code ++ [(2, 0)], b.marks, b.outs⟩ 1 (n : Int)) := Lib.hid (by rw [wdN_of HE.out]; simp only [wdB, aheadB]; rw [lay1 HE.out, LC.out])
  have FC := Lib.hid (HF.out.code [(2, 0)] (by simp))
  go_upto_region 10 with ((go_at_call 37; refine (rone_of _ _ _ _ _ _ _ _ _ b 2 0 _ (HF.out.mono (by omega)) HS.out HL.out).mono ?_; rintro e w2 ⟨A2, n2, c2, B2, m2, d2, C2, k2, f2, rfl, h2, hb2⟩; have hw2 := hb2.size; have HC2 := Lib.hid (below_then hb2 (below_one w2 (.cells #[.slice A2 n2 c2, .slice B2 m2 d2, .slice C2 k2 f2] 25))); have H2 := Lib.hid (h2.alloc (.cells #[.slice A2 n2 c2, .slice B2 m2 d2, .slice C2 k2 f2] 25)); have X8 := Lib.hid (Bx.new w2 25 (.slice A2 n2 c2) (.slice B2 m2 d2) (.slice C2 k2 f2)); clear h2 hb2))
  generalize w2.alloc (.cells #[.slice A2 n2 c2, .slice B2 m2 d2, .slice C2 k2 f2] 25) = W2 at *
  have HU2 := Lib.hid (below_then HU0.out HC2.out)
  have Y1 := Lib.hid (X1.out.keep HC2.out)
  have Y2 := Lib.hid (X2.out.keep HC2.out)
  clear a0 a1 a2 af0 af1 af2 z0 z1 z2 zf0 zf1 zf2
  have a0 := Y1.out.c0; have a1 := Y1.out.c1; have a2 := Y1.out.c2; have af0 := Y1.out.f0; have af1 := Y1.out.f1; have af2 := Y1.out.f2
  have hY1 := Y1.out.lt
  have z0 := Y2.out.c0; have z1 := Y2.out.c1; have z2 := Y2.out.c2; have zf0 := Y2.out.f0; have zf1 := Y2.out.f1; have zf2 := Y2.out.f2
  have hY2 := Y2.out.lt
  have x0 := X8.out.c0; have x1 := X8.out.c1; have x2 := X8.out.c2; have xf0 := X8.out.f0; have xf1 := X8.out.f1; have xf2 := X8.out.f2
  have hX8 := X8.out.lt
  go_wp2_with (go_at_call 57; refine (rmore_any _ _ _ _ _ _ _ _ _ _ 1 (n : Int) _ (FC.out.mono (by omega)) H2.out).mono ?_; rintro e w3 ⟨A3, n3, c3, B3, m3, d3, C3, k3, f3, rfl, h3, hb3⟩; have HU3 := Lib.hid (below_then HU2.out hb3); have H3 := Lib.hid h3; clear h3 hb3; have V2 := Lib.hid (X2.out.keep HU3.out); clear z0 z1 z2 zf0 zf1 zf2; have z0 := V2.out.c0; have z1 := V2.out.c1; have z2 := V2.out.c2; have zf0 := V2.out.f0; have zf1 := V2.out.f1; have zf2 := V2.out.f2; have hv2 := V2.out.lt)
  refine bodyPost_ret (v := .tuple #[.agg #[.slice A3 n3 c3, .slice B3 m3 d3, .slice C3 k3 f3], .int .i64 0]) (by simp [results, Try.results32, go_sem, z0, z1, z2] <;> rfl) rfl (bt_fin (H3.out.set3 V2.out) (below_set3 (below_then HB.out HU3.out) (by simp) _ _ _) HN.out.symm HE.out.symm)
set_option maxHeartbeats 2000000 in
theorem rdo__any (A B C : Option Addr) (n c m d k f : Nat) (b : Bd) (w : World) (hF : Few 1000 b) (hs : flSane b = true) (h : Bl w A n c B m d C k f b) :
    Calls Try.prog 32 #[.agg #[.slice A n c, .slice B m d, .slice C k f], .string ⟨#[68, 79]⟩] w (BtPost w (wdN b .do_) (wdE b .do_)) := by
  have HF := Lib.hid hF
  have HS := Lib.hid hs
  clear hs
  obtain ⟨hn, hm, hk⟩ := h.ns hF
  have LC := Lib.hid h.1.len
  have LM := Lib.hid h.2.1.len
  have LO := Lib.hid h.2.2.len
  have H := Lib.hid h
  clear h hF
  have X1 := Lib.hid ((Bx.new w 25 (.slice A n c) (.slice B m d) (.slice C k f)).alloc (.cells #[.slice none 0 0, .slice none 0 0, .slice none 0 0] 25))
  have X2 := Lib.hid (Bx.new2 w (.cells #[.slice A n c, .slice B m d, .slice C k f] 25) 25 (.slice none 0 0) (.slice none 0 0) (.slice none 0 0))
  have HB := Lib.hid (below_two w (.cells #[.slice A n c, .slice B m d, .slice C k f] 25) (.cells #[.slice none 0 0, .slice none 0 0, .slice none 0 0] 25))
  go_enter Try.func32, Try.ntmps32
  go_upto_region 1 with (fail)
  generalize (w.alloc (.cells #[.slice A n c, .slice B m d, .slice C k f] 25)).alloc (.cells #[.slice none 0 0, .slice none 0 0, .slice none 0 0] 25) = W at *
  have hg1 : w.heap.size < W.heap.size := X1.out.lt
  have hg2 : w.heap.size + 1 < W.heap.size := X2.out.lt
  have HL := Lib.hid (H.out.below HB.out)
  have a0 := X1.out.c0; have a1 := X1.out.c1; have a2 := X1.out.c2; have af0 := X1.out.f0; have af1 := X1.out.f1; have af2 := X1.out.f2
  have z0 := X2.out.c0; have z1 := X2.out.c1; have z2 := X2.out.c2; have zf0 := X2.out.f0; have zf1 := X2.out.f1; have zf2 := X2.out.f2
  have HU0 := Lib.hid (Below.refl W.heap.size W)
  have HE : Hid (wdE b .do_ = 0) := Lib.hid (layE_of (by have := HF.out.1; omega))
  have HN : Hid (wdN b .do_ = markB ⟨b.code ++ [(5, 0)], b.marks, b.outs⟩ 3 ((n : Int) + 1)) := Lib.hid (by rw [wdN_of HE.out]; simp only [wdB, beginB]; rw [lay1 HE.out]; simp [LC.out])
  have FC := Lib.hid (HF.out.code [(5, 0)] (by simp))
  go_upto_region 10 with ((go_at_call 37; refine (rone_of _ _ _ _ _ _ _ _ _ b 5 0 _ (HF.out.mono (by omega)) HS.out HL.out).mono ?_; rintro e w2 ⟨A2, n2, c2, B2, m2, d2, C2, k2, f2, rfl, h2, hb2⟩; have hw2 := hb2.size; have HC2 := Lib.hid (below_then hb2 (below_one w2 (.cells #[.slice A2 n2 c2, .slice B2 m2 d2, .slice C2 k2 f2] 25))); have H2 := Lib.hid (h2.alloc (.cells #[.slice A2 n2 c2, .slice B2 m2 d2, .slice C2 k2 f2] 25)); have X8 := Lib.hid (Bx.new w2 25 (.slice A2 n2 c2) (.slice B2 m2 d2) (.slice C2 k2 f2)); clear h2 hb2))
  generalize w2.alloc (.cells #[.slice A2 n2 c2, .slice B2 m2 d2, .slice C2 k2 f2] 25) = W2 at *
  have HU2 := Lib.hid (below_then HU0.out HC2.out)
  have Y1 := Lib.hid (X1.out.keep HC2.out)
  have Y2 := Lib.hid (X2.out.keep HC2.out)
  clear a0 a1 a2 af0 af1 af2 z0 z1 z2 zf0 zf1 zf2
  have a0 := Y1.out.c0; have a1 := Y1.out.c1; have a2 := Y1.out.c2; have af0 := Y1.out.f0; have af1 := Y1.out.f1; have af2 := Y1.out.f2
  have hY1 := Y1.out.lt
  have z0 := Y2.out.c0; have z1 := Y2.out.c1; have z2 := Y2.out.c2; have zf0 := Y2.out.f0; have zf1 := Y2.out.f1; have zf2 := Y2.out.f2
  have hY2 := Y2.out.lt
  have x0 := X8.out.c0; have x1 := X8.out.c1; have x2 := X8.out.c2; have xf0 := X8.out.f0; have xf1 := X8.out.f1; have xf2 := X8.out.f2
  have hX8 := X8.out.lt
  go_upto_region 15 with ((go_at_call 57; refine (rmore_any _ _ _ _ _ _ _ _ _ _ 3 ((n : Int) + 1) _ (FC.out.mono (by omega)) H2.out).mono ?_; rintro e w3 ⟨A3, n3, c3, B3, m3, d3, C3, k3, f3, rfl, h3, hb3⟩; have HC3 := Lib.hid hb3; have H3 := Lib.hid h3; clear h3 hb3; have V1 := Lib.hid (Y1.out.keep HC3.out); have V2 := Lib.hid (Y2.out.keep HC3.out); have V8 := Lib.hid (X8.out.keep HC3.out); clear a0 a1 a2 af0 af1 af2 z0 z1 z2 zf0 zf1 zf2 x0 x1 x2 xf0 xf1 xf2; have a0 := V1.out.c0; have a1 := V1.out.c1; have a2 := V1.out.c2; have af0 := V1.out.f0; have af1 := V1.out.f1; have af2 := V1.out.f2; have z0 := V2.out.c0; have z1 := V2.out.c1; have z2 := V2.out.c2; have zf0 := V2.out.f0; have zf1 := V2.out.f1; have zf2 := V2.out.f2; have x0 := V8.out.c0; have x1 := V8.out.c1; have x2 := V8.out.c2; have xf0 := V8.out.f0; have xf1 := V8.out.f1; have xf2 := V8.out.f2; have hv2 := V2.out.lt; have hv8 := V8.out.lt))
  have hn8 : w.heap.size + 1 ≠ w2.heap.size := by omega
  have hl8 : W.heap.size ≤ w2.heap.size := hw2
  have U2 := Lib.hid (V2.out.other3 (g' := w2.heap.size) hn8 (.slice A3 n3 c3) (.slice B3 m3 d3) (.slice C3 k3 f3))
  have U8 := Lib.hid (V8.out.set3 (.slice A3 n3 c3) (.slice B3 m3 d3) (.slice C3 k3 f3))
  have HU3 := Lib.hid (below_set3 (below_then HU2.out HC3.out) hl8 (.slice A3 n3 c3) (.slice B3 m3 d3) (.slice C3 k3 f3))
  have H3b := Lib.hid (H3.out.set3 V8.out (B1 := A3) (p1 := n3) (e1 := c3) (B2 := B3) (p2 := m3) (e2 := d3) (B3 := C3) (p3 := k3) (e3 := f3))
  generalize (((w3.setCell ⟨w2.heap.size, 0, none⟩ (.slice A3 n3 c3)).setCell ⟨w2.heap.size, 1, none⟩ (.slice B3 m3 d3)).setCell ⟨w2.heap.size, 2, none⟩ (.slice C3 k3 f3)) = W3 at *
  clear a0 a1 a2 af0 af1 af2 z0 z1 z2 zf0 zf1 zf2 x0 x1 x2 xf0 xf1 xf2 V1 V2 V8
  have z0 := U2.out.c0; have z1 := U2.out.c1; have z2 := U2.out.c2; have zf0 := U2.out.f0; have zf1 := U2.out.f1; have zf2 := U2.out.f2
  have x0 := U8.out.c0; have x1 := U8.out.c1; have x2 := U8.out.c2; have xf0 := U8.out.f0; have xf1 := U8.out.f1; have xf2 := U8.out.f2
  have hu2 := U2.out.lt
  have hu8 := U8.out.lt
  go_wp2
  refine bodyPost_ret (v := .tuple #[.agg #[.slice A3 n3 c3, .slice B3 m3 d3, .slice C3 k3 f3], .int .i64 0]) (by simp [results, Try.results32, go_sem, z0, z1, z2] <;> rfl) rfl (bt_fin (H3b.out.set3 U2.out) (below_set3 (below_then HB.out HU3.out) (by simp) _ _ _) HN.out.symm HE.out.symm)
set_option maxHeartbeats 2000000 in
theorem rmayDo_any (A B C : Option Addr) (n c m d k f : Nat) (b : Bd) (w : World) (hF : Few 1000 b) (hs : flSane b = true) (h : Bl w A n c B m d C k f b) :
    Calls Try.prog 32 #[.agg #[.slice A n c, .slice B m d, .slice C k f], .string ⟨#[63, 68, 79]⟩] w (BtPost w (wdN b .mayDo) (wdE b .mayDo)) := by
  have HF := Lib.hid hF
  have HS := Lib.hid hs
  clear hs
  obtain ⟨hn, hm, hk⟩ := h.ns hF
  have LC := Lib.hid h.1.len
  have LM := Lib.hid h.2.1.len
  have LO := Lib.hid h.2.2.len
  have H := Lib.hid h
  clear h hF
  have X1 := Lib.hid ((Bx.new w 25 (.slice A n c) (.slice B m d) (.slice C k f)).alloc (.cells #[.slice none 0 0, .slice none 0 0, .slice none 0 0] 25))
  have X2 := Lib.hid (Bx.new2 w (.cells #[.slice A n c, .slice B m d, .slice C k f] 25) 25 (.slice none 0 0) (.slice none 0 0) (.slice none 0 0))
  have HB := Lib.hid (below_two w (.cells #[.slice A n c, .slice B m d, .slice C k f] 25) (.cells #[.slice none 0 0, .slice none 0 0, .slice none 0 0] 25))
  go_enter Try.func32, Try.ntmps32
  go_upto_region 1 with (fail)
  generalize (w.alloc (.cells #[.slice A n c, .slice B m d, .slice C k f] 25)).alloc (.cells #[.slice none 0 0, .slice none 0 0, .slice none 0 0] 25) = W at *
  have hg1 : w.heap.size < W.heap.size := X1.out.lt
  have hg2 : w.heap.size + 1 < W.heap.size := X2.out.lt
  have HL := Lib.hid (H.out.below HB.out)
  have a0 := X1.out.c0; have a1 := X1.out.c1; have a2 := X1.out.c2; have af0 := X1.out.f0; have af1 := X1.out.f1; have af2 := X1.out.f2
  have z0 := X2.out.c0; have z1 := X2.out.c1; have z2 := X2.out.c2; have zf0 := X2.out.f0; have zf1 := X2.out.f1; have zf2 := X2.out.f2
  have HU0 := Lib.hid (Below.refl W.heap.size W)
  have HE : Hid (wdE b .mayDo = 0) := Lib.hid (layE_of (by have := HF.out.1; omega))
  have HN : Hid (wdN b .mayDo = outB (markB ⟨b.code ++ [(6, 0)], b.marks, b.outs⟩ 3 ((n : Int) + 1)) (n : Int)) := Lib.hid (by rw [wdN_of HE.out]; simp only [wdB, beginB]; rw [lay1 HE.out]; simp [LC.out])
  have FC := Lib.hid (HF.out.code [(6, 0)] (by simp))
  go_upto_region 10 with ((go_at_call 37; refine (rone_of _ _ _ _ _ _ _ _ _ b 6 0 _ (HF.out.mono (by omega)) HS.out HL.out).mono ?_; rintro e w2 ⟨A2, n2, c2, B2, m2, d2, C2, k2, f2, rfl, h2, hb2⟩; have hw2 := hb2.size; have HC2 := Lib.hid (below_then hb2 (below_one w2 (.cells #[.slice A2 n2 c2, .slice B2 m2 d2, .slice C2 k2 f2] 25))); have H2 := Lib.hid (h2.alloc (.cells #[.slice A2 n2 c2, .slice B2 m2 d2, .slice C2 k2 f2] 25)); have X8 := Lib.hid (Bx.new w2 25 (.slice A2 n2 c2) (.slice B2 m2 d2) (.slice C2 k2 f2)); clear h2 hb2))
  generalize w2.alloc (.cells #[.slice A2 n2 c2, .slice B2 m2 d2, .slice C2 k2 f2] 25) = W2 at *
  have HU2 := Lib.hid (below_then HU0.out HC2.out)
  have Y1 := Lib.hid (X1.out.keep HC2.out)
  have Y2 := Lib.hid (X2.out.keep HC2.out)
  clear a0 a1 a2 af0 af1 af2 z0 z1 z2 zf0 zf1 zf2
  have a0 := Y1.out.c0; have a1 := Y1.out.c1; have a2 := Y1.out.c2; have af0 := Y1.out.f0; have af1 := Y1.out.f1; have af2 := Y1.out.f2
  have hY1 := Y1.out.lt
  have z0 := Y2.out.c0; have z1 := Y2.out.c1; have z2 := Y2.out.c2; have zf0 := Y2.out.f0; have zf1 := Y2.out.f1; have zf2 := Y2.out.f2
  have hY2 := Y2.out.lt
  have x0 := X8.out.c0; have x1 := X8.out.c1; have x2 := X8.out.c2; have xf0 := X8.out.f0; have xf1 := X8.out.f1; have xf2 := X8.out.f2
  have hX8 := X8.out.lt
  go_upto_region 15 with ((go_at_call 57; refine (rmore_any _ _ _ _ _ _ _ _ _ _ 3 ((n : Int) + 1) _ (FC.out.mono (by omega)) H2.out).mono ?_; rintro e w3 ⟨A3, n3, c3, B3, m3, d3, C3, k3, f3, rfl, h3, hb3⟩; have HC3 := Lib.hid hb3; have H3 := Lib.hid h3; clear h3 hb3; have V1 := Lib.hid (Y1.out.keep HC3.out); have V2 := Lib.hid (Y2.out.keep HC3.out); have V8 := Lib.hid (X8.out.keep HC3.out); clear a0 a1 a2 af0 af1 af2 z0 z1 z2 zf0 zf1 zf2 x0 x1 x2 xf0 xf1 xf2; have a0 := V1.out.c0; have a1 := V1.out.c1; have a2 := V1.out.c2; have af0 := V1.out.f0; have af1 := V1.out.f1; have af2 := V1.out.f2; have z0 := V2.out.c0; have z1 := V2.out.c1; have z2 := V2.out.c2; have zf0 := V2.out.f0; have zf1 := V2.out.f1; have zf2 := V2.out.f2; have x0 := V8.out.c0; have x1 := V8.out.c1; have x2 := V8.out.c2; have xf0 := V8.out.f0; have xf1 := V8.out.f1; have xf2 := V8.out.f2; have hv2 := V2.out.lt; have hv8 := V8.out.lt))
  have hn8 : w.heap.size + 1 ≠ w2.heap.size := by omega
  have hl8 : W.heap.size ≤ w2.heap.size := hw2
  have U2 := Lib.hid (V2.out.other3 (g' := w2.heap.size) hn8 (.slice A3 n3 c3) (.slice B3 m3 d3) (.slice C3 k3 f3))
  have U8 := Lib.hid (V8.out.set3 (.slice A3 n3 c3) (.slice B3 m3 d3) (.slice C3 k3 f3))
  have HU3 := Lib.hid (below_set3 (below_then HU2.out HC3.out) hl8 (.slice A3 n3 c3) (.slice B3 m3 d3) (.slice C3 k3 f3))
  have H3b := Lib.hid (H3.out.set3 V8.out (B1 := A3) (p1 := n3) (e1 := c3) (B2 := B3) (p2 := m3) (e2 := d3) (B3 := C3) (p3 := k3) (e3 := f3))
  generalize (((w3.setCell ⟨w2.heap.size, 0, none⟩ (.slice A3 n3 c3)).setCell ⟨w2.heap.size, 1, none⟩ (.slice B3 m3 d3)).setCell ⟨w2.heap.size, 2, none⟩ (.slice C3 k3 f3)) = W3 at *
  clear a0 a1 a2 af0 af1 af2 z0 z1 z2 zf0 zf1 zf2 x0 x1 x2 xf0 xf1 xf2 V1 V2 V8
  have z0 := U2.out.c0; have z1 := U2.out.c1; have z2 := U2.out.c2; have zf0 := U2.out.f0; have zf1 := U2.out.f1; have zf2 := U2.out.f2
  have x0 := U8.out.c0; have x1 := U8.out.c1; have x2 := U8.out.c2; have xf0 := U8.out.f0; have xf1 := U8.out.f1; have xf2 := U8.out.f2
  have hu2 := U2.out.lt
  have hu8 := U8.out.lt
  go_upto_region 17 with ((go_at_call 58; refine (rout_any _ _ _ _ _ _ _ _ _ _ (n : Int) _ ((FC.out.mark 3 ((n : Int) + 1)).mono (by omega)) H3b.out).mono ?_; rintro e w4 ⟨A4, n4, c4, B4, m4, d4, C4, k4, f4, rfl, h4, hb4⟩; have HC4 := Lib.hid hb4; have H4 := Lib.hid h4; clear h4 hb4; have V2 := Lib.hid (U2.out.keep HC4.out); have V8 := Lib.hid (U8.out.keep HC4.out); clear z0 z1 z2 zf0 zf1 zf2 x0 x1 x2 xf0 xf1 xf2; have z0 := V2.out.c0; have z1 := V2.out.c1; have z2 := V2.out.c2; have zf0 := V2.out.f0; have zf1 := V2.out.f1; have zf2 := V2.out.f2; have x0 := V8.out.c0; have x1 := V8.out.c1; have x2 := V8.out.c2; have xf0 := V8.out.f0; have xf1 := V8.out.f1; have xf2 := V8.out.f2; have hv2 := V2.out.lt; have hv8 := V8.out.lt))
  have T2 := Lib.hid (V2.out.other3 (g' := w2.heap.size) hn8 (.slice A4 n4 c4) (.slice B4 m4 d4) (.slice C4 k4 f4))
  have T8 := Lib.hid (V8.out.set3 (.slice A4 n4 c4) (.slice B4 m4 d4) (.slice C4 k4 f4))
  have HU4 := Lib.hid (below_set3 (below_then HU3.out HC4.out) hl8 (.slice A4 n4 c4) (.slice B4 m4 d4) (.slice C4 k4 f4))
  have H4b := Lib.hid (H4.out.set3 V8.out (B1 := A4) (p1 := n4) (e1 := c4) (B2 := B4) (p2 := m4) (e2 := d4) (B3 := C4) (p3 := k4) (e3 := f4))
  generalize (((w4.setCell ⟨w2.heap.size, 0, none⟩ (.slice A4 n4 c4)).setCell ⟨w2.heap.size, 1, none⟩ (.slice B4 m4 d4)).setCell ⟨w2.heap.size, 2, none⟩ (.slice C4 k4 f4)) = W4 at *
  clear z0 z1 z2 zf0 zf1 zf2 x0 x1 x2 xf0 xf1 xf2 V2 V8
  have z0 := T2.out.c0; have z1 := T2.out.c1; have z2 := T2.out.c2; have zf0 := T2.out.f0; have zf1 := T2.out.f1; have zf2 := T2.out.f2
  have x0 := T8.out.c0; have x1 := T8.out.c1; have x2 := T8.out.c2; have xf0 := T8.out.f0; have xf1 := T8.out.f1; have xf2 := T8.out.f2
  have ht2 := T2.out.lt
  go_wp2
  refine bodyPost_ret (v := .tuple #[.agg #[.slice A4 n4 c4, .slice B4 m4 d4, .slice C4 k4 f4], .int .i64 0]) (by simp [results, Try.results32, go_sem, z0, z1, z2] <;> rfl) rfl (bt_fin (H4b.out.set3 T2.out) (below_set3 (below_then HB.out HU4.out) (by simp) _ _ _) HN.out.symm HE.out.symm)
end Go.Proofs.Ytkcpmjccggfpiaa
