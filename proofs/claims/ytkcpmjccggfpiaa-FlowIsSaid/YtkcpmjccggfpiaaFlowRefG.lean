/-
  What the document's own calls answer: the words that take a destination, word by word.
-/
import Derived.Test.YtkcpmjccggfpiaaFlowRefF
namespace Go.Proofs.Ytkcpmjccggfpiaa
open Go.RowKit

theorem drop_get (l : List (Int × Int)) (q : Nat) (h : q < l.length - 1) : l.dropLast.getD q (0, 0) = l.getD q (0, 0) := by
  rw [List.getD_eq_getElem?_getD, List.getD_eq_getElem?_getD, List.dropLast_eq_take, List.getElem?_take]
  simp [h]
theorem rtop1 {b : Bd} (hF : Few 50000 b) : ∃ (u v : Int) (r : Bool), (∀ (A : Option Addr) (n c : Nat) (B : Option Addr) (m d : Nat) (C : Option Addr) (k f : Nat) (w : World), Bl w A n c B m d C k f b →
    Calls Try.prog 59 #[.agg #[.slice A n c, .slice B m d, .slice C k f], .int .i64 1, .int .i64 1] w fun e w' => e = .returned (.tuple #[.agg #[.int .i64 u, .int .i64 v], .bool r]) ∧ Below w.heap.size w w') ∧ (r = true → topK (takeB b) = 1 ∧ v = topA (takeB b) ∧ ∃ q, b.marks.length = q + 2 ∧ b.marks.take q = (takeB (takeB b)).marks) ∧ (r = false → topK (takeB b) ≠ 1) := by
  by_cases hk : topK (takeB b) = 1
  · have hm : (takeB b).marks.length ≠ 0 := fun e => by rw [top_none _ e] at hk; cases hk
    have hl : (takeB b).marks.length = b.marks.length - 1 := by simp [takeB]
    have hq : b.marks.length = (b.marks.length - 2) + 1 + 1 := by omega
    have ht := top_get (takeB b) (b.marks.length - 2) (by omega)
    have hd : (takeB b).marks.getD (b.marks.length - 2) (0, 0) = b.marks.getD (b.marks.length - 2) (0, 0) := drop_get _ _ (by omega)
    rw [hd] at ht
    refine ⟨1, topA (takeB b), true, fun A n c B m d C k f w h => ?_, fun _ => ⟨hk, rfl, b.marks.length - 2, by omega, ?_⟩, fun h => by cases h⟩
    · have h2 := rtop_yes A B C n c m d k f b 1 1 w hF (b.marks.length - 2) hq (by rw [ht]; exact hk) h
      rw [ht] at h2
      exact h2
    · show _ = (b.marks.dropLast).dropLast
      rw [List.dropLast_eq_take, List.dropLast_eq_take, List.take_take]
      congr 1
      simp
      omega
  · refine ⟨0, 0, false, fun A n c B m d C k f w h => rtop_no A B C n c m d k f b 1 1 w hF (by omega) (fun q hq => ?_) h, (fun h => by cases h), fun _ => hk⟩
    have ht := top_get (takeB b) q (by simp [takeB]; omega)
    have hd : (takeB b).marks.getD q (0, 0) = b.marks.getD q (0, 0) := drop_get _ _ (by omega)
    rw [← hd, ht]
    exact hk
set_option maxHeartbeats 2000000 in
theorem ragain_any (A B C : Option Addr) (n c m d k f : Nat) (b : Bd) (w : World) (hF : Few 1000 b) (hs : flSane b = true) (h : Bl w A n c B m d C k f b) :
    Calls Try.prog 34 #[.agg #[.slice A n c, .slice B m d, .slice C k f], .string ⟨#[65, 71, 65, 73, 78]⟩] w (BtPost w (wdN b .again) (wdE b .again)) := by
  have HF := Lib.hid hF
  have HS := Lib.hid hs
  clear hs
  obtain ⟨hn, hm, hk⟩ := h.ns hF
  have LC := Lib.hid h.1.len
  have LM := Lib.hid h.2.1.len
  have LO := Lib.hid h.2.2.len
  have H := Lib.hid h
  clear h hF
  have X1 := Lib.hid ((Bx.new w 25 (.slice A n c) (.slice B m d) (.slice C k f)).alloc (.cells #[.slice none 0 0, .slice none 0 0, .slice none 0 0] 25))
  have X2 := Lib.hid (Bx.new2 w (.cells #[.slice A n c, .slice B m d, .slice C k f] 25) 25 (.slice none 0 0) (.slice none 0 0) (.slice none 0 0))
  have HB := Lib.hid (below_two w (.cells #[.slice A n c, .slice B m d, .slice C k f] 25) (.cells #[.slice none 0 0, .slice none 0 0, .slice none 0 0] 25))
  go_enter Try.func34, Try.ntmps34
  go_upto_region 1 with (fail)
  generalize (w.alloc (.cells #[.slice A n c, .slice B m d, .slice C k f] 25)).alloc (.cells #[.slice none 0 0, .slice none 0 0, .slice none 0 0] 25) = W at *
  have hg1 : w.heap.size < W.heap.size := X1.out.lt
  have hg2 : w.heap.size + 1 < W.heap.size := X2.out.lt
  have HL := Lib.hid (H.out.below HB.out)
  have a0 := X1.out.c0; have a1 := X1.out.c1; have a2 := X1.out.c2; have af0 := X1.out.f0; have af1 := X1.out.f1; have af2 := X1.out.f2
  have z0 := X2.out.c0; have z1 := X2.out.c1; have z2 := X2.out.c2; have zf0 := X2.out.f0; have zf1 := X2.out.f1; have zf2 := X2.out.f2
  have HU0 := Lib.hid (Below.refl W.heap.size W)
  by_cases hk : topK b = 2
  · skip
    obtain ⟨u1, v1, r1, hT1, hT2, hT3⟩ := rtop1 (b := b) (HF.out.mono (by omega))
    have HT1 := Lib.hid hT1
    have HT2 := Lib.hid hT2
    have HT3 := Lib.hid hT3
    clear hT1 hT2 hT3
    obtain ⟨q, hq, htk⟩ := marks_split (b := b) (by rw [hk]; decide)
    have HT := Lib.hid (rtop0_yes A B C n c m d k f b 2 W (HF.out.mono (by omega)) hk (by decide) HL.out)
    have HE : Hid (wdE b .again = 0) := Lib.hid (by show (if topK b = 2 then layE b 1 else -22) = 0; rw [if_pos hk]; exact layE_of (by have := HF.out.1; omega))
    have hl1 : layE (takeB b) 1 = 0 := layE_of (by have := HF.out.1; simp [takeB]; omega)
    have HN : Hid (wdN b .again = ⟨b.code ++ [(1, topA b)], b.marks.take q, b.outs⟩) := Lib.hid (by rw [wdN_of HE.out]; simp only [wdB, backB, if_pos hk]; rw [lay1 hl1, htk]; rfl)
    have FB := Lib.hid (HF.out.code [(1, topA b)] (by simp))
    have FC : Hid (Few 1002 ⟨b.code ++ [(1, topA b)], b.marks.take q, b.outs⟩) := Lib.hid ⟨by have := HF.out.1; simp; omega, by have := HF.out.2.1; simp; omega, by have := HF.out.2.2; simp; omega⟩
    clear hk htk hl1
    go_upto_region 2 with ((go_at_call 59; refine (HT.out).mono ?_; rintro e w1 ⟨rfl, hb1⟩; have HC1 := Lib.hid (below_then hb1 (below_one w1 (.cells #[.int .i64 2, .int .i64 (topA b)] 57))); have P6 := Lib.hid (Px.new w1 57 (.int .i64 2) (.int .i64 (topA b))); have hw1 := hb1.size; clear hb1))
    generalize w1.alloc (.cells #[.int .i64 2, .int .i64 (topA b)] 57) = W1 at *
    have HU1 := Lib.hid (below_then HU0.out HC1.out)
    have Y1 := Lib.hid (X1.out.keep HC1.out)
    have Y2 := Lib.hid (X2.out.keep HC1.out)
    clear a0 a1 a2 af0 af1 af2 z0 z1 z2 zf0 zf1 zf2
    have a0 := Y1.out.c0; have a1 := Y1.out.c1; have a2 := Y1.out.c2; have af0 := Y1.out.f0; have af1 := Y1.out.f1; have af2 := Y1.out.f2
    have hY1 := Y1.out.lt
    have z0 := Y2.out.c0; have z1 := Y2.out.c1; have z2 := Y2.out.c2; have zf0 := Y2.out.f0; have zf1 := Y2.out.f1; have zf2 := Y2.out.f2
    have hY2 := Y2.out.lt
    have hP6 := P6.out.lt
    have HL1 := Lib.hid (HL.out.below HU1.out)
    go_upto_region 3 with ((go_at_call 59; refine (HT1.out _ _ _ _ _ _ _ _ _ _ HL1.out).mono ?_; rintro e w2 ⟨rfl, hb2⟩; have HC2 := Lib.hid (below_then hb2 (below_one w2 (.cells #[.int .i64 u1, .int .i64 v1] 57))); have P8 := Lib.hid (Px.new w2 57 (.int .i64 u1) (.int .i64 v1)); have hw2 := hb2.size; clear hb2))
    generalize w2.alloc (.cells #[.int .i64 u1, .int .i64 v1] 57) = W2 at *
    have HU2 := Lib.hid (below_then HU1.out HC2.out)
    have Z1 := Lib.hid (Y1.out.keep HC2.out)
    have Z2 := Lib.hid (Y2.out.keep HC2.out)
    have Q6 := Lib.hid (P6.out.keep HC2.out)
    clear a0 a1 a2 af0 af1 af2 z0 z1 z2 zf0 zf1 zf2
    have a0 := Z1.out.c0; have a1 := Z1.out.c1; have a2 := Z1.out.c2; have af0 := Z1.out.f0; have af1 := Z1.out.f1; have af2 := Z1.out.f2
    have hZ1 := Z1.out.lt
    have z0 := Z2.out.c0; have z1 := Z2.out.c1; have z2 := Z2.out.c2; have zf0 := Z2.out.f0; have zf1 := Z2.out.f1; have zf2 := Z2.out.f2
    have hZ2 := Z2.out.lt
    have hQ6 := Q6.out.lt
    have hP8 := P8.out.lt
    have HL2 := Lib.hid (HL.out.below HU2.out)
    have p0 := Q6.out.c0
    have p1 := Q6.out.c1
    have s0 := P8.out.c0
    have s1 := P8.out.c1
    generalize topA b = a at *
    go_upto_region 12 with ((go_at_call 37; refine (rone_of _ _ _ _ _ _ _ _ _ b 1 a _ (HF.out.mono (by omega)) HS.out HL2.out).mono ?_; rintro e w3 ⟨A3, n3, c3, B3, m3, d3, C3, k3, f3, rfl, h3, hb3⟩; have hw3 := hb3.size; have HC3 := Lib.hid (below_then hb3 (below_one w3 (.cells #[.slice A3 n3 c3, .slice B3 m3 d3, .slice C3 k3 f3] 25))); have H3 := Lib.hid (h3.alloc (.cells #[.slice A3 n3 c3, .slice B3 m3 d3, .slice C3 k3 f3] 25)); have X8 := Lib.hid (Bx.new w3 25 (.slice A3 n3 c3) (.slice B3 m3 d3) (.slice C3 k3 f3)); clear h3 hb3))
    generalize w3.alloc (.cells #[.slice A3 n3 c3, .slice B3 m3 d3, .slice C3 k3 f3] 25) = W3 at *
    have HU3 := Lib.hid (below_then HU2.out HC3.out)
    have S1 := Lib.hid (Z1.out.keep HC3.out)
    have S2 := Lib.hid (Z2.out.keep HC3.out)
    clear a0 a1 a2 af0 af1 af2 z0 z1 z2 zf0 zf1 zf2
    have a0 := S1.out.c0; have a1 := S1.out.c1; have a2 := S1.out.c2; have af0 := S1.out.f0; have af1 := S1.out.f1; have af2 := S1.out.f2
    have hS1 := S1.out.lt
    have z0 := S2.out.c0; have z1 := S2.out.c1; have z2 := S2.out.c2; have zf0 := S2.out.f0; have zf1 := S2.out.f1; have zf2 := S2.out.f2
    have hS2 := S2.out.lt
    have x0 := X8.out.c0; have x1 := X8.out.c1; have x2 := X8.out.c2; have xf0 := X8.out.f0; have xf1 := X8.out.f1; have xf2 := X8.out.f2
    have hX8 := X8.out.lt
    have S6 := Lib.hid (Q6.out.keep HC3.out)
    have S8 := Lib.hid (P8.out.keep HC3.out)
    clear p0 p1 s0 s1
    have p0 := S6.out.c0
    have p1 := S6.out.c1
    have s0 := S8.out.c0
    have s1 := S8.out.c1
    go_wp2_with (go_at_call 61; refine (rless1 _ _ _ _ _ _ _ _ _ _ q _ (FB.out.mono (by omega)) hq H3.out).mono ?_; rintro e w4 ⟨A4, n4, c4, B4, m4, d4, C4, k4, f4, rfl, h4, hb4⟩; have HV := Lib.hid (below_then HU3.out hb4); have H4 := Lib.hid h4; clear h4 hb4; have V2 := Lib.hid (X2.out.keep HV.out); clear z0 z1 z2 zf0 zf1 zf2; have z0 := V2.out.c0; have z1 := V2.out.c1; have z2 := V2.out.c2; have zf0 := V2.out.f0; have zf1 := V2.out.f1; have zf2 := V2.out.f2; have hv2 := V2.out.lt)
    refine bodyPost_ret (v := .tuple #[.agg #[.slice A4 n4 c4, .slice B4 m4 d4, .slice C4 k4 f4], .int .i64 0]) (by simp [results, Try.results34, go_sem, z0, z1, z2] <;> rfl) rfl (bt_fin (H4.out.set3 V2.out) (below_set3 (below_then HB.out HV.out) (by simp) _ _ _) HN.out.symm HE.out.symm)
  · skip
    obtain ⟨u1, v1, r1, hT1, hT2, hT3⟩ := rtop1 (b := b) (HF.out.mono (by omega))
    have HT1 := Lib.hid hT1
    have HT2 := Lib.hid hT2
    have HT3 := Lib.hid hT3
    clear hT1 hT2 hT3
    have HT := Lib.hid (rtop0_no A B C n c m d k f b 2 W (HF.out.mono (by omega)) hk HL.out)
    have HE : Hid (wdE b .again = -22) := Lib.hid (by show (if topK b = 2 then layE (takeB b) 1 else -22) = -22; rw [if_neg hk])
    go_upto_region 2 with ((go_at_call 59; refine (HT.out).mono ?_; rintro e w1 ⟨rfl, hb1⟩; have HC1 := Lib.hid (below_then hb1 (below_one w1 (.cells #[.int .i64 0, .int .i64 0] 57))); have P6 := Lib.hid (Px.new w1 57 (.int .i64 0) (.int .i64 0)); have hw1 := hb1.size; clear hb1))
    generalize w1.alloc (.cells #[.int .i64 0, .int .i64 0] 57) = W1 at *
    have HU1 := Lib.hid (below_then HU0.out HC1.out)
    have Y1 := Lib.hid (X1.out.keep HC1.out)
    have Y2 := Lib.hid (X2.out.keep HC1.out)
    clear a0 a1 a2 af0 af1 af2 z0 z1 z2 zf0 zf1 zf2
    have a0 := Y1.out.c0; have a1 := Y1.out.c1; have a2 := Y1.out.c2; have af0 := Y1.out.f0; have af1 := Y1.out.f1; have af2 := Y1.out.f2
    have hY1 := Y1.out.lt
    have z0 := Y2.out.c0; have z1 := Y2.out.c1; have z2 := Y2.out.c2; have zf0 := Y2.out.f0; have zf1 := Y2.out.f1; have zf2 := Y2.out.f2
    have hY2 := Y2.out.lt
    have hP6 := P6.out.lt
    have HL1 := Lib.hid (HL.out.below HU1.out)
    go_upto_region 3 with ((go_at_call 59; refine (HT1.out _ _ _ _ _ _ _ _ _ _ HL1.out).mono ?_; rintro e w2 ⟨rfl, hb2⟩; have HC2 := Lib.hid (below_then hb2 (below_one w2 (.cells #[.int .i64 u1, .int .i64 v1] 57))); have P8 := Lib.hid (Px.new w2 57 (.int .i64 u1) (.int .i64 v1)); have hw2 := hb2.size; clear hb2))
    generalize w2.alloc (.cells #[.int .i64 u1, .int .i64 v1] 57) = W2 at *
    have HU2 := Lib.hid (below_then HU1.out HC2.out)
    have Z1 := Lib.hid (Y1.out.keep HC2.out)
    have Z2 := Lib.hid (Y2.out.keep HC2.out)
    have Q6 := Lib.hid (P6.out.keep HC2.out)
    clear a0 a1 a2 af0 af1 af2 z0 z1 z2 zf0 zf1 zf2
    have a0 := Z1.out.c0; have a1 := Z1.out.c1; have a2 := Z1.out.c2; have af0 := Z1.out.f0; have af1 := Z1.out.f1; have af2 := Z1.out.f2
    have hZ1 := Z1.out.lt
    have z0 := Z2.out.c0; have z1 := Z2.out.c1; have z2 := Z2.out.c2; have zf0 := Z2.out.f0; have zf1 := Z2.out.f1; have zf2 := Z2.out.f2
    have hZ2 := Z2.out.lt
    have hQ6 := Q6.out.lt
    have hP8 := P8.out.lt
    have HL2 := Lib.hid (HL.out.below HU2.out)
    have p0 := Q6.out.c0
    have p1 := Q6.out.c1
    have s0 := P8.out.c0
    have s1 := P8.out.c1
    go_wp2
    refine bodyPost_ret (v := .tuple #[.agg #[.slice A n c, .slice B m d, .slice C k f], .int .i64 (-22)]) (by simp [results, Try.results34, go_sem, z0, z1, z2] <;> rfl) rfl (bt_fin (b' := b) (HL2.out.set3 Z2.out) (below_set3 (below_then HB.out HU2.out) (by simp) _ _ _) (wdN_not HE.out).symm HE.out.symm)
set_option maxHeartbeats 2000000 in
theorem runtil__any (A B C : Option Addr) (n c m d k f : Nat) (b : Bd) (w : World) (hF : Few 1000 b) (hs : flSane b = true) (h : Bl w A n c B m d C k f b) :
    Calls Try.prog 34 #[.agg #[.slice A n c, .slice B m d, .slice C k f], .string ⟨#[85, 78, 84, 73, 76]⟩] w (BtPost w (wdN b .until_) (wdE b .until_)) := by
  have HF := Lib.hid hF
  have HS := Lib.hid hs
  clear hs
  obtain ⟨hn, hm, hk⟩ := h.ns hF
  have LC := Lib.hid h.1.len
  have LM := Lib.hid h.2.1.len
  have LO := Lib.hid h.2.2.len
  have H := Lib.hid h
  clear h hF
  have X1 := Lib.hid ((Bx.new w 25 (.slice A n c) (.slice B m d) (.slice C k f)).alloc (.cells #[.slice none 0 0, .slice none 0 0, .slice none 0 0] 25))
  have X2 := Lib.hid (Bx.new2 w (.cells #[.slice A n c, .slice B m d, .slice C k f] 25) 25 (.slice none 0 0) (.slice none 0 0) (.slice none 0 0))
  have HB := Lib.hid (below_two w (.cells #[.slice A n c, .slice B m d, .slice C k f] 25) (.cells #[.slice none 0 0, .slice none 0 0, .slice none 0 0] 25))
  go_enter Try.func34, Try.ntmps34
  go_upto_region 1 with (fail)
  generalize (w.alloc (.cells #[.slice A n c, .slice B m d, .slice C k f] 25)).alloc (.cells #[.slice none 0 0, .slice none 0 0, .slice none 0 0] 25) = W at *
  have hg1 : w.heap.size < W.heap.size := X1.out.lt
  have hg2 : w.heap.size + 1 < W.heap.size := X2.out.lt
  have HL := Lib.hid (H.out.below HB.out)
  have a0 := X1.out.c0; have a1 := X1.out.c1; have a2 := X1.out.c2; have af0 := X1.out.f0; have af1 := X1.out.f1; have af2 := X1.out.f2
  have z0 := X2.out.c0; have z1 := X2.out.c1; have z2 := X2.out.c2; have zf0 := X2.out.f0; have zf1 := X2.out.f1; have zf2 := X2.out.f2
  have HU0 := Lib.hid (Below.refl W.heap.size W)
  by_cases hk : topK b = 2
  · skip
    obtain ⟨u1, v1, r1, hT1, hT2, hT3⟩ := rtop1 (b := b) (HF.out.mono (by omega))
    have HT1 := Lib.hid hT1
    have HT2 := Lib.hid hT2
    have HT3 := Lib.hid hT3
    clear hT1 hT2 hT3
    obtain ⟨q, hq, htk⟩ := marks_split (b := b) (by rw [hk]; decide)
    have HT := Lib.hid (rtop0_yes A B C n c m d k f b 2 W (HF.out.mono (by omega)) hk (by decide) HL.out)
    have HE : Hid (wdE b .until_ = 0) := Lib.hid (by show (if topK b = 2 then layE b 1 else -22) = 0; rw [if_pos hk]; exact layE_of (by have := HF.out.1; omega))
    have hl1 : layE (takeB b) 1 = 0 := layE_of (by have := HF.out.1; simp [takeB]; omega)
    have HN : Hid (wdN b .until_ = ⟨b.code ++ [(2, topA b)], b.marks.take q, b.outs⟩) := Lib.hid (by rw [wdN_of HE.out]; simp only [wdB, backB, if_pos hk]; rw [lay1 hl1, htk]; rfl)
    have FB := Lib.hid (HF.out.code [(2, topA b)] (by simp))
    have FC : Hid (Few 1002 ⟨b.code ++ [(2, topA b)], b.marks.take q, b.outs⟩) := Lib.hid ⟨by have := HF.out.1; simp; omega, by have := HF.out.2.1; simp; omega, by have := HF.out.2.2; simp; omega⟩
    clear hk htk hl1
    go_upto_region 2 with ((go_at_call 59; refine (HT.out).mono ?_; rintro e w1 ⟨rfl, hb1⟩; have HC1 := Lib.hid (below_then hb1 (below_one w1 (.cells #[.int .i64 2, .int .i64 (topA b)] 57))); have P6 := Lib.hid (Px.new w1 57 (.int .i64 2) (.int .i64 (topA b))); have hw1 := hb1.size; clear hb1))
    generalize w1.alloc (.cells #[.int .i64 2, .int .i64 (topA b)] 57) = W1 at *
    have HU1 := Lib.hid (below_then HU0.out HC1.out)
    have Y1 := Lib.hid (X1.out.keep HC1.out)
    have Y2 := Lib.hid (X2.out.keep HC1.out)
    clear a0 a1 a2 af0 af1 af2 z0 z1 z2 zf0 zf1 zf2
    have a0 := Y1.out.c0; have a1 := Y1.out.c1; have a2 := Y1.out.c2; have af0 := Y1.out.f0; have af1 := Y1.out.f1; have af2 := Y1.out.f2
    have hY1 := Y1.out.lt
    have z0 := Y2.out.c0; have z1 := Y2.out.c1; have z2 := Y2.out.c2; have zf0 := Y2.out.f0; have zf1 := Y2.out.f1; have zf2 := Y2.out.f2
    have hY2 := Y2.out.lt
    have hP6 := P6.out.lt
    have HL1 := Lib.hid (HL.out.below HU1.out)
    go_upto_region 3 with ((go_at_call 59; refine (HT1.out _ _ _ _ _ _ _ _ _ _ HL1.out).mono ?_; rintro e w2 ⟨rfl, hb2⟩; have HC2 := Lib.hid (below_then hb2 (below_one w2 (.cells #[.int .i64 u1, .int .i64 v1] 57))); have P8 := Lib.hid (Px.new w2 57 (.int .i64 u1) (.int .i64 v1)); have hw2 := hb2.size; clear hb2))
    generalize w2.alloc (.cells #[.int .i64 u1, .int .i64 v1] 57) = W2 at *
    have HU2 := Lib.hid (below_then HU1.out HC2.out)
    have Z1 := Lib.hid (Y1.out.keep HC2.out)
    have Z2 := Lib.hid (Y2.out.keep HC2.out)
    have Q6 := Lib.hid (P6.out.keep HC2.out)
    clear a0 a1 a2 af0 af1 af2 z0 z1 z2 zf0 zf1 zf2
    have a0 := Z1.out.c0; have a1 := Z1.out.c1; have a2 := Z1.out.c2; have af0 := Z1.out.f0; have af1 := Z1.out.f1; have af2 := Z1.out.f2
    have hZ1 := Z1.out.lt
    have z0 := Z2.out.c0; have z1 := Z2.out.c1; have z2 := Z2.out.c2; have zf0 := Z2.out.f0; have zf1 := Z2.out.f1; have zf2 := Z2.out.f2
    have hZ2 := Z2.out.lt
    have hQ6 := Q6.out.lt
    have hP8 := P8.out.lt
    have HL2 := Lib.hid (HL.out.below HU2.out)
    have p0 := Q6.out.c0
    have p1 := Q6.out.c1
    have s0 := P8.out.c0
    have s1 := P8.out.c1
    generalize topA b = a at *
    go_upto_region 12 with ((go_at_call 37; refine (rone_of _ _ _ _ _ _ _ _ _ b 2 a _ (HF.out.mono (by omega)) HS.out HL2.out).mono ?_; rintro e w3 ⟨A3, n3, c3, B3, m3, d3, C3, k3, f3, rfl, h3, hb3⟩; have hw3 := hb3.size; have HC3 := Lib.hid (below_then hb3 (below_one w3 (.cells #[.slice A3 n3 c3, .slice B3 m3 d3, .slice C3 k3 f3] 25))); have H3 := Lib.hid (h3.alloc (.cells #[.slice A3 n3 c3, .slice B3 m3 d3, .slice C3 k3 f3] 25)); have X8 := Lib.hid (Bx.new w3 25 (.slice A3 n3 c3) (.slice B3 m3 d3) (.slice C3 k3 f3)); clear h3 hb3))
    generalize w3.alloc (.cells #[.slice A3 n3 c3, .slice B3 m3 d3, .slice C3 k3 f3] 25) = W3 at *
    have HU3 := Lib.hid (below_then HU2.out HC3.out)
    have S1 := Lib.hid (Z1.out.keep HC3.out)
    have S2 := Lib.hid (Z2.out.keep HC3.out)
    clear a0 a1 a2 af0 af1 af2 z0 z1 z2 zf0 zf1 zf2
    have a0 := S1.out.c0; have a1 := S1.out.c1; have a2 := S1.out.c2; have af0 := S1.out.f0; have af1 := S1.out.f1; have af2 := S1.out.f2
    have hS1 := S1.out.lt
    have z0 := S2.out.c0; have z1 := S2.out.c1; have z2 := S2.out.c2; have zf0 := S2.out.f0; have zf1 := S2.out.f1; have zf2 := S2.out.f2
    have hS2 := S2.out.lt
    have x0 := X8.out.c0; have x1 := X8.out.c1; have x2 := X8.out.c2; have xf0 := X8.out.f0; have xf1 := X8.out.f1; have xf2 := X8.out.f2
    have hX8 := X8.out.lt
    have S6 := Lib.hid (Q6.out.keep HC3.out)
    have S8 := Lib.hid (P8.out.keep HC3.out)
    clear p0 p1 s0 s1
    have p0 := S6.out.c0
    have p1 := S6.out.c1
    have s0 := S8.out.c0
    have s1 := S8.out.c1
    go_wp2_with (go_at_call 61; refine (rless1 _ _ _ _ _ _ _ _ _ _ q _ (FB.out.mono (by omega)) hq H3.out).mono ?_; rintro e w4 ⟨A4, n4, c4, B4, m4, d4, C4, k4, f4, rfl, h4, hb4⟩; have HV := Lib.hid (below_then HU3.out hb4); have H4 := Lib.hid h4; clear h4 hb4; have V2 := Lib.hid (X2.out.keep HV.out); clear z0 z1 z2 zf0 zf1 zf2; have z0 := V2.out.c0; have z1 := V2.out.c1; have z2 := V2.out.c2; have zf0 := V2.out.f0; have zf1 := V2.out.f1; have zf2 := V2.out.f2; have hv2 := V2.out.lt)
    refine bodyPost_ret (v := .tuple #[.agg #[.slice A4 n4 c4, .slice B4 m4 d4, .slice C4 k4 f4], .int .i64 0]) (by simp [results, Try.results34, go_sem, z0, z1, z2] <;> rfl) rfl (bt_fin (H4.out.set3 V2.out) (below_set3 (below_then HB.out HV.out) (by simp) _ _ _) HN.out.symm HE.out.symm)
  · skip
    obtain ⟨u1, v1, r1, hT1, hT2, hT3⟩ := rtop1 (b := b) (HF.out.mono (by omega))
    have HT1 := Lib.hid hT1
    have HT2 := Lib.hid hT2
    have HT3 := Lib.hid hT3
    clear hT1 hT2 hT3
    have HT := Lib.hid (rtop0_no A B C n c m d k f b 2 W (HF.out.mono (by omega)) hk HL.out)
    have HE : Hid (wdE b .until_ = -22) := Lib.hid (by show (if topK b = 2 then layE (takeB b) 1 else -22) = -22; rw [if_neg hk])
    go_upto_region 2 with ((go_at_call 59; refine (HT.out).mono ?_; rintro e w1 ⟨rfl, hb1⟩; have HC1 := Lib.hid (below_then hb1 (below_one w1 (.cells #[.int .i64 0, .int .i64 0] 57))); have P6 := Lib.hid (Px.new w1 57 (.int .i64 0) (.int .i64 0)); have hw1 := hb1.size; clear hb1))
    generalize w1.alloc (.cells #[.int .i64 0, .int .i64 0] 57) = W1 at *
    have HU1 := Lib.hid (below_then HU0.out HC1.out)
    have Y1 := Lib.hid (X1.out.keep HC1.out)
    have Y2 := Lib.hid (X2.out.keep HC1.out)
    clear a0 a1 a2 af0 af1 af2 z0 z1 z2 zf0 zf1 zf2
    have a0 := Y1.out.c0; have a1 := Y1.out.c1; have a2 := Y1.out.c2; have af0 := Y1.out.f0; have af1 := Y1.out.f1; have af2 := Y1.out.f2
    have hY1 := Y1.out.lt
    have z0 := Y2.out.c0; have z1 := Y2.out.c1; have z2 := Y2.out.c2; have zf0 := Y2.out.f0; have zf1 := Y2.out.f1; have zf2 := Y2.out.f2
    have hY2 := Y2.out.lt
    have hP6 := P6.out.lt
    have HL1 := Lib.hid (HL.out.below HU1.out)
    go_upto_region 3 with ((go_at_call 59; refine (HT1.out _ _ _ _ _ _ _ _ _ _ HL1.out).mono ?_; rintro e w2 ⟨rfl, hb2⟩; have HC2 := Lib.hid (below_then hb2 (below_one w2 (.cells #[.int .i64 u1, .int .i64 v1] 57))); have P8 := Lib.hid (Px.new w2 57 (.int .i64 u1) (.int .i64 v1)); have hw2 := hb2.size; clear hb2))
    generalize w2.alloc (.cells #[.int .i64 u1, .int .i64 v1] 57) = W2 at *
    have HU2 := Lib.hid (below_then HU1.out HC2.out)
    have Z1 := Lib.hid (Y1.out.keep HC2.out)
    have Z2 := Lib.hid (Y2.out.keep HC2.out)
    have Q6 := Lib.hid (P6.out.keep HC2.out)
    clear a0 a1 a2 af0 af1 af2 z0 z1 z2 zf0 zf1 zf2
    have a0 := Z1.out.c0; have a1 := Z1.out.c1; have a2 := Z1.out.c2; have af0 := Z1.out.f0; have af1 := Z1.out.f1; have af2 := Z1.out.f2
    have hZ1 := Z1.out.lt
    have z0 := Z2.out.c0; have z1 := Z2.out.c1; have z2 := Z2.out.c2; have zf0 := Z2.out.f0; have zf1 := Z2.out.f1; have zf2 := Z2.out.f2
    have hZ2 := Z2.out.lt
    have hQ6 := Q6.out.lt
    have hP8 := P8.out.lt
    have HL2 := Lib.hid (HL.out.below HU2.out)
    have p0 := Q6.out.c0
    have p1 := Q6.out.c1
    have s0 := P8.out.c0
    have s1 := P8.out.c1
    go_wp2
    refine bodyPost_ret (v := .tuple #[.agg #[.slice A n c, .slice B m d, .slice C k f], .int .i64 (-22)]) (by simp [results, Try.results34, go_sem, z0, z1, z2] <;> rfl) rfl (bt_fin (b' := b) (HL2.out.set3 Z2.out) (below_set3 (below_then HB.out HU2.out) (by simp) _ _ _) (wdN_not HE.out).symm HE.out.symm)
set_option maxHeartbeats 2000000 in
theorem rwhile__any (A B C : Option Addr) (n c m d k f : Nat) (b : Bd) (w : World) (hF : Few 1000 b) (hs : flSane b = true) (h : Bl w A n c B m d C k f b) :
    Calls Try.prog 34 #[.agg #[.slice A n c, .slice B m d, .slice C k f], .string ⟨#[87, 72, 73, 76, 69]⟩] w (BtPost w (wdN b .while_) (wdE b .while_)) := by
  have HF := Lib.hid hF
  have HS := Lib.hid hs
  clear hs
  obtain ⟨hn, hm, hk⟩ := h.ns hF
  have LC := Lib.hid h.1.len
  have LM := Lib.hid h.2.1.len
  have LO := Lib.hid h.2.2.len
  have H := Lib.hid h
  clear h hF
  have X1 := Lib.hid ((Bx.new w 25 (.slice A n c) (.slice B m d) (.slice C k f)).alloc (.cells #[.slice none 0 0, .slice none 0 0, .slice none 0 0] 25))
  have X2 := Lib.hid (Bx.new2 w (.cells #[.slice A n c, .slice B m d, .slice C k f] 25) 25 (.slice none 0 0) (.slice none 0 0) (.slice none 0 0))
  have HB := Lib.hid (below_two w (.cells #[.slice A n c, .slice B m d, .slice C k f] 25) (.cells #[.slice none 0 0, .slice none 0 0, .slice none 0 0] 25))
  go_enter Try.func34, Try.ntmps34
  go_upto_region 1 with (fail)
  generalize (w.alloc (.cells #[.slice A n c, .slice B m d, .slice C k f] 25)).alloc (.cells #[.slice none 0 0, .slice none 0 0, .slice none 0 0] 25) = W at *
  have hg1 : w.heap.size < W.heap.size := X1.out.lt
  have hg2 : w.heap.size + 1 < W.heap.size := X2.out.lt
  have HL := Lib.hid (H.out.below HB.out)
  have a0 := X1.out.c0; have a1 := X1.out.c1; have a2 := X1.out.c2; have af0 := X1.out.f0; have af1 := X1.out.f1; have af2 := X1.out.f2
  have z0 := X2.out.c0; have z1 := X2.out.c1; have z2 := X2.out.c2; have zf0 := X2.out.f0; have zf1 := X2.out.f1; have zf2 := X2.out.f2
  have HU0 := Lib.hid (Below.refl W.heap.size W)
  by_cases hk : topK b = 2
  · skip
    obtain ⟨u1, v1, r1, hT1, hT2, hT3⟩ := rtop1 (b := b) (HF.out.mono (by omega))
    have HT1 := Lib.hid hT1
    have HT2 := Lib.hid hT2
    have HT3 := Lib.hid hT3
    clear hT1 hT2 hT3
    obtain ⟨q, hq, htk⟩ := marks_split (b := b) (by rw [hk]; decide)
    have HT := Lib.hid (rtop0_yes A B C n c m d k f b 2 W (HF.out.mono (by omega)) hk (by decide) HL.out)
    have HE : Hid (wdE b .while_ = 0) := Lib.hid (by show (if topK b = 2 then layE b 1 else -22) = 0; rw [if_pos hk]; exact layE_of (by have := HF.out.1; omega))
    have hl1 : layE (takeB b) 1 = 0 := layE_of (by have := HF.out.1; simp [takeB]; omega)
    have HN : Hid (wdN b .while_ = markB (markB ⟨b.code ++ [(2, 0)], b.marks.take q, b.outs⟩ 1 (n : Int)) 2 (topA b)) := Lib.hid (by rw [wdN_of HE.out]; simp only [wdB, if_pos hk, aheadB]; rw [lay1 hl1]; unfold takeB markB; rw [htk, LC.out])
    have FB := Lib.hid (HF.out.code [(2, 0)] (by simp))
    have FC : Hid (Few 1002 ⟨b.code ++ [(2, 0)], b.marks.take q, b.outs⟩) := Lib.hid ⟨by have := HF.out.1; simp; omega, by have := HF.out.2.1; simp; omega, by have := HF.out.2.2; simp; omega⟩
    clear hk htk hl1
    go_upto_region 2 with ((go_at_call 59; refine (HT.out).mono ?_; rintro e w1 ⟨rfl, hb1⟩; have HC1 := Lib.hid (below_then hb1 (below_one w1 (.cells #[.int .i64 2, .int .i64 (topA b)] 57))); have P6 := Lib.hid (Px.new w1 57 (.int .i64 2) (.int .i64 (topA b))); have hw1 := hb1.size; clear hb1))
    generalize w1.alloc (.cells #[.int .i64 2, .int .i64 (topA b)] 57) = W1 at *
    have HU1 := Lib.hid (below_then HU0.out HC1.out)
    have Y1 := Lib.hid (X1.out.keep HC1.out)
    have Y2 := Lib.hid (X2.out.keep HC1.out)
    clear a0 a1 a2 af0 af1 af2 z0 z1 z2 zf0 zf1 zf2
    have a0 := Y1.out.c0; have a1 := Y1.out.c1; have a2 := Y1.out.c2; have af0 := Y1.out.f0; have af1 := Y1.out.f1; have af2 := Y1.out.f2
    have hY1 := Y1.out.lt
    have z0 := Y2.out.c0; have z1 := Y2.out.c1; have z2 := Y2.out.c2; have zf0 := Y2.out.f0; have zf1 := Y2.out.f1; have zf2 := Y2.out.f2
    have hY2 := Y2.out.lt
    have hP6 := P6.out.lt
    have HL1 := Lib.hid (HL.out.below HU1.out)
    go_upto_region 3 with ((go_at_call 59; refine (HT1.out _ _ _ _ _ _ _ _ _ _ HL1.out).mono ?_; rintro e w2 ⟨rfl, hb2⟩; have HC2 := Lib.hid (below_then hb2 (below_one w2 (.cells #[.int .i64 u1, .int .i64 v1] 57))); have P8 := Lib.hid (Px.new w2 57 (.int .i64 u1) (.int .i64 v1)); have hw2 := hb2.size; clear hb2))
    generalize w2.alloc (.cells #[.int .i64 u1, .int .i64 v1] 57) = W2 at *
    have HU2 := Lib.hid (below_then HU1.out HC2.out)
    have Z1 := Lib.hid (Y1.out.keep HC2.out)
    have Z2 := Lib.hid (Y2.out.keep HC2.out)
    have Q6 := Lib.hid (P6.out.keep HC2.out)
    clear a0 a1 a2 af0 af1 af2 z0 z1 z2 zf0 zf1 zf2
    have a0 := Z1.out.c0; have a1 := Z1.out.c1; have a2 := Z1.out.c2; have af0 := Z1.out.f0; have af1 := Z1.out.f1; have af2 := Z1.out.f2
    have hZ1 := Z1.out.lt
    have z0 := Z2.out.c0; have z1 := Z2.out.c1; have z2 := Z2.out.c2; have zf0 := Z2.out.f0; have zf1 := Z2.out.f1; have zf2 := Z2.out.f2
    have hZ2 := Z2.out.lt
    have hQ6 := Q6.out.lt
    have hP8 := P8.out.lt
    have HL2 := Lib.hid (HL.out.below HU2.out)
    have p0 := Q6.out.c0
    have p1 := Q6.out.c1
    have s0 := P8.out.c0
    have s1 := P8.out.c1
    generalize topA b = a at *
    go_upto_region 12 with ((go_at_call 37; refine (rone_of _ _ _ _ _ _ _ _ _ b 2 0 _ (HF.out.mono (by omega)) HS.out HL2.out).mono ?_; rintro e w3 ⟨A3, n3, c3, B3, m3, d3, C3, k3, f3, rfl, h3, hb3⟩; have hw3 := hb3.size; have HC3 := Lib.hid (below_then hb3 (below_one w3 (.cells #[.slice A3 n3 c3, .slice B3 m3 d3, .slice C3 k3 f3] 25))); have H3 := Lib.hid (h3.alloc (.cells #[.slice A3 n3 c3, .slice B3 m3 d3, .slice C3 k3 f3] 25)); have X8 := Lib.hid (Bx.new w3 25 (.slice A3 n3 c3) (.slice B3 m3 d3) (.slice C3 k3 f3)); clear h3 hb3))
    generalize w3.alloc (.cells #[.slice A3 n3 c3, .slice B3 m3 d3, .slice C3 k3 f3] 25) = W3 at *
    have HU3 := Lib.hid (below_then HU2.out HC3.out)
    have S1 := Lib.hid (Z1.out.keep HC3.out)
    have S2 := Lib.hid (Z2.out.keep HC3.out)
    clear a0 a1 a2 af0 af1 af2 z0 z1 z2 zf0 zf1 zf2
    have a0 := S1.out.c0; have a1 := S1.out.c1; have a2 := S1.out.c2; have af0 := S1.out.f0; have af1 := S1.out.f1; have af2 := S1.out.f2
    have hS1 := S1.out.lt
    have z0 := S2.out.c0; have z1 := S2.out.c1; have z2 := S2.out.c2; have zf0 := S2.out.f0; have zf1 := S2.out.f1; have zf2 := S2.out.f2
    have hS2 := S2.out.lt
    have x0 := X8.out.c0; have x1 := X8.out.c1; have x2 := X8.out.c2; have xf0 := X8.out.f0; have xf1 := X8.out.f1; have xf2 := X8.out.f2
    have hX8 := X8.out.lt
    have S6 := Lib.hid (Q6.out.keep HC3.out)
    have S8 := Lib.hid (P8.out.keep HC3.out)
    clear p0 p1 s0 s1
    have p0 := S6.out.c0
    have p1 := S6.out.c1
    have s0 := S8.out.c0
    have s1 := S8.out.c1
    have SK : Hid (∀ w', Below W3.heap.size W3 w' → (w'.cell? ⟨w.heap.size, 0, none⟩ = some (.slice A n c) ∧ w'.cell? ⟨w.heap.size, 1, none⟩ = some (.slice B m d) ∧ w'.cell? ⟨w.heap.size, 2, none⟩ = some (.slice C k f)) ∧ (w'.cell? ⟨w3.heap.size, 0, none⟩ = some (.slice A3 n3 c3) ∧ w'.cell? ⟨w3.heap.size, 1, none⟩ = some (.slice B3 m3 d3) ∧ w'.cell? ⟨w3.heap.size, 2, none⟩ = some (.slice C3 k3 f3)) ∧ w'.cell? ⟨w1.heap.size, 1, none⟩ = some (.int .i64 a)) := Lib.hid fun w' h => ⟨⟨(S1.out.keep h).c0, (S1.out.keep h).c1, (S1.out.keep h).c2⟩, ⟨(X8.out.keep h).c0, (X8.out.keep h).c1, (X8.out.keep h).c2⟩, (S6.out.keep h).c1⟩
    have HV : Hid (Below W3.heap.size W3 W3.drew) := Lib.hid (Below.refl _ _).drew
    have hn1 : w1.heap.size ≠ w.heap.size + 1 := by have h7 := HU1.out.size; omega
    have hn2 : w3.heap.size ≠ w.heap.size + 1 := by have h7 := HU2.out.size; omega
    go_upto_region 16 with (fail)
    go_region_held3 (fun w' => (w'.cell? ⟨w.heap.size, 0, none⟩ = some (.slice A n c) ∧ w'.cell? ⟨w.heap.size, 1, none⟩ = some (.slice B m d) ∧ w'.cell? ⟨w.heap.size, 2, none⟩ = some (.slice C k f)) ∧ (w'.cell? ⟨w3.heap.size, 0, none⟩ = some (.slice A3 n3 c3) ∧ w'.cell? ⟨w3.heap.size, 1, none⟩ = some (.slice B3 m3 d3) ∧ w'.cell? ⟨w3.heap.size, 2, none⟩ = some (.slice C3 k3 f3)) ∧ w'.cell? ⟨w1.heap.size, 1, none⟩ = some (.int .i64 a)) (first | assumption | (with_reducible exact ⟨⟨(V1.out.other3 (g' := w.heap.size + 1) (by simp) (.slice A6 n6 c6) (.slice B6 m6 d6) (.slice C6 k6 f6)).c0, (V1.out.other3 (g' := w.heap.size + 1) (by simp) (.slice A6 n6 c6) (.slice B6 m6 d6) (.slice C6 k6 f6)).c1, (V1.out.other3 (g' := w.heap.size + 1) (by simp) (.slice A6 n6 c6) (.slice B6 m6 d6) (.slice C6 k6 f6)).c2⟩, ⟨(V8.out.other3 (g' := w.heap.size + 1) hn2 (.slice A6 n6 c6) (.slice B6 m6 d6) (.slice C6 k6 f6)).c0, (V8.out.other3 (g' := w.heap.size + 1) hn2 (.slice A6 n6 c6) (.slice B6 m6 d6) (.slice C6 k6 f6)).c1, (V8.out.other3 (g' := w.heap.size + 1) hn2 (.slice A6 n6 c6) (.slice B6 m6 d6) (.slice C6 k6 f6)).c2⟩, (V6.out.other3 (g' := w.heap.size + 1) hn1 (.slice A6 n6 c6) (.slice B6 m6 d6) (.slice C6 k6 f6)).c1⟩) | exact SK.out _ HV.out)
      (first
        | (go_at_call 61; (with_reducible refine (rless1 _ _ _ _ _ _ _ _ _ _ q _ (FB.out.mono (by omega)) hq (H3.out.below HV.out)).mono ?_); rintro e w4 ⟨A4, n4, c4, B4, m4, d4, C4, k4, f4, rfl, h4, hb4⟩; have HV := Lib.hid (below_then HV.out hb4); have H4 := Lib.hid h4; clear h4 hb4)
        | (go_at_call 57; (with_reducible refine (rmore_any _ _ _ _ _ _ _ _ _ _ 1 (n : Int) _ (FC.out.mono (by omega)) H4.out).mono ?_); rintro e w5 ⟨A5, n5, c5, B5, m5, d5, C5, k5, f5, rfl, h5, hb5⟩; have HV := Lib.hid (below_then HV.out hb5); have H5 := Lib.hid h5; clear h5 hb5)
        | (go_at_call 57; (with_reducible refine (rmore_any _ _ _ _ _ _ _ _ _ _ 2 a _ ((FC.out.mark 1 (n : Int)).mono (by omega)) H5.out).mono ?_); rintro e w6 ⟨A6, n6, c6, B6, m6, d6, C6, k6, f6, rfl, h6, hb6⟩; have HV := Lib.hid (below_then HV.out hb6); have H6 := Lib.hid h6; clear h6 hb6; have V1 := Lib.hid (S1.out.keep HV.out); have V2 := Lib.hid (S2.out.keep HV.out); have V8 := Lib.hid (X8.out.keep HV.out); have V6 := Lib.hid (S6.out.keep HV.out); clear z0 z1 z2 zf0 zf1 zf2; have z0 := V2.out.c0; have z1 := V2.out.c1; have z2 := V2.out.c2; have zf0 := V2.out.f0; have zf1 := V2.out.f1; have zf2 := V2.out.f2; have hv2 := V2.out.lt))
    go_wp2
    refine bodyPost_ret (v := .tuple #[.agg #[.slice A6 n6 c6, .slice B6 m6 d6, .slice C6 k6 f6], .int .i64 0]) (by simp [results, Try.results34, go_sem, z0, z1, z2] <;> rfl) rfl (bt_fin (H6.out.set3 V2.out) (below_set3 (below_then HB.out (below_then HU3.out HV.out)) (by simp) _ _ _) HN.out.symm HE.out.symm)
  · skip
    obtain ⟨u1, v1, r1, hT1, hT2, hT3⟩ := rtop1 (b := b) (HF.out.mono (by omega))
    have HT1 := Lib.hid hT1
    have HT2 := Lib.hid hT2
    have HT3 := Lib.hid hT3
    clear hT1 hT2 hT3
    have HT := Lib.hid (rtop0_no A B C n c m d k f b 2 W (HF.out.mono (by omega)) hk HL.out)
    have HE : Hid (wdE b .while_ = -22) := Lib.hid (by show (if topK b = 2 then layE b 1 else -22) = -22; rw [if_neg hk])
    go_upto_region 2 with ((go_at_call 59; refine (HT.out).mono ?_; rintro e w1 ⟨rfl, hb1⟩; have HC1 := Lib.hid (below_then hb1 (below_one w1 (.cells #[.int .i64 0, .int .i64 0] 57))); have P6 := Lib.hid (Px.new w1 57 (.int .i64 0) (.int .i64 0)); have hw1 := hb1.size; clear hb1))
    generalize w1.alloc (.cells #[.int .i64 0, .int .i64 0] 57) = W1 at *
    have HU1 := Lib.hid (below_then HU0.out HC1.out)
    have Y1 := Lib.hid (X1.out.keep HC1.out)
    have Y2 := Lib.hid (X2.out.keep HC1.out)
    clear a0 a1 a2 af0 af1 af2 z0 z1 z2 zf0 zf1 zf2
    have a0 := Y1.out.c0; have a1 := Y1.out.c1; have a2 := Y1.out.c2; have af0 := Y1.out.f0; have af1 := Y1.out.f1; have af2 := Y1.out.f2
    have hY1 := Y1.out.lt
    have z0 := Y2.out.c0; have z1 := Y2.out.c1; have z2 := Y2.out.c2; have zf0 := Y2.out.f0; have zf1 := Y2.out.f1; have zf2 := Y2.out.f2
    have hY2 := Y2.out.lt
    have hP6 := P6.out.lt
    have HL1 := Lib.hid (HL.out.below HU1.out)
    go_upto_region 3 with ((go_at_call 59; refine (HT1.out _ _ _ _ _ _ _ _ _ _ HL1.out).mono ?_; rintro e w2 ⟨rfl, hb2⟩; have HC2 := Lib.hid (below_then hb2 (below_one w2 (.cells #[.int .i64 u1, .int .i64 v1] 57))); have P8 := Lib.hid (Px.new w2 57 (.int .i64 u1) (.int .i64 v1)); have hw2 := hb2.size; clear hb2))
    generalize w2.alloc (.cells #[.int .i64 u1, .int .i64 v1] 57) = W2 at *
    have HU2 := Lib.hid (below_then HU1.out HC2.out)
    have Z1 := Lib.hid (Y1.out.keep HC2.out)
    have Z2 := Lib.hid (Y2.out.keep HC2.out)
    have Q6 := Lib.hid (P6.out.keep HC2.out)
    clear a0 a1 a2 af0 af1 af2 z0 z1 z2 zf0 zf1 zf2
    have a0 := Z1.out.c0; have a1 := Z1.out.c1; have a2 := Z1.out.c2; have af0 := Z1.out.f0; have af1 := Z1.out.f1; have af2 := Z1.out.f2
    have hZ1 := Z1.out.lt
    have z0 := Z2.out.c0; have z1 := Z2.out.c1; have z2 := Z2.out.c2; have zf0 := Z2.out.f0; have zf1 := Z2.out.f1; have zf2 := Z2.out.f2
    have hZ2 := Z2.out.lt
    have hQ6 := Q6.out.lt
    have hP8 := P8.out.lt
    have HL2 := Lib.hid (HL.out.below HU2.out)
    have p0 := Q6.out.c0
    have p1 := Q6.out.c1
    have s0 := P8.out.c0
    have s1 := P8.out.c1
    go_wp2
    refine bodyPost_ret (v := .tuple #[.agg #[.slice A n c, .slice B m d, .slice C k f], .int .i64 (-22)]) (by simp [results, Try.results34, go_sem, z0, z1, z2] <;> rfl) rfl (bt_fin (b' := b) (HL2.out.set3 Z2.out) (below_set3 (below_then HB.out HU2.out) (by simp) _ _ _) (wdN_not HE.out).symm HE.out.symm)
set_option maxHeartbeats 2000000 in
theorem rrepeat__any (A B C : Option Addr) (n c m d k f : Nat) (b : Bd) (w : World) (hF : Few 1000 b) (hs : flSane b = true) (h : Bl w A n c B m d C k f b) :
    Calls Try.prog 34 #[.agg #[.slice A n c, .slice B m d, .slice C k f], .string ⟨#[82, 69, 80, 69, 65, 84]⟩] w (BtPost w (wdN b .repeat_) (wdE b .repeat_)) := by
  have HF := Lib.hid hF
  have HS := Lib.hid hs
  clear hs
  obtain ⟨hn, hm, hk⟩ := h.ns hF
  have LC := Lib.hid h.1.len
  have LM := Lib.hid h.2.1.len
  have LO := Lib.hid h.2.2.len
  have H := Lib.hid h
  clear h hF
  have X1 := Lib.hid ((Bx.new w 25 (.slice A n c) (.slice B m d) (.slice C k f)).alloc (.cells #[.slice none 0 0, .slice none 0 0, .slice none 0 0] 25))
  have X2 := Lib.hid (Bx.new2 w (.cells #[.slice A n c, .slice B m d, .slice C k f] 25) 25 (.slice none 0 0) (.slice none 0 0) (.slice none 0 0))
  have HB := Lib.hid (below_two w (.cells #[.slice A n c, .slice B m d, .slice C k f] 25) (.cells #[.slice none 0 0, .slice none 0 0, .slice none 0 0] 25))
  go_enter Try.func34, Try.ntmps34
  go_upto_region 1 with (fail)
  generalize (w.alloc (.cells #[.slice A n c, .slice B m d, .slice C k f] 25)).alloc (.cells #[.slice none 0 0, .slice none 0 0, .slice none 0 0] 25) = W at *
  have hg1 : w.heap.size < W.heap.size := X1.out.lt
  have hg2 : w.heap.size + 1 < W.heap.size := X2.out.lt
  have HL := Lib.hid (H.out.below HB.out)
  have a0 := X1.out.c0; have a1 := X1.out.c1; have a2 := X1.out.c2; have af0 := X1.out.f0; have af1 := X1.out.f1; have af2 := X1.out.f2
  have z0 := X2.out.c0; have z1 := X2.out.c1; have z2 := X2.out.c2; have zf0 := X2.out.f0; have zf1 := X2.out.f1; have zf2 := X2.out.f2
  have HU0 := Lib.hid (Below.refl W.heap.size W)
  by_cases hk : topK b = 2
  · skip
    obtain ⟨u1, v1, r1, hT1, hT2, hT3⟩ := rtop1 (b := b) (HF.out.mono (by omega))
    have HT1 := Lib.hid hT1
    have HT2 := Lib.hid hT2
    have HT3 := Lib.hid hT3
    clear hT1 hT2 hT3
    obtain ⟨q, hq, htk⟩ := marks_split (b := b) (by rw [hk]; decide)
    have HT := Lib.hid (rtop0_yes A B C n c m d k f b 2 W (HF.out.mono (by omega)) hk (by decide) HL.out)
    cases r1
    · have hk2 := HT3.out rfl
      have HE : Hid (wdE b .repeat_ = -22) := Lib.hid (by show (if topK b = 2 then (if topK (takeB b) = 1 then layE b 1 else -22) else -22) = -22; rw [if_pos hk, if_neg hk2])
      go_upto_region 2 with ((go_at_call 59; refine (HT.out).mono ?_; rintro e w1 ⟨rfl, hb1⟩; have HC1 := Lib.hid (below_then hb1 (below_one w1 (.cells #[.int .i64 2, .int .i64 (topA b)] 57))); have P6 := Lib.hid (Px.new w1 57 (.int .i64 2) (.int .i64 (topA b))); have hw1 := hb1.size; clear hb1))
      generalize w1.alloc (.cells #[.int .i64 2, .int .i64 (topA b)] 57) = W1 at *
      have HU1 := Lib.hid (below_then HU0.out HC1.out)
      have Y1 := Lib.hid (X1.out.keep HC1.out)
      have Y2 := Lib.hid (X2.out.keep HC1.out)
      clear a0 a1 a2 af0 af1 af2 z0 z1 z2 zf0 zf1 zf2
      have a0 := Y1.out.c0; have a1 := Y1.out.c1; have a2 := Y1.out.c2; have af0 := Y1.out.f0; have af1 := Y1.out.f1; have af2 := Y1.out.f2
      have hY1 := Y1.out.lt
      have z0 := Y2.out.c0; have z1 := Y2.out.c1; have z2 := Y2.out.c2; have zf0 := Y2.out.f0; have zf1 := Y2.out.f1; have zf2 := Y2.out.f2
      have hY2 := Y2.out.lt
      have hP6 := P6.out.lt
      have HL1 := Lib.hid (HL.out.below HU1.out)
      go_upto_region 3 with ((go_at_call 59; refine (HT1.out _ _ _ _ _ _ _ _ _ _ HL1.out).mono ?_; rintro e w2 ⟨rfl, hb2⟩; have HC2 := Lib.hid (below_then hb2 (below_one w2 (.cells #[.int .i64 u1, .int .i64 v1] 57))); have P8 := Lib.hid (Px.new w2 57 (.int .i64 u1) (.int .i64 v1)); have hw2 := hb2.size; clear hb2))
      generalize w2.alloc (.cells #[.int .i64 u1, .int .i64 v1] 57) = W2 at *
      have HU2 := Lib.hid (below_then HU1.out HC2.out)
      have Z1 := Lib.hid (Y1.out.keep HC2.out)
      have Z2 := Lib.hid (Y2.out.keep HC2.out)
      have Q6 := Lib.hid (P6.out.keep HC2.out)
      clear a0 a1 a2 af0 af1 af2 z0 z1 z2 zf0 zf1 zf2
      have a0 := Z1.out.c0; have a1 := Z1.out.c1; have a2 := Z1.out.c2; have af0 := Z1.out.f0; have af1 := Z1.out.f1; have af2 := Z1.out.f2
      have hZ1 := Z1.out.lt
      have z0 := Z2.out.c0; have z1 := Z2.out.c1; have z2 := Z2.out.c2; have zf0 := Z2.out.f0; have zf1 := Z2.out.f1; have zf2 := Z2.out.f2
      have hZ2 := Z2.out.lt
      have hQ6 := Q6.out.lt
      have hP8 := P8.out.lt
      have HL2 := Lib.hid (HL.out.below HU2.out)
      have p0 := Q6.out.c0
      have p1 := Q6.out.c1
      have s0 := P8.out.c0
      have s1 := P8.out.c1
      go_wp2
      refine bodyPost_ret (v := .tuple #[.agg #[.slice A n c, .slice B m d, .slice C k f], .int .i64 (-22)]) (by simp [results, Try.results34, go_sem, z0, z1, z2] <;> rfl) rfl (bt_fin (b' := b) (HL2.out.set3 Z2.out) (below_set3 (below_then HB.out HU2.out) (by simp) _ _ _) (wdN_not HE.out).symm HE.out.symm)
    · obtain ⟨hk2, hv, q2, hq2, htk2⟩ := HT2.out rfl
      have hTs : flSane (takeB b) = true := sane_take HS.out (by rw [hk]; decide) (by rw [hk]; decide)
      obtain ⟨r, hr, hrl⟩ := top_place hTs hk2
      have hvr : v1 = (r : Int) := hv.trans hr
      have HE : Hid (wdE b .repeat_ = 0) := Lib.hid (by show (if topK b = 2 then (if topK (takeB b) = 1 then layE b 1 else -22) else -22) = 0; rw [if_pos hk, if_pos hk2]; exact layE_of (by have := HF.out.1; omega))
      have hl1 : layE (takeB (takeB b)) 1 = 0 := layE_of (by have := HF.out.1; simp [takeB]; omega)
      have HN : Hid (wdN b .repeat_ = resB ⟨b.code ++ [(1, topA b)], b.marks.take q2, b.outs⟩ [(r : Int)]) := Lib.hid (by rw [wdN_of HE.out]; simp only [wdB, if_pos hk, if_pos hk2]; rw [hr, lay1 hl1, htk2]; rfl)
      have FB := Lib.hid (HF.out.code [(1, topA b)] (by simp))
      have FC : Hid (Few 1002 ⟨b.code ++ [(1, topA b)], b.marks.take q2, b.outs⟩) := Lib.hid ⟨by have := HF.out.1; simp; omega, by have := HF.out.2.1; simp; omega, by have := HF.out.2.2; simp; omega⟩
      have hrl2 : r < (b.code ++ [((1 : Int), topA b)]).length := by have h9 : r < b.code.length := hrl; simp; omega
      clear hr hv hk hk2 hTs htk htk2 hl1 hrl
      subst hvr
      go_upto_region 2 with ((go_at_call 59; refine (HT.out).mono ?_; rintro e w1 ⟨rfl, hb1⟩; have HC1 := Lib.hid (below_then hb1 (below_one w1 (.cells #[.int .i64 2, .int .i64 (topA b)] 57))); have P6 := Lib.hid (Px.new w1 57 (.int .i64 2) (.int .i64 (topA b))); have hw1 := hb1.size; clear hb1))
      generalize w1.alloc (.cells #[.int .i64 2, .int .i64 (topA b)] 57) = W1 at *
      have HU1 := Lib.hid (below_then HU0.out HC1.out)
      have Y1 := Lib.hid (X1.out.keep HC1.out)
      have Y2 := Lib.hid (X2.out.keep HC1.out)
      clear a0 a1 a2 af0 af1 af2 z0 z1 z2 zf0 zf1 zf2
      have a0 := Y1.out.c0; have a1 := Y1.out.c1; have a2 := Y1.out.c2; have af0 := Y1.out.f0; have af1 := Y1.out.f1; have af2 := Y1.out.f2
      have hY1 := Y1.out.lt
      have z0 := Y2.out.c0; have z1 := Y2.out.c1; have z2 := Y2.out.c2; have zf0 := Y2.out.f0; have zf1 := Y2.out.f1; have zf2 := Y2.out.f2
      have hY2 := Y2.out.lt
      have hP6 := P6.out.lt
      have HL1 := Lib.hid (HL.out.below HU1.out)
      go_upto_region 3 with ((go_at_call 59; refine (HT1.out _ _ _ _ _ _ _ _ _ _ HL1.out).mono ?_; rintro e w2 ⟨rfl, hb2⟩; have HC2 := Lib.hid (below_then hb2 (below_one w2 (.cells #[.int .i64 u1, .int .i64 (r : Int)] 57))); have P8 := Lib.hid (Px.new w2 57 (.int .i64 u1) (.int .i64 (r : Int))); have hw2 := hb2.size; clear hb2))
      generalize w2.alloc (.cells #[.int .i64 u1, .int .i64 (r : Int)] 57) = W2 at *
      have HU2 := Lib.hid (below_then HU1.out HC2.out)
      have Z1 := Lib.hid (Y1.out.keep HC2.out)
      have Z2 := Lib.hid (Y2.out.keep HC2.out)
      have Q6 := Lib.hid (P6.out.keep HC2.out)
      clear a0 a1 a2 af0 af1 af2 z0 z1 z2 zf0 zf1 zf2
      have a0 := Z1.out.c0; have a1 := Z1.out.c1; have a2 := Z1.out.c2; have af0 := Z1.out.f0; have af1 := Z1.out.f1; have af2 := Z1.out.f2
      have hZ1 := Z1.out.lt
      have z0 := Z2.out.c0; have z1 := Z2.out.c1; have z2 := Z2.out.c2; have zf0 := Z2.out.f0; have zf1 := Z2.out.f1; have zf2 := Z2.out.f2
      have hZ2 := Z2.out.lt
      have hQ6 := Q6.out.lt
      have hP8 := P8.out.lt
      have HL2 := Lib.hid (HL.out.below HU2.out)
      have p0 := Q6.out.c0
      have p1 := Q6.out.c1
      have s0 := P8.out.c0
      have s1 := P8.out.c1
      generalize topA b = a at *
      go_upto_region 12 with ((go_at_call 37; refine (rone_of _ _ _ _ _ _ _ _ _ b 1 a _ (HF.out.mono (by omega)) HS.out HL2.out).mono ?_; rintro e w3 ⟨A3, n3, c3, B3, m3, d3, C3, k3, f3, rfl, h3, hb3⟩; have hw3 := hb3.size; have HC3 := Lib.hid (below_then hb3 (below_one w3 (.cells #[.slice A3 n3 c3, .slice B3 m3 d3, .slice C3 k3 f3] 25))); have H3 := Lib.hid (h3.alloc (.cells #[.slice A3 n3 c3, .slice B3 m3 d3, .slice C3 k3 f3] 25)); have X8 := Lib.hid (Bx.new w3 25 (.slice A3 n3 c3) (.slice B3 m3 d3) (.slice C3 k3 f3)); clear h3 hb3))
      generalize w3.alloc (.cells #[.slice A3 n3 c3, .slice B3 m3 d3, .slice C3 k3 f3] 25) = W3 at *
      have HU3 := Lib.hid (below_then HU2.out HC3.out)
      have S1 := Lib.hid (Z1.out.keep HC3.out)
      have S2 := Lib.hid (Z2.out.keep HC3.out)
      clear a0 a1 a2 af0 af1 af2 z0 z1 z2 zf0 zf1 zf2
      have a0 := S1.out.c0; have a1 := S1.out.c1; have a2 := S1.out.c2; have af0 := S1.out.f0; have af1 := S1.out.f1; have af2 := S1.out.f2
      have hS1 := S1.out.lt
      have z0 := S2.out.c0; have z1 := S2.out.c1; have z2 := S2.out.c2; have zf0 := S2.out.f0; have zf1 := S2.out.f1; have zf2 := S2.out.f2
      have hS2 := S2.out.lt
      have x0 := X8.out.c0; have x1 := X8.out.c1; have x2 := X8.out.c2; have xf0 := X8.out.f0; have xf1 := X8.out.f1; have xf2 := X8.out.f2
      have hX8 := X8.out.lt
      have S6 := Lib.hid (Q6.out.keep HC3.out)
      have S8 := Lib.hid (P8.out.keep HC3.out)
      clear p0 p1 s0 s1
      have p0 := S6.out.c0
      have p1 := S6.out.c1
      have s0 := S8.out.c0
      have s1 := S8.out.c1
      have SK : Hid (∀ w', Below W3.heap.size W3 w' → (w'.cell? ⟨w.heap.size, 0, none⟩ = some (.slice A n c) ∧ w'.cell? ⟨w.heap.size, 1, none⟩ = some (.slice B m d) ∧ w'.cell? ⟨w.heap.size, 2, none⟩ = some (.slice C k f)) ∧ (w'.cell? ⟨w3.heap.size, 0, none⟩ = some (.slice A3 n3 c3) ∧ w'.cell? ⟨w3.heap.size, 1, none⟩ = some (.slice B3 m3 d3) ∧ w'.cell? ⟨w3.heap.size, 2, none⟩ = some (.slice C3 k3 f3)) ∧ w'.cell? ⟨w2.heap.size, 1, none⟩ = some (.int .i64 (r : Int))) := Lib.hid fun w' h => ⟨⟨(S1.out.keep h).c0, (S1.out.keep h).c1, (S1.out.keep h).c2⟩, ⟨(X8.out.keep h).c0, (X8.out.keep h).c1, (X8.out.keep h).c2⟩, (S8.out.keep h).c1⟩
      have HV : Hid (Below W3.heap.size W3 W3.drew) := Lib.hid (Below.refl _ _).drew
      have hn1 : w2.heap.size ≠ w.heap.size + 1 := by have h7 := HU1.out.size; omega
      have hn2 : w3.heap.size ≠ w.heap.size + 1 := by have h7 := HU2.out.size; omega
      go_upto_region 18 with (fail)
      go_region_held3 (fun w' => (w'.cell? ⟨w.heap.size, 0, none⟩ = some (.slice A n c) ∧ w'.cell? ⟨w.heap.size, 1, none⟩ = some (.slice B m d) ∧ w'.cell? ⟨w.heap.size, 2, none⟩ = some (.slice C k f)) ∧ (w'.cell? ⟨w3.heap.size, 0, none⟩ = some (.slice A3 n3 c3) ∧ w'.cell? ⟨w3.heap.size, 1, none⟩ = some (.slice B3 m3 d3) ∧ w'.cell? ⟨w3.heap.size, 2, none⟩ = some (.slice C3 k3 f3)) ∧ w'.cell? ⟨w2.heap.size, 1, none⟩ = some (.int .i64 (r : Int))) (first | assumption | (with_reducible exact ⟨⟨(V1.out.other3 (g' := w.heap.size + 1) (by simp) (.slice A5 n5 c5) (.slice B5 m5 d5) (.slice C5 k5 f5)).c0, (V1.out.other3 (g' := w.heap.size + 1) (by simp) (.slice A5 n5 c5) (.slice B5 m5 d5) (.slice C5 k5 f5)).c1, (V1.out.other3 (g' := w.heap.size + 1) (by simp) (.slice A5 n5 c5) (.slice B5 m5 d5) (.slice C5 k5 f5)).c2⟩, ⟨(V8.out.other3 (g' := w.heap.size + 1) hn2 (.slice A5 n5 c5) (.slice B5 m5 d5) (.slice C5 k5 f5)).c0, (V8.out.other3 (g' := w.heap.size + 1) hn2 (.slice A5 n5 c5) (.slice B5 m5 d5) (.slice C5 k5 f5)).c1, (V8.out.other3 (g' := w.heap.size + 1) hn2 (.slice A5 n5 c5) (.slice B5 m5 d5) (.slice C5 k5 f5)).c2⟩, (V6.out.other3 (g' := w.heap.size + 1) hn1 (.slice A5 n5 c5) (.slice B5 m5 d5) (.slice C5 k5 f5)).c1⟩) | exact SK.out _ HV.out)
        (first
          | (go_at_call 61; (with_reducible refine (rless2 _ _ _ _ _ _ _ _ _ _ q2 _ (FB.out.mono (by omega)) hq2 (H3.out.below HV.out)).mono ?_); rintro e w4 ⟨A4, n4, c4, B4, m4, d4, C4, k4, f4, rfl, h4, hb4⟩; have HV := Lib.hid (below_then HV.out hb4); have H4 := Lib.hid h4; clear h4 hb4)
          | (go_at_call 60; (with_reducible refine (rresolve_any _ _ _ _ _ _ _ _ _ _ r _ (FC.out.mono (by omega)) hrl2 H4.out).mono ?_); rintro e w5 ⟨A5, n5, c5, B5, m5, d5, C5, k5, f5, rfl, h5, hb5⟩; have HV := Lib.hid (below_then HV.out hb5); have H5 := Lib.hid h5; clear h5 hb5; have V1 := Lib.hid (S1.out.keep HV.out); have V2 := Lib.hid (S2.out.keep HV.out); have V8 := Lib.hid (X8.out.keep HV.out); have V6 := Lib.hid (S8.out.keep HV.out); clear z0 z1 z2 zf0 zf1 zf2; have z0 := V2.out.c0; have z1 := V2.out.c1; have z2 := V2.out.c2; have zf0 := V2.out.f0; have zf1 := V2.out.f1; have zf2 := V2.out.f2; have hv2 := V2.out.lt))
      go_wp2
      refine bodyPost_ret (v := .tuple #[.agg #[.slice A5 n5 c5, .slice B5 m5 d5, .slice C5 k5 f5], .int .i64 0]) (by simp [results, Try.results34, go_sem, z0, z1, z2] <;> rfl) rfl (bt_fin (H5.out.set3 V2.out) (below_set3 (below_then HB.out (below_then HU3.out HV.out)) (by simp) _ _ _) HN.out.symm HE.out.symm)
  · skip
    obtain ⟨u1, v1, r1, hT1, hT2, hT3⟩ := rtop1 (b := b) (HF.out.mono (by omega))
    have HT1 := Lib.hid hT1
    have HT2 := Lib.hid hT2
    have HT3 := Lib.hid hT3
    clear hT1 hT2 hT3
    have HT := Lib.hid (rtop0_no A B C n c m d k f b 2 W (HF.out.mono (by omega)) hk HL.out)
    have HE : Hid (wdE b .repeat_ = -22) := Lib.hid (by show (if topK b = 2 then (if topK (takeB b) = 1 then layE b 1 else -22) else -22) = -22; rw [if_neg hk])
    go_upto_region 2 with ((go_at_call 59; refine (HT.out).mono ?_; rintro e w1 ⟨rfl, hb1⟩; have HC1 := Lib.hid (below_then hb1 (below_one w1 (.cells #[.int .i64 0, .int .i64 0] 57))); have P6 := Lib.hid (Px.new w1 57 (.int .i64 0) (.int .i64 0)); have hw1 := hb1.size; clear hb1))
    generalize w1.alloc (.cells #[.int .i64 0, .int .i64 0] 57) = W1 at *
    have HU1 := Lib.hid (below_then HU0.out HC1.out)
    have Y1 := Lib.hid (X1.out.keep HC1.out)
    have Y2 := Lib.hid (X2.out.keep HC1.out)
    clear a0 a1 a2 af0 af1 af2 z0 z1 z2 zf0 zf1 zf2
    have a0 := Y1.out.c0; have a1 := Y1.out.c1; have a2 := Y1.out.c2; have af0 := Y1.out.f0; have af1 := Y1.out.f1; have af2 := Y1.out.f2
    have hY1 := Y1.out.lt
    have z0 := Y2.out.c0; have z1 := Y2.out.c1; have z2 := Y2.out.c2; have zf0 := Y2.out.f0; have zf1 := Y2.out.f1; have zf2 := Y2.out.f2
    have hY2 := Y2.out.lt
    have hP6 := P6.out.lt
    have HL1 := Lib.hid (HL.out.below HU1.out)
    go_upto_region 3 with ((go_at_call 59; refine (HT1.out _ _ _ _ _ _ _ _ _ _ HL1.out).mono ?_; rintro e w2 ⟨rfl, hb2⟩; have HC2 := Lib.hid (below_then hb2 (below_one w2 (.cells #[.int .i64 u1, .int .i64 v1] 57))); have P8 := Lib.hid (Px.new w2 57 (.int .i64 u1) (.int .i64 v1)); have hw2 := hb2.size; clear hb2))
    generalize w2.alloc (.cells #[.int .i64 u1, .int .i64 v1] 57) = W2 at *
    have HU2 := Lib.hid (below_then HU1.out HC2.out)
    have Z1 := Lib.hid (Y1.out.keep HC2.out)
    have Z2 := Lib.hid (Y2.out.keep HC2.out)
    have Q6 := Lib.hid (P6.out.keep HC2.out)
    clear a0 a1 a2 af0 af1 af2 z0 z1 z2 zf0 zf1 zf2
    have a0 := Z1.out.c0; have a1 := Z1.out.c1; have a2 := Z1.out.c2; have af0 := Z1.out.f0; have af1 := Z1.out.f1; have af2 := Z1.out.f2
    have hZ1 := Z1.out.lt
    have z0 := Z2.out.c0; have z1 := Z2.out.c1; have z2 := Z2.out.c2; have zf0 := Z2.out.f0; have zf1 := Z2.out.f1; have zf2 := Z2.out.f2
    have hZ2 := Z2.out.lt
    have hQ6 := Q6.out.lt
    have hP8 := P8.out.lt
    have HL2 := Lib.hid (HL.out.below HU2.out)
    have p0 := Q6.out.c0
    have p1 := Q6.out.c1
    have s0 := P8.out.c0
    have s1 := P8.out.c1
    go_wp2
    refine bodyPost_ret (v := .tuple #[.agg #[.slice A n c, .slice B m d, .slice C k f], .int .i64 (-22)]) (by simp [results, Try.results34, go_sem, z0, z1, z2] <;> rfl) rfl (bt_fin (b' := b) (HL2.out.set3 Z2.out) (below_set3 (below_then HB.out HU2.out) (by simp) _ _ _) (wdN_not HE.out).symm HE.out.symm)
end Go.Proofs.Ytkcpmjccggfpiaa
