/-
  Of any thread that is built the package's answers are the document's (FlowIs): its walk.
-/
import Derived.Test.YtkcpmjccggfpiaaFlowRefJ
import Derived.Test.YtkcpmjccggfpiaaFlowWw
namespace Go.Proofs.Ytkcpmjccggfpiaa
open Go.RowKit

theorem rword_any (S : ByteArray) (l : List UInt8) (hS : S = ⟨l.toArray⟩) (hl : l.length ≤ 2000) (A B C : Option Addr) (n c m d k f : Nat) (b : Bd) (w : World) (hF : Few 1000 b) (h : Bl w A n c B m d C k f b) :
    Calls Try.prog 15 #[.agg #[.slice A n c, .slice B m d, .slice C k f], .string S] w (WdPost w (wkB (flSnd b) (l.map scU)) (wkO (l.map scU)) (wkE (flSnd b) (l.map scU))) := by
  unfold wkB wkE wkO
  cases hw : wdF (l.map scU) with
  | none => exact rword_none S l hS hl hw A B C n c m d k f b w hF h
  | some d' => exact rword_some S l d' hS hl hw A B C n c m d k f b w hF h
theorem wk_few {b : Bd} (hF : Few 200 b) (l : List UInt8) : Few 5000 (wkB (flSnd b) (l.map scU)) := by
  have hs := snd_is b
  have hF' := hF.snd'
  unfold wkB
  cases hw : wdF (l.map scU) with
  | none => exact hF'.mono (by omega)
  | some d =>
    have ht := wd_took' hs d
    have h1 := ht.grow.len
    obtain ⟨f1, f2, f3⟩ := hF'
    refine ⟨by show (wdN (flSnd b) d).code.length ≤ 5000; omega, ?_, ?_⟩
    · show (wdN (flSnd b) d).marks.length ≤ 5000
      unfold wdN
      split
      · have := wd_marks (flSnd b) d (by assumption); omega
      · omega
    · show (wdN (flSnd b) d).outs.length ≤ 5000
      unfold wdN
      split
      · have := wd_outs (flSnd b) d; omega
      · omega
theorem lay_few {b : Bd} (hF : Few 200 b) (x : List (Int × Int)) (_hx : x.length ≤ 200) : Few 5000 (layB (flSnd b) x) := by
  obtain ⟨f1, f2, f3⟩ := hF.snd'
  unfold layB
  split
  · exact ⟨by omega, by omega, by omega⟩
  · exact ⟨by rw [List.length_append]; omega, by simp; omega, by simp; omega⟩
theorem fin_few {b : Bd} (hF : Few 200 b) : (finL (flSnd b)).length ≤ 5000 := by
  have f1 := hF.snd'.1
  unfold finL
  split
  · simp; omega
  · simp
set_option maxHeartbeats 8000000 in
theorem flowIs_any (A B C : Option Addr) (n c m d k f : Nat) (b : Bd) (Y : Option Addr) (p q : Nat) (x : List (Int × Int)) (l : List UInt8) (W : World) (h : Bl W A n c B m d C k f b) (hx : Prs W Y p q x) :
    Calls Try.prog 3 #[.agg #[.slice A n c, .slice B m d, .slice C k f], .slice Y p q, .string ⟨l.toArray⟩] W fun e w' => e = .returned (.bool true) ∧ Below W.heap.size W w' := by
  have H := Lib.hid h
  have HXx := Lib.hid hx
  have LX := Lib.hid hx.len
  have X0 := Lib.hid (Bx.new W 25 (.slice A n c) (.slice B m d) (.slice C k f))
  have HB := Lib.hid (below_one W (.cells #[.slice A n c, .slice B m d, .slice C k f] 25))
  have hz := size_lit l
  obtain ⟨S, hS⟩ : ∃ S : ByteArray, S = ⟨l.toArray⟩ := ⟨_, rfl⟩
  rw [← hS] at hz ⊢
  have HS := Lib.hid hS
  clear h hx hS
  go_enter Try.func3, Try.ntmps3
  go_upto_region 1 with (fail)
  have HL := Lib.hid (H.out.below HB.out)
  have HX := Lib.hid (HXx.out.below HB.out)
  generalize W.alloc (.cells #[.slice A n c, .slice B m d, .slice C k f] 25) = W0 at *
  go_upto_region 2 with ((go_at_call 9; refine (awake_any _).mono ?_; rintro e w0 ⟨rfl, hb0⟩; have HV := Lib.hid hb0; clear hb0))
  have X1 := Lib.hid (X0.out.keep HV.out)
  have a0 := X1.out.c0; have a1 := X1.out.c1; have a2 := X1.out.c2; have af0 := X1.out.f0; have af1 := X1.out.f1; have af2 := X1.out.f2
  have hw0 := X1.out.lt
  cases hf : flFew b
  · have HF := Lib.hid hf
    clear hf
    go_wp2_with (go_at_call 10; refine (few_any _ _ _ _ _ _ _ _ _ b false _ (HL.out.below HV.out) HF.out).mono ?_; rintro e w1 ⟨rfl, hb1⟩; have HV := Lib.hid (below_then HV.out hb1); clear hb1)
    go_ret
    exact ⟨rfl, below_then HB.out HV.out⟩
  · have HF := Lib.hid hf
    have F200 := Lib.hid (flFew_few hf)
    clear hf
    have KF := Lib.hid (fun w' (h : Below W0.heap.size W0 w') => few_any A B C n c m d k f b true w' (HL.out.below h) HF.out)
    by_cases hp : 200 < p
    · have hp2 : (200 : Int) < (p : Int) := by omega
      go_wp2_with (go_at_call 10; refine (KF.out _ HV.out).mono ?_; rintro e w1 ⟨rfl, hb1⟩; have HV := Lib.hid (below_then HV.out hb1); clear hb1)
      go_ret
      exact ⟨rfl, below_then HB.out HV.out⟩
    · have hp2 : ¬ (200 : Int) < (p : Int) := by omega
      by_cases hl : 100 < l.length
      · have hl2 : (100 : Int) < (l.length : Int) := by omega
        go_wp2_with (go_at_call 10; refine (KF.out _ HV.out).mono ?_; rintro e w1 ⟨rfl, hb1⟩; have HV := Lib.hid (below_then HV.out hb1); clear hb1)
        go_ret
        exact ⟨rfl, below_then HB.out HV.out⟩
      · have hl2 : ¬ (100 : Int) < (l.length : Int) := by omega
        go_upto_region 4 with ((go_at_call 10; refine (KF.out _ HV.out).mono ?_; rintro e w1 ⟨rfl, hb1⟩; have HV := Lib.hid (below_then HV.out hb1); clear hb1; have X2 := Lib.hid (X0.out.keep HV.out); clear a0 a1 a2 af0 af1 af2; have a0 := X2.out.c0; have a1 := X2.out.c1; have a2 := X2.out.c2; have af0 := X2.out.f0; have af1 := X2.out.f1; have af2 := X2.out.f2))
        have KO := Lib.hid (fun w' (h : Below W0.heap.size W0 w') => ours_any A B C n c m d k f b w' (F200.out.mono (by omega)) (HL.out.below h))
        have hxl : x.length ≤ 200 := by rw [LX.out]; omega
        obtain ⟨D1, E1, F1, e1, e2⟩ : ∃ D1 E1, Few 5000 D1 ∧ (∀ A B C n c m d k f w, Bl w A n c B m d C k f b → Prs w Y p q x → Calls Try.prog 11 #[.agg #[.slice A n c, .slice B m d, .slice C k f], .slice Y p q] w (BtPost w D1 E1)) ∧ (∀ A B C n c m d k f w, Bl w A n c B m d C k f b → Prs w Y p q x → Calls Try.prog 13 #[.agg #[.slice A n c, .slice B m d, .slice C k f], .slice Y p q] w (BtPost w D1 E1)) := ⟨_, _, lay_few F200.out x hxl, fun A B C n c m d k f w h hx => emit_any A B C n c m d k f b Y p q x w (F200.out.mono (by omega)) (by omega) h hx, fun A B C n c m d k f w h hx => remit_any A B C n c m d k f b Y p q x w (F200.out.mono (by omega)) (by omega) h hx⟩
        obtain ⟨D2, O2, E2, F2, u1, u2⟩ : ∃ D2 O2 E2, Few 5000 D2 ∧ (∀ A B C n c m d k f w, Bl w A n c B m d C k f b → Calls Try.prog 14 #[.agg #[.slice A n c, .slice B m d, .slice C k f], .string S] w (WdPost w D2 O2 E2)) ∧ (∀ A B C n c m d k f w, Bl w A n c B m d C k f b → Calls Try.prog 15 #[.agg #[.slice A n c, .slice B m d, .slice C k f], .string S] w (WdPost w D2 O2 E2)) := ⟨_, _, _, wk_few F200.out l, fun A B C n c m d k f w h => word_any S l HS.out (by omega) A B C n c m d k f b w (F200.out.mono (by omega)) h, fun A B C n c m d k f w h => rword_any S l HS.out (by omega) A B C n c m d k f b w (F200.out.mono (by omega)) h⟩
        obtain ⟨L3, E3, F3, v1, v2⟩ : ∃ L3 E3, L3.length ≤ 5000 ∧ (∀ A B C n c m d k f w, Bl w A n c B m d C k f b → Calls Try.prog 16 #[.agg #[.slice A n c, .slice B m d, .slice C k f]] w (EnPost w L3 E3)) ∧ (∀ A B C n c m d k f w, Bl w A n c B m d C k f b → Calls Try.prog 17 #[.agg #[.slice A n c, .slice B m d, .slice C k f]] w (EnPost w L3 E3)) := ⟨_, _, fin_few F200.out, fun A B C n c m d k f w h => end_any A B C n c m d k f b w (F200.out.mono (by omega)) h, fun A B C n c m d k f w h => rend_any A B C n c m d k f b w (F200.out.mono (by omega)) h⟩
        have TF1 := Lib.hid F1
        have TF2 := Lib.hid F2
        have TF3 := Lib.hid F3
        have TE1 := Lib.hid e1
        have TE2 := Lib.hid e2
        have TU1 := Lib.hid u1
        have TU2 := Lib.hid u2
        have TV1 := Lib.hid v1
        have TV2 := Lib.hid v2
        clear F1 F2 F3 e1 e2 u1 u2 v1 v2
        go_upto_region 5 with (first
          | (go_at_call 12; (with_reducible refine (KO.out _ HV.out).mono ?_); rintro e wv ⟨Av, nv, cv, Bv, mv, dv, Cv, kv, fv, rfl, hv, hbv⟩; have HV := Lib.hid (below_then HV.out hbv); have TT := Lib.hid hv; have HCv := Lib.hid hbv; clear hv hbv)
          | (go_at_call 11; (with_reducible refine (TE1.out _ _ _ _ _ _ _ _ _ _ TT.out (HX.out.below HV.out)).mono ?_); rintro e w1 ⟨A1, n1, c1, B1, m1, d1, C1, k1, f1, rfl, h1, hb1⟩; have HV := Lib.hid (below_then HV.out (below_then hb1 (below_one _ (.cells #[.slice A1 n1 c1, .slice B1 m1 d1, .slice C1 k1 f1] 30)))); have HC1 := Lib.hid (below_then HCv.out (below_then hb1 (below_one _ (.cells #[.slice A1 n1 c1, .slice B1 m1 d1, .slice C1 k1 f1] 30)))); have H1 := Lib.hid (h1.alloc (.cells #[.slice A1 n1 c1, .slice B1 m1 d1, .slice C1 k1 f1] 30)); have X1 := Lib.hid (Bx.new w1 30 (.slice A1 n1 c1) (.slice B1 m1 d1) (.slice C1 k1 f1)); clear h1 hb1))
        generalize w1.alloc (.cells #[.slice A1 n1 c1, .slice B1 m1 d1, .slice C1 k1 f1] 30) = W1 at *
        have Z01 := Lib.hid (X0.out.keep HV.out)
        clear a0 a1 a2 af0 af1 af2
        have a0 := Z01.out.c0; have a1 := Z01.out.c1; have a2 := Z01.out.c2; have af0 := Z01.out.f0; have af1 := Z01.out.f1; have af2 := Z01.out.f2
        have hz01 := Z01.out.lt
        go_upto_region 6 with ((go_at_call 13; (with_reducible refine (TE2.out _ _ _ _ _ _ _ _ _ _ (HL.out.below HV.out) (HX.out.below HV.out)).mono ?_); rintro e w2 ⟨A2, n2, c2, B2, m2, d2, C2, k2, f2, rfl, h2, hb2⟩; have HV := Lib.hid (below_then HV.out (below_then hb2 (below_one _ (.cells #[.slice A2 n2 c2, .slice B2 m2 d2, .slice C2 k2 f2] 25)))); have HC2 := Lib.hid (below_then hb2 (below_one _ (.cells #[.slice A2 n2 c2, .slice B2 m2 d2, .slice C2 k2 f2] 25))); have H2 := Lib.hid (h2.alloc (.cells #[.slice A2 n2 c2, .slice B2 m2 d2, .slice C2 k2 f2] 25)); have X2 := Lib.hid (Bx.new w2 25 (.slice A2 n2 c2) (.slice B2 m2 d2) (.slice C2 k2 f2)); clear h2 hb2))
        generalize w2.alloc (.cells #[.slice A2 n2 c2, .slice B2 m2 d2, .slice C2 k2 f2] 25) = W2 at *
        have X1b2 := Lib.hid (X1.out.keep HC2.out)
        have H1b2 := Lib.hid (H1.out.below HC2.out)
        clear X1 H1
        have Z02 := Lib.hid (X0.out.keep HV.out)
        clear a0 a1 a2 af0 af1 af2
        have a0 := Z02.out.c0; have a1 := Z02.out.c1; have a2 := Z02.out.c2; have af0 := Z02.out.f0; have af1 := Z02.out.f1; have af2 := Z02.out.f2
        have hz02 := Z02.out.lt
        go_upto_region 7 with (first
          | (go_at_call 12; (with_reducible refine (KO.out _ HV.out).mono ?_); rintro e wv ⟨Av, nv, cv, Bv, mv, dv, Cv, kv, fv, rfl, hv, hbv⟩; have HV := Lib.hid (below_then HV.out hbv); have TT := Lib.hid hv; have HCv := Lib.hid hbv; clear hv hbv)
          | (go_at_call 14; (with_reducible refine (TU1.out _ _ _ _ _ _ _ _ _ _ TT.out).mono ?_); rintro e w3 ⟨A3, n3, c3, B3, m3, d3, C3, k3, f3, rfl, h3, hb3⟩; have HV := Lib.hid (below_then HV.out (below_then hb3 (below_one _ (.cells #[.slice A3 n3 c3, .slice B3 m3 d3, .slice C3 k3 f3] 30)))); have HC3 := Lib.hid (below_then HCv.out (below_then hb3 (below_one _ (.cells #[.slice A3 n3 c3, .slice B3 m3 d3, .slice C3 k3 f3] 30)))); have H3 := Lib.hid (h3.alloc (.cells #[.slice A3 n3 c3, .slice B3 m3 d3, .slice C3 k3 f3] 30)); have X3 := Lib.hid (Bx.new w3 30 (.slice A3 n3 c3) (.slice B3 m3 d3) (.slice C3 k3 f3)); clear h3 hb3))
        generalize w3.alloc (.cells #[.slice A3 n3 c3, .slice B3 m3 d3, .slice C3 k3 f3] 30) = W3 at *
        have X1b3 := Lib.hid (X1b2.out.keep HC3.out)
        have H1b3 := Lib.hid (H1b2.out.below HC3.out)
        clear X1b2 H1b2
        have X2b3 := Lib.hid (X2.out.keep HC3.out)
        have H2b3 := Lib.hid (H2.out.below HC3.out)
        clear X2 H2
        have Z03 := Lib.hid (X0.out.keep HV.out)
        clear a0 a1 a2 af0 af1 af2
        have a0 := Z03.out.c0; have a1 := Z03.out.c1; have a2 := Z03.out.c2; have af0 := Z03.out.f0; have af1 := Z03.out.f1; have af2 := Z03.out.f2
        have hz03 := Z03.out.lt
        go_upto_region 8 with ((go_at_call 15; (with_reducible refine (TU2.out _ _ _ _ _ _ _ _ _ _ (HL.out.below HV.out)).mono ?_); rintro e w4 ⟨A4, n4, c4, B4, m4, d4, C4, k4, f4, rfl, h4, hb4⟩; have HV := Lib.hid (below_then HV.out (below_then hb4 (below_one _ (.cells #[.slice A4 n4 c4, .slice B4 m4 d4, .slice C4 k4 f4] 25)))); have HC4 := Lib.hid (below_then hb4 (below_one _ (.cells #[.slice A4 n4 c4, .slice B4 m4 d4, .slice C4 k4 f4] 25))); have H4 := Lib.hid (h4.alloc (.cells #[.slice A4 n4 c4, .slice B4 m4 d4, .slice C4 k4 f4] 25)); have X4 := Lib.hid (Bx.new w4 25 (.slice A4 n4 c4) (.slice B4 m4 d4) (.slice C4 k4 f4)); clear h4 hb4))
        generalize w4.alloc (.cells #[.slice A4 n4 c4, .slice B4 m4 d4, .slice C4 k4 f4] 25) = W4 at *
        have X1b4 := Lib.hid (X1b3.out.keep HC4.out)
        have H1b4 := Lib.hid (H1b3.out.below HC4.out)
        clear X1b3 H1b3
        have X2b4 := Lib.hid (X2b3.out.keep HC4.out)
        have H2b4 := Lib.hid (H2b3.out.below HC4.out)
        clear X2b3 H2b3
        have X3b4 := Lib.hid (X3.out.keep HC4.out)
        have H3b4 := Lib.hid (H3.out.below HC4.out)
        clear X3 H3
        have Z04 := Lib.hid (X0.out.keep HV.out)
        clear a0 a1 a2 af0 af1 af2
        have a0 := Z04.out.c0; have a1 := Z04.out.c1; have a2 := Z04.out.c2; have af0 := Z04.out.f0; have af1 := Z04.out.f1; have af2 := Z04.out.f2
        have hz04 := Z04.out.lt
        go_upto_region 9 with (first
          | (go_at_call 12; (with_reducible refine (KO.out _ HV.out).mono ?_); rintro e wv ⟨Av, nv, cv, Bv, mv, dv, Cv, kv, fv, rfl, hv, hbv⟩; have HV := Lib.hid (below_then HV.out hbv); have TT := Lib.hid hv; have HCv := Lib.hid hbv; clear hv hbv)
          | (go_at_call 16; (with_reducible refine (TV1.out _ _ _ _ _ _ _ _ _ _ TT.out).mono ?_); rintro e w5 ⟨A5, n5, c5, rfl, h5, hb5⟩; have HV := Lib.hid (below_then HV.out hb5); have HC5 := Lib.hid (below_then HCv.out hb5); have H5 := Lib.hid h5; clear h5 hb5))
        have X1b5 := Lib.hid (X1b4.out.keep HC5.out)
        have H1b5 := Lib.hid (H1b4.out.below HC5.out)
        clear X1b4 H1b4
        have X2b5 := Lib.hid (X2b4.out.keep HC5.out)
        have H2b5 := Lib.hid (H2b4.out.below HC5.out)
        clear X2b4 H2b4
        have X3b5 := Lib.hid (X3b4.out.keep HC5.out)
        have H3b5 := Lib.hid (H3b4.out.below HC5.out)
        clear X3b4 H3b4
        have X4b5 := Lib.hid (X4.out.keep HC5.out)
        have H4b5 := Lib.hid (H4.out.below HC5.out)
        clear X4 H4
        have Z05 := Lib.hid (X0.out.keep HV.out)
        clear a0 a1 a2 af0 af1 af2
        have a0 := Z05.out.c0; have a1 := Z05.out.c1; have a2 := Z05.out.c2; have af0 := Z05.out.f0; have af1 := Z05.out.f1; have af2 := Z05.out.f2
        have hz05 := Z05.out.lt
        go_upto_region 10 with ((go_at_call 17; (with_reducible refine (TV2.out _ _ _ _ _ _ _ _ _ _ (HL.out.below HV.out)).mono ?_); rintro e w6 ⟨A6, n6, c6, rfl, h6, hb6⟩; have HV := Lib.hid (below_then HV.out hb6); have HC6 := Lib.hid (hb6); have H6 := Lib.hid h6; clear h6 hb6))
        have X1b6 := Lib.hid (X1b5.out.keep HC6.out)
        have H1b6 := Lib.hid (H1b5.out.below HC6.out)
        clear X1b5 H1b5
        have X2b6 := Lib.hid (X2b5.out.keep HC6.out)
        have H2b6 := Lib.hid (H2b5.out.below HC6.out)
        clear X2b5 H2b5
        have X3b6 := Lib.hid (X3b5.out.keep HC6.out)
        have H3b6 := Lib.hid (H3b5.out.below HC6.out)
        clear X3b5 H3b5
        have X4b6 := Lib.hid (X4b5.out.keep HC6.out)
        have H4b6 := Lib.hid (H4b5.out.below HC6.out)
        clear X4b5 H4b5
        have Z06 := Lib.hid (X0.out.keep HV.out)
        clear a0 a1 a2 af0 af1 af2
        have a0 := Z06.out.c0; have a1 := Z06.out.c1; have a2 := Z06.out.c2; have af0 := Z06.out.f0; have af1 := Z06.out.f1; have af2 := Z06.out.f2
        have hz06 := Z06.out.lt
        have hfm : b.marks.length ≤ 200 := F200.out.2.1
        have hfo : b.outs.length ≤ 200 := F200.out.2.2
        have KB := Lib.hid (HL.out.below HV.out)
        have KX := Lib.hid (HX.out.below HV.out)
        have H56 := Lib.hid (H5.out.below HC6.out)
        have N5 := Lib.hid H56.out.len
        have N6 := Lib.hid H6.out.len
        have hn5 : n5 ≤ 5000 := by rw [← N5.out]; exact TF3.out
        have hn6 : n6 ≤ 5000 := by rw [← N6.out]; exact TF3.out
        have T1 := Lib.hid (fun w' (h : Below w6.heap.size w6 w') => theirs_any A1 B1 C1 n1 c1 m1 d1 k1 f1 D1 w' (TF1.out.mono (by omega)) (H1b6.out.below h))
        have T3 := Lib.hid (fun w' (h : Below w6.heap.size w6 w') => theirs_any A3 B3 C3 n3 c3 m3 d3 k3 f3 D2 w' (TF2.out.mono (by omega)) (H3b6.out.below h))
        obtain ⟨r1, hr1⟩ : ∃ r1, flSane b = r1 := ⟨_, rfl⟩
        obtain ⟨r2, hr2⟩ : ∃ r2, flWhole x = r2 := ⟨_, rfl⟩
        have R1 := Lib.hid hr1
        have R2 := Lib.hid hr2
        clear hr1 hr2
        have KR := Lib.hid (fun w' (h : Below w6.heap.size w6 w') => rsane_any A B C n c m d k f b r1 R1.out w' (F200.out.mono (by omega)) (KB.out.below h))
        have KW := Lib.hid (fun w' (h : Below w6.heap.size w6 w') => whole_any Y p q x r2 w' (by omega) (KX.out.below h) R2.out)
        have KV := Lib.hid (fun w' (h : Below w6.heap.size w6 w') => rwhole_any Y p q x r2 w' (by omega) (KX.out.below h) R2.out)
        have KC := Lib.hid (fun w' (h : Below w6.heap.size w6 w') => code_any A5 A6 n5 c5 n6 c6 L3 L3 true w' (by omega) (by omega) (H56.out.below h) (H6.out.below h) (by simp))
        have SS1 : Hid (flSame D1 D1 = true) := Lib.hid (flSame_self _)
        have SS2 : Hid (flSame D2 D2 = true) := Lib.hid (flSame_self _)
        have HU : Hid (Below w6.heap.size w6 w6.drew) := Lib.hid (Below.refl _ _).drew
        have y10 := X1b6.out.c0; have y11 := X1b6.out.c1; have y12 := X1b6.out.c2; have y1f0 := X1b6.out.f0; have y1f1 := X1b6.out.f1; have y1f2 := X1b6.out.f2
        have hy1 := X1b6.out.lt
        have y20 := X2b6.out.c0; have y21 := X2b6.out.c1; have y22 := X2b6.out.c2; have y2f0 := X2b6.out.f0; have y2f1 := X2b6.out.f1; have y2f2 := X2b6.out.f2
        have hy2 := X2b6.out.lt
        have y30 := X3b6.out.c0; have y31 := X3b6.out.c1; have y32 := X3b6.out.c2; have y3f0 := X3b6.out.f0; have y3f1 := X3b6.out.f1; have y3f2 := X3b6.out.f2
        have hy3 := X3b6.out.lt
        have y40 := X4b6.out.c0; have y41 := X4b6.out.c1; have y42 := X4b6.out.c2; have y4f0 := X4b6.out.f0; have y4f1 := X4b6.out.f1; have y4f2 := X4b6.out.f2
        have hy4 := X4b6.out.lt
        have hHeld0 : ((fun w' => Below w6.heap.size w6 w' ∧ (w'.cell? ⟨W.heap.size, 0, none⟩ = some (.slice A n c) ∧ w'.cell? ⟨W.heap.size, 1, none⟩ = some (.slice B m d) ∧ w'.cell? ⟨W.heap.size, 2, none⟩ = some (.slice C k f)) ∧ (w'.cell? ⟨w1.heap.size, 0, none⟩ = some (.slice A1 n1 c1) ∧ w'.cell? ⟨w1.heap.size, 1, none⟩ = some (.slice B1 m1 d1) ∧ w'.cell? ⟨w1.heap.size, 2, none⟩ = some (.slice C1 k1 f1)) ∧ (w'.cell? ⟨w2.heap.size, 0, none⟩ = some (.slice A2 n2 c2) ∧ w'.cell? ⟨w2.heap.size, 1, none⟩ = some (.slice B2 m2 d2) ∧ w'.cell? ⟨w2.heap.size, 2, none⟩ = some (.slice C2 k2 f2)) ∧ (w'.cell? ⟨w3.heap.size, 0, none⟩ = some (.slice A3 n3 c3) ∧ w'.cell? ⟨w3.heap.size, 1, none⟩ = some (.slice B3 m3 d3) ∧ w'.cell? ⟨w3.heap.size, 2, none⟩ = some (.slice C3 k3 f3)) ∧ (w'.cell? ⟨w4.heap.size, 0, none⟩ = some (.slice A4 n4 c4) ∧ w'.cell? ⟨w4.heap.size, 1, none⟩ = some (.slice B4 m4 d4) ∧ w'.cell? ⟨w4.heap.size, 2, none⟩ = some (.slice C4 k4 f4)))) w6.drew := ⟨HU.out, ⟨(Z06.out.keep HU.out).c0, (Z06.out.keep HU.out).c1, (Z06.out.keep HU.out).c2⟩, ⟨(X1b6.out.keep HU.out).c0, (X1b6.out.keep HU.out).c1, (X1b6.out.keep HU.out).c2⟩, ⟨(X2b6.out.keep HU.out).c0, (X2b6.out.keep HU.out).c1, (X2b6.out.keep HU.out).c2⟩, ⟨(X3b6.out.keep HU.out).c0, (X3b6.out.keep HU.out).c1, (X3b6.out.keep HU.out).c2⟩, ⟨(X4b6.out.keep HU.out).c0, (X4b6.out.keep HU.out).c1, (X4b6.out.keep HU.out).c2⟩⟩
        refine wp_region_held_drew (S := (fun w' => Below w6.heap.size w6 w' ∧ (w'.cell? ⟨W.heap.size, 0, none⟩ = some (.slice A n c) ∧ w'.cell? ⟨W.heap.size, 1, none⟩ = some (.slice B m d) ∧ w'.cell? ⟨W.heap.size, 2, none⟩ = some (.slice C k f)) ∧ (w'.cell? ⟨w1.heap.size, 0, none⟩ = some (.slice A1 n1 c1) ∧ w'.cell? ⟨w1.heap.size, 1, none⟩ = some (.slice B1 m1 d1) ∧ w'.cell? ⟨w1.heap.size, 2, none⟩ = some (.slice C1 k1 f1)) ∧ (w'.cell? ⟨w2.heap.size, 0, none⟩ = some (.slice A2 n2 c2) ∧ w'.cell? ⟨w2.heap.size, 1, none⟩ = some (.slice B2 m2 d2) ∧ w'.cell? ⟨w2.heap.size, 2, none⟩ = some (.slice C2 k2 f2)) ∧ (w'.cell? ⟨w3.heap.size, 0, none⟩ = some (.slice A3 n3 c3) ∧ w'.cell? ⟨w3.heap.size, 1, none⟩ = some (.slice B3 m3 d3) ∧ w'.cell? ⟨w3.heap.size, 2, none⟩ = some (.slice C3 k3 f3)) ∧ (w'.cell? ⟨w4.heap.size, 0, none⟩ = some (.slice A4 n4 c4) ∧ w'.cell? ⟨w4.heap.size, 1, none⟩ = some (.slice B4 m4 d4) ∧ w'.cell? ⟨w4.heap.size, 2, none⟩ = some (.slice C4 k4 f4)))) (by kernel_rfl) hHeld0 (fun hHeld => ?_)
        clear hHeld0
        refine wpAnyH_take (i := 0) (oi := { dst := some 76, op := Op.move (Operand.tmp 7), type := 4, pos := "law.go:59", after := #[], guard := none }) (v := ?_) rfl (by kernel_rfl) (by kernel_rfl) (by kernel_rfl) (fun _ _ _ h => h) (Or.inl ⟨by kernel_rfl, ?_⟩) hHeld ?_
        rotate_left
        · intro w9 hSw; (try dsimp only at hSw); go_simp; try with_reducible rfl
        simp only [Act.put, List.setIfInBounds_toArray, List.set_cons_zero, List.set_cons_succ]
        refine wpAnyH_take (i := 1) (oi := { dst := some 77, op := Op.move (Operand.tmp 76), type := 4, pos := "law.go:59", after := #[{ on := 0, ground := Ground.data }], guard := none }) (v := ?_) rfl (by kernel_rfl) (by kernel_rfl) (by kernel_rfl) (fun _ _ _ h => h) (Or.inl ⟨by kernel_rfl, ?_⟩) hHeld ?_
        rotate_left
        · intro w9 hSw; (try dsimp only at hSw); go_simp; try with_reducible rfl
        simp only [Act.put, List.setIfInBounds_toArray, List.set_cons_zero, List.set_cons_succ]
        refine wpAnyH_take (i := 2) (oi := { dst := some 78, op := Op.load 30 (Operand.tmp 8), type := 30, pos := "law.go:59", after := #[{ on := 1, ground := Ground.guard }], guard := some (1, true) }) (v := ?_) rfl (by kernel_rfl) (by kernel_rfl) (by kernel_rfl) (fun _ _ _ h => h) (Or.inl ⟨by kernel_rfl, ?_⟩) hHeld ?_
        rotate_left
        · intro w9 hSw; (try dsimp only at hSw); go_simp; try with_reducible rfl
        simp only [Act.put, List.setIfInBounds_toArray, List.set_cons_zero, List.set_cons_succ]
        refine wpAnyH_take (i := 4) (oi := { dst := some 80, op := Op.load 25 (Operand.tmp 10), type := 25, pos := "law.go:59", after := #[{ on := 1, ground := Ground.guard }], guard := some (1, true) }) (v := ?_) rfl (by kernel_rfl) (by kernel_rfl) (by kernel_rfl) (fun _ _ _ h => h) (Or.inl ⟨by kernel_rfl, ?_⟩) hHeld ?_
        rotate_left
        · intro w9 hSw; (try dsimp only at hSw); go_simp; try with_reducible rfl
        simp only [Act.put, List.setIfInBounds_toArray, List.set_cons_zero, List.set_cons_succ]
        refine wpAnyH_ready (rs := [3]) (by kernel_rfl) (by simp) ?_
        refine AllReadyH.cons (o := { dst := some 79, op := Op.call { callee := Callee.value (Operand.func 19), args := #[Operand.tmp 78], argTypes := #[30] }, type := 25, pos := "law.go:59", after := #[{ on := 2, ground := Ground.data }, { on := 1, ground := Ground.chain }, { on := 1, ground := Ground.guard }], guard := some (1, true) }) rfl (fun K hK => ?_) AllReadyH.nil
        go_simp
        (go_at_call 19; (with_reducible refine (T1.out _ HU.out).mono ?_); rintro e w7 ⟨A7, n7, c7, B7, m7, d7, C7, k7, f7, rfl, h7, hb7⟩; have HU := Lib.hid (below_then HU.out hb7); have H7 := Lib.hid h7; clear h7 hb7)
        refine hK.out _ _ (⟨HU.out, ⟨(Z06.out.keep HU.out).c0, (Z06.out.keep HU.out).c1, (Z06.out.keep HU.out).c2⟩, ⟨(X1b6.out.keep HU.out).c0, (X1b6.out.keep HU.out).c1, (X1b6.out.keep HU.out).c2⟩, ⟨(X2b6.out.keep HU.out).c0, (X2b6.out.keep HU.out).c1, (X2b6.out.keep HU.out).c2⟩, ⟨(X3b6.out.keep HU.out).c0, (X3b6.out.keep HU.out).c1, (X3b6.out.keep HU.out).c2⟩, ⟨(X4b6.out.keep HU.out).c0, (X4b6.out.keep HU.out).c1, (X4b6.out.keep HU.out).c2⟩⟩) (fun hHeld => ?_)
        clear hK K
        try simp only [Act.put, List.setIfInBounds_toArray, List.set_cons_zero, List.set_cons_succ]
        refine wpAnyH_ready (rs := [5]) (by kernel_rfl) (by simp) ?_
        refine AllReadyH.cons (o := { dst := some 81, op := Op.call { callee := Callee.value (Operand.func 18), args := #[Operand.tmp 79, Operand.tmp 80], argTypes := #[25, 25] }, type := 4, pos := "law.go:59", after := #[{ on := 3, ground := Ground.data }, { on := 4, ground := Ground.data }, { on := 3, ground := Ground.chain }, { on := 1, ground := Ground.guard }], guard := some (1, true) }) rfl (fun K hK => ?_) AllReadyH.nil
        go_simp
        (go_at_call 18; (with_reducible refine (same_any A7 B7 C7 A2 B2 C2 n7 c7 m7 d7 k7 f7 n2 c2 m2 d2 k2 f2 _ _ true _ (TF1.out.mono (by omega)) (TF1.out.mono (by omega)) H7.out (H2b6.out.below HU.out) SS1.out).mono ?_); rintro e w8 ⟨rfl, hb8⟩; have HU := Lib.hid (below_then HU.out hb8); clear hb8)
        refine hK.out _ _ (⟨HU.out, ⟨(Z06.out.keep HU.out).c0, (Z06.out.keep HU.out).c1, (Z06.out.keep HU.out).c2⟩, ⟨(X1b6.out.keep HU.out).c0, (X1b6.out.keep HU.out).c1, (X1b6.out.keep HU.out).c2⟩, ⟨(X2b6.out.keep HU.out).c0, (X2b6.out.keep HU.out).c1, (X2b6.out.keep HU.out).c2⟩, ⟨(X3b6.out.keep HU.out).c0, (X3b6.out.keep HU.out).c1, (X3b6.out.keep HU.out).c2⟩, ⟨(X4b6.out.keep HU.out).c0, (X4b6.out.keep HU.out).c1, (X4b6.out.keep HU.out).c2⟩⟩) (fun hHeld => ?_)
        clear hK K
        try simp only [Act.put, List.setIfInBounds_toArray, List.set_cons_zero, List.set_cons_succ]
        refine wpAnyH_take (i := 6) (oi := { dst := some 82, op := Op.pick (Operand.tmp 77) (Operand.tmp 81) (Operand.const (Value.bool false)), type := 4, pos := "law.go:59", after := #[{ on := 1, ground := Ground.data }, { on := 5, ground := Ground.data }], guard := none }) (v := ?_) rfl (by kernel_rfl) (by kernel_rfl) (by kernel_rfl) (fun _ _ _ h => h) (Or.inl ⟨by kernel_rfl, ?_⟩) hHeld ?_
        rotate_left
        · intro w9 hSw; (try dsimp only at hSw); go_simp; try with_reducible rfl
        simp only [Act.put, List.setIfInBounds_toArray, List.set_cons_zero, List.set_cons_succ]
        refine wpAnyH_take (i := 7) (oi := { dst := some 83, op := Op.move (Operand.tmp 82), type := 4, pos := "law.go:59", after := #[{ on := 6, ground := Ground.data }, { on := 5, ground := Ground.chain }], guard := none }) (v := ?_) rfl (by kernel_rfl) (by kernel_rfl) (by kernel_rfl) (fun _ _ _ h => h) (Or.inl ⟨by kernel_rfl, ?_⟩) hHeld ?_
        rotate_left
        · intro w9 hSw; (try dsimp only at hSw); go_simp; try with_reducible rfl
        simp only [Act.put, List.setIfInBounds_toArray, List.set_cons_zero, List.set_cons_succ]
        refine wpAnyH_take (i := 8) (oi := { dst := some 84, op := Op.move (Operand.tmp 9), type := 31, pos := "law.go:59", after := #[{ on := 7, ground := Ground.guard }], guard := some (7, true) }) (v := ?_) rfl (by kernel_rfl) (by kernel_rfl) (by kernel_rfl) (fun _ _ _ h => h) (Or.inl ⟨by kernel_rfl, ?_⟩) hHeld ?_
        rotate_left
        · intro w9 hSw; (try dsimp only at hSw); go_simp; try with_reducible rfl
        simp only [Act.put, List.setIfInBounds_toArray, List.set_cons_zero, List.set_cons_succ]
        refine wpAnyH_take (i := 9) (oi := { dst := some 85, op := Op.move (Operand.tmp 11), type := 31, pos := "law.go:59", after := #[{ on := 7, ground := Ground.guard }], guard := some (7, true) }) (v := ?_) rfl (by kernel_rfl) (by kernel_rfl) (by kernel_rfl) (fun _ _ _ h => h) (Or.inl ⟨by kernel_rfl, ?_⟩) hHeld ?_
        rotate_left
        · intro w9 hSw; (try dsimp only at hSw); go_simp; try with_reducible rfl
        simp only [Act.put, List.setIfInBounds_toArray, List.set_cons_zero, List.set_cons_succ]
        refine wpAnyH_take (i := 10) (oi := { dst := some 86, op := Op.binOp BinOp.eql 31 (Operand.tmp 84) (Operand.tmp 85) 31, type := 4, pos := "law.go:59", after := #[{ on := 8, ground := Ground.data }, { on := 9, ground := Ground.data }, { on := 7, ground := Ground.guard }], guard := some (7, true) }) (v := ?_) rfl (by kernel_rfl) (by kernel_rfl) (by kernel_rfl) (fun _ _ _ h => h) (Or.inl ⟨by kernel_rfl, ?_⟩) hHeld ?_
        rotate_left
        · intro w9 hSw; (try dsimp only at hSw); go_simp; try with_reducible rfl
        simp only [Act.put, List.setIfInBounds_toArray, List.set_cons_zero, List.set_cons_succ]
        refine wpAnyH_take (i := 11) (oi := { dst := some 87, op := Op.pick (Operand.tmp 83) (Operand.tmp 86) (Operand.const (Value.bool false)), type := 4, pos := "law.go:59", after := #[{ on := 7, ground := Ground.data }, { on := 10, ground := Ground.data }], guard := none }) (v := ?_) rfl (by kernel_rfl) (by kernel_rfl) (by kernel_rfl) (fun _ _ _ h => h) (Or.inl ⟨by kernel_rfl, ?_⟩) hHeld ?_
        rotate_left
        · intro w9 hSw; (try dsimp only at hSw); go_simp; try with_reducible rfl
        simp only [Act.put, List.setIfInBounds_toArray, List.set_cons_zero, List.set_cons_succ]
        refine wpAnyH_take (i := 12) (oi := { dst := some 88, op := Op.move (Operand.tmp 87), type := 4, pos := "law.go:59", after := #[{ on := 11, ground := Ground.data }, { on := 7, ground := Ground.chain }], guard := none }) (v := ?_) rfl (by kernel_rfl) (by kernel_rfl) (by kernel_rfl) (fun _ _ _ h => h) (Or.inl ⟨by kernel_rfl, ?_⟩) hHeld ?_
        rotate_left
        · intro w9 hSw; (try dsimp only at hSw); go_simp; try with_reducible rfl
        simp only [Act.put, List.setIfInBounds_toArray, List.set_cons_zero, List.set_cons_succ]
        refine wpAnyH_take (i := 13) (oi := { dst := some 89, op := Op.load 30 (Operand.tmp 12), type := 30, pos := "law.go:59", after := #[{ on := 12, ground := Ground.guard }], guard := some (12, true) }) (v := ?_) rfl (by kernel_rfl) (by kernel_rfl) (by kernel_rfl) (fun _ _ _ h => h) (Or.inl ⟨by kernel_rfl, ?_⟩) hHeld ?_
        rotate_left
        · intro w9 hSw; (try dsimp only at hSw); go_simp; try with_reducible rfl
        simp only [Act.put, List.setIfInBounds_toArray, List.set_cons_zero, List.set_cons_succ]
        refine wpAnyH_take (i := 15) (oi := { dst := some 91, op := Op.load 25 (Operand.tmp 15), type := 25, pos := "law.go:59", after := #[{ on := 12, ground := Ground.guard }], guard := some (12, true) }) (v := ?_) rfl (by kernel_rfl) (by kernel_rfl) (by kernel_rfl) (fun _ _ _ h => h) (Or.inl ⟨by kernel_rfl, ?_⟩) hHeld ?_
        rotate_left
        · intro w9 hSw; (try dsimp only at hSw); go_simp; try with_reducible rfl
        simp only [Act.put, List.setIfInBounds_toArray, List.set_cons_zero, List.set_cons_succ]
        refine wpAnyH_ready (rs := [14]) (by kernel_rfl) (by simp) ?_
        refine AllReadyH.cons (o := { dst := some 90, op := Op.call { callee := Callee.value (Operand.func 19), args := #[Operand.tmp 89], argTypes := #[30] }, type := 25, pos := "law.go:59", after := #[{ on := 13, ground := Ground.data }, { on := 12, ground := Ground.chain }, { on := 12, ground := Ground.guard }], guard := some (12, true) }) rfl (fun K hK => ?_) AllReadyH.nil
        go_simp
        (go_at_call 19; (with_reducible refine (T3.out _ HU.out).mono ?_); rintro e w9 ⟨A9, n9, c9, B9, m9, d9, C9, k9, f9, rfl, h9, hb9⟩; have HU := Lib.hid (below_then HU.out hb9); have H9 := Lib.hid h9; clear h9 hb9)
        refine hK.out _ _ (⟨HU.out, ⟨(Z06.out.keep HU.out).c0, (Z06.out.keep HU.out).c1, (Z06.out.keep HU.out).c2⟩, ⟨(X1b6.out.keep HU.out).c0, (X1b6.out.keep HU.out).c1, (X1b6.out.keep HU.out).c2⟩, ⟨(X2b6.out.keep HU.out).c0, (X2b6.out.keep HU.out).c1, (X2b6.out.keep HU.out).c2⟩, ⟨(X3b6.out.keep HU.out).c0, (X3b6.out.keep HU.out).c1, (X3b6.out.keep HU.out).c2⟩, ⟨(X4b6.out.keep HU.out).c0, (X4b6.out.keep HU.out).c1, (X4b6.out.keep HU.out).c2⟩⟩) (fun hHeld => ?_)
        clear hK K
        try simp only [Act.put, List.setIfInBounds_toArray, List.set_cons_zero, List.set_cons_succ]
        refine wpAnyH_ready (rs := [16]) (by kernel_rfl) (by simp) ?_
        refine AllReadyH.cons (o := { dst := some 92, op := Op.call { callee := Callee.value (Operand.func 18), args := #[Operand.tmp 90, Operand.tmp 91], argTypes := #[25, 25] }, type := 4, pos := "law.go:59", after := #[{ on := 14, ground := Ground.data }, { on := 15, ground := Ground.data }, { on := 14, ground := Ground.chain }, { on := 12, ground := Ground.guard }], guard := some (12, true) }) rfl (fun K hK => ?_) AllReadyH.nil
        go_simp
        (go_at_call 18; (with_reducible refine (same_any A9 B9 C9 A4 B4 C4 n9 c9 m9 d9 k9 f9 n4 c4 m4 d4 k4 f4 _ _ true _ (TF2.out.mono (by omega)) (TF2.out.mono (by omega)) H9.out (H4b6.out.below HU.out) SS2.out).mono ?_); rintro e w10 ⟨rfl, hb10⟩; have HU := Lib.hid (below_then HU.out hb10); clear hb10)
        refine hK.out _ _ (⟨HU.out, ⟨(Z06.out.keep HU.out).c0, (Z06.out.keep HU.out).c1, (Z06.out.keep HU.out).c2⟩, ⟨(X1b6.out.keep HU.out).c0, (X1b6.out.keep HU.out).c1, (X1b6.out.keep HU.out).c2⟩, ⟨(X2b6.out.keep HU.out).c0, (X2b6.out.keep HU.out).c1, (X2b6.out.keep HU.out).c2⟩, ⟨(X3b6.out.keep HU.out).c0, (X3b6.out.keep HU.out).c1, (X3b6.out.keep HU.out).c2⟩, ⟨(X4b6.out.keep HU.out).c0, (X4b6.out.keep HU.out).c1, (X4b6.out.keep HU.out).c2⟩⟩) (fun hHeld => ?_)
        clear hK K
        try simp only [Act.put, List.setIfInBounds_toArray, List.set_cons_zero, List.set_cons_succ]
        refine wpAnyH_take (i := 17) (oi := { dst := some 93, op := Op.pick (Operand.tmp 88) (Operand.tmp 92) (Operand.const (Value.bool false)), type := 4, pos := "law.go:59", after := #[{ on := 12, ground := Ground.data }, { on := 16, ground := Ground.data }], guard := none }) (v := ?_) rfl (by kernel_rfl) (by kernel_rfl) (by kernel_rfl) (fun _ _ _ h => h) (Or.inl ⟨by kernel_rfl, ?_⟩) hHeld ?_
        rotate_left
        · intro w9 hSw; (try dsimp only at hSw); go_simp; try with_reducible rfl
        simp only [Act.put, List.setIfInBounds_toArray, List.set_cons_zero, List.set_cons_succ]
        refine wpAnyH_take (i := 18) (oi := { dst := some 94, op := Op.move (Operand.tmp 93), type := 4, pos := "law.go:59", after := #[{ on := 17, ground := Ground.data }, { on := 16, ground := Ground.chain }], guard := none }) (v := ?_) rfl (by kernel_rfl) (by kernel_rfl) (by kernel_rfl) (fun _ _ _ h => h) (Or.inl ⟨by kernel_rfl, ?_⟩) hHeld ?_
        rotate_left
        · intro w9 hSw; (try dsimp only at hSw); go_simp; try with_reducible rfl
        simp only [Act.put, List.setIfInBounds_toArray, List.set_cons_zero, List.set_cons_succ]
        refine wpAnyH_take (i := 19) (oi := { dst := some 95, op := Op.move (Operand.tmp 13), type := 4, pos := "law.go:59", after := #[{ on := 18, ground := Ground.guard }], guard := some (18, true) }) (v := ?_) rfl (by kernel_rfl) (by kernel_rfl) (by kernel_rfl) (fun _ _ _ h => h) (Or.inl ⟨by kernel_rfl, ?_⟩) hHeld ?_
        rotate_left
        · intro w9 hSw; (try dsimp only at hSw); go_simp; try with_reducible rfl
        simp only [Act.put, List.setIfInBounds_toArray, List.set_cons_zero, List.set_cons_succ]
        refine wpAnyH_take (i := 20) (oi := { dst := some 96, op := Op.move (Operand.tmp 16), type := 4, pos := "law.go:59", after := #[{ on := 18, ground := Ground.guard }], guard := some (18, true) }) (v := ?_) rfl (by kernel_rfl) (by kernel_rfl) (by kernel_rfl) (fun _ _ _ h => h) (Or.inl ⟨by kernel_rfl, ?_⟩) hHeld ?_
        rotate_left
        · intro w9 hSw; (try dsimp only at hSw); go_simp; try with_reducible rfl
        simp only [Act.put, List.setIfInBounds_toArray, List.set_cons_zero, List.set_cons_succ]
        refine wpAnyH_take (i := 21) (oi := { dst := some 97, op := Op.binOp BinOp.eql 4 (Operand.tmp 95) (Operand.tmp 96) 4, type := 4, pos := "law.go:59", after := #[{ on := 19, ground := Ground.data }, { on := 20, ground := Ground.data }, { on := 18, ground := Ground.guard }], guard := some (18, true) }) (v := ?_) rfl (by kernel_rfl) (by kernel_rfl) (by kernel_rfl) (fun _ _ _ h => h) (Or.inl ⟨by kernel_rfl, ?_⟩) hHeld ?_
        rotate_left
        · intro w9 hSw; (try dsimp only at hSw); go_simp; try with_reducible rfl
        simp only [Act.put, List.setIfInBounds_toArray, List.set_cons_zero, List.set_cons_succ]
        refine wpAnyH_take (i := 22) (oi := { dst := some 98, op := Op.pick (Operand.tmp 94) (Operand.tmp 97) (Operand.const (Value.bool false)), type := 4, pos := "law.go:59", after := #[{ on := 18, ground := Ground.data }, { on := 21, ground := Ground.data }], guard := none }) (v := ?_) rfl (by kernel_rfl) (by kernel_rfl) (by kernel_rfl) (fun _ _ _ h => h) (Or.inl ⟨by kernel_rfl, ?_⟩) hHeld ?_
        rotate_left
        · intro w9 hSw; (try dsimp only at hSw); go_simp; try with_reducible rfl
        simp only [Act.put, List.setIfInBounds_toArray, List.set_cons_zero, List.set_cons_succ]
        refine wpAnyH_take (i := 23) (oi := { dst := some 99, op := Op.move (Operand.tmp 98), type := 4, pos := "law.go:59", after := #[{ on := 22, ground := Ground.data }, { on := 18, ground := Ground.chain }], guard := none }) (v := ?_) rfl (by kernel_rfl) (by kernel_rfl) (by kernel_rfl) (fun _ _ _ h => h) (Or.inl ⟨by kernel_rfl, ?_⟩) hHeld ?_
        rotate_left
        · intro w9 hSw; (try dsimp only at hSw); go_simp; try with_reducible rfl
        simp only [Act.put, List.setIfInBounds_toArray, List.set_cons_zero, List.set_cons_succ]
        refine wpAnyH_take (i := 24) (oi := { dst := some 100, op := Op.move (Operand.tmp 14), type := 31, pos := "law.go:59", after := #[{ on := 23, ground := Ground.guard }], guard := some (23, true) }) (v := ?_) rfl (by kernel_rfl) (by kernel_rfl) (by kernel_rfl) (fun _ _ _ h => h) (Or.inl ⟨by kernel_rfl, ?_⟩) hHeld ?_
        rotate_left
        · intro w9 hSw; (try dsimp only at hSw); go_simp; try with_reducible rfl
        simp only [Act.put, List.setIfInBounds_toArray, List.set_cons_zero, List.set_cons_succ]
        refine wpAnyH_take (i := 25) (oi := { dst := some 101, op := Op.move (Operand.tmp 17), type := 31, pos := "law.go:59", after := #[{ on := 23, ground := Ground.guard }], guard := some (23, true) }) (v := ?_) rfl (by kernel_rfl) (by kernel_rfl) (by kernel_rfl) (fun _ _ _ h => h) (Or.inl ⟨by kernel_rfl, ?_⟩) hHeld ?_
        rotate_left
        · intro w9 hSw; (try dsimp only at hSw); go_simp; try with_reducible rfl
        simp only [Act.put, List.setIfInBounds_toArray, List.set_cons_zero, List.set_cons_succ]
        refine wpAnyH_take (i := 26) (oi := { dst := some 102, op := Op.binOp BinOp.eql 31 (Operand.tmp 100) (Operand.tmp 101) 31, type := 4, pos := "law.go:59", after := #[{ on := 24, ground := Ground.data }, { on := 25, ground := Ground.data }, { on := 23, ground := Ground.guard }], guard := some (23, true) }) (v := ?_) rfl (by kernel_rfl) (by kernel_rfl) (by kernel_rfl) (fun _ _ _ h => h) (Or.inl ⟨by kernel_rfl, ?_⟩) hHeld ?_
        rotate_left
        · intro w9 hSw; (try dsimp only at hSw); go_simp; try with_reducible rfl
        simp only [Act.put, List.setIfInBounds_toArray, List.set_cons_zero, List.set_cons_succ]
        refine wpAnyH_take (i := 27) (oi := { dst := some 103, op := Op.pick (Operand.tmp 99) (Operand.tmp 102) (Operand.const (Value.bool false)), type := 4, pos := "law.go:59", after := #[{ on := 23, ground := Ground.data }, { on := 26, ground := Ground.data }], guard := none }) (v := ?_) rfl (by kernel_rfl) (by kernel_rfl) (by kernel_rfl) (fun _ _ _ h => h) (Or.inl ⟨by kernel_rfl, ?_⟩) hHeld ?_
        rotate_left
        · intro w9 hSw; (try dsimp only at hSw); go_simp; try with_reducible rfl
        simp only [Act.put, List.setIfInBounds_toArray, List.set_cons_zero, List.set_cons_succ]
        refine wpAnyH_take (i := 28) (oi := { dst := some 104, op := Op.move (Operand.tmp 103), type := 4, pos := "law.go:59", after := #[{ on := 27, ground := Ground.data }, { on := 23, ground := Ground.chain }], guard := none }) (v := ?_) rfl (by kernel_rfl) (by kernel_rfl) (by kernel_rfl) (fun _ _ _ h => h) (Or.inl ⟨by kernel_rfl, ?_⟩) hHeld ?_
        rotate_left
        · intro w9 hSw; (try dsimp only at hSw); go_simp; try with_reducible rfl
        simp only [Act.put, List.setIfInBounds_toArray, List.set_cons_zero, List.set_cons_succ]
        refine wpAnyH_take (i := 29) (oi := { dst := some 105, op := Op.move (Operand.tmp 18), type := 22, pos := "law.go:59", after := #[{ on := 28, ground := Ground.guard }], guard := some (28, true) }) (v := ?_) rfl (by kernel_rfl) (by kernel_rfl) (by kernel_rfl) (fun _ _ _ h => h) (Or.inl ⟨by kernel_rfl, ?_⟩) hHeld ?_
        rotate_left
        · intro w9 hSw; (try dsimp only at hSw); go_simp; try with_reducible rfl
        simp only [Act.put, List.setIfInBounds_toArray, List.set_cons_zero, List.set_cons_succ]
        refine wpAnyH_take (i := 30) (oi := { dst := some 106, op := Op.move (Operand.tmp 20), type := 22, pos := "law.go:59", after := #[{ on := 28, ground := Ground.guard }], guard := some (28, true) }) (v := ?_) rfl (by kernel_rfl) (by kernel_rfl) (by kernel_rfl) (fun _ _ _ h => h) (Or.inl ⟨by kernel_rfl, ?_⟩) hHeld ?_
        rotate_left
        · intro w9 hSw; (try dsimp only at hSw); go_simp; try with_reducible rfl
        simp only [Act.put, List.setIfInBounds_toArray, List.set_cons_zero, List.set_cons_succ]
        refine wpAnyH_ready (rs := [31]) (by kernel_rfl) (by simp) ?_
        refine AllReadyH.cons (o := { dst := some 107, op := Op.call { callee := Callee.value (Operand.func 20), args := #[Operand.tmp 105, Operand.tmp 106], argTypes := #[22, 22] }, type := 4, pos := "law.go:59", after := #[{ on := 29, ground := Ground.data }, { on := 30, ground := Ground.data }, { on := 28, ground := Ground.chain }, { on := 28, ground := Ground.guard }], guard := some (28, true) }) rfl (fun K hK => ?_) AllReadyH.nil
        go_simp
        (go_at_call 20; (with_reducible refine (KC.out _ HU.out).mono ?_); rintro e w11 ⟨rfl, hb11⟩; have HU := Lib.hid (below_then HU.out hb11); clear hb11)
        refine hK.out _ _ (⟨HU.out, ⟨(Z06.out.keep HU.out).c0, (Z06.out.keep HU.out).c1, (Z06.out.keep HU.out).c2⟩, ⟨(X1b6.out.keep HU.out).c0, (X1b6.out.keep HU.out).c1, (X1b6.out.keep HU.out).c2⟩, ⟨(X2b6.out.keep HU.out).c0, (X2b6.out.keep HU.out).c1, (X2b6.out.keep HU.out).c2⟩, ⟨(X3b6.out.keep HU.out).c0, (X3b6.out.keep HU.out).c1, (X3b6.out.keep HU.out).c2⟩, ⟨(X4b6.out.keep HU.out).c0, (X4b6.out.keep HU.out).c1, (X4b6.out.keep HU.out).c2⟩⟩) (fun hHeld => ?_)
        clear hK K
        try simp only [Act.put, List.setIfInBounds_toArray, List.set_cons_zero, List.set_cons_succ]
        refine wpAnyH_take (i := 32) (oi := { dst := some 108, op := Op.pick (Operand.tmp 104) (Operand.tmp 107) (Operand.const (Value.bool false)), type := 4, pos := "law.go:59", after := #[{ on := 28, ground := Ground.data }, { on := 31, ground := Ground.data }], guard := none }) (v := ?_) rfl (by kernel_rfl) (by kernel_rfl) (by kernel_rfl) (fun _ _ _ h => h) (Or.inl ⟨by kernel_rfl, ?_⟩) hHeld ?_
        rotate_left
        · intro w9 hSw; (try dsimp only at hSw); go_simp; try with_reducible rfl
        simp only [Act.put, List.setIfInBounds_toArray, List.set_cons_zero, List.set_cons_succ]
        refine wpAnyH_take (i := 33) (oi := { dst := some 109, op := Op.move (Operand.tmp 108), type := 4, pos := "law.go:59", after := #[{ on := 32, ground := Ground.data }, { on := 31, ground := Ground.chain }], guard := none }) (v := ?_) rfl (by kernel_rfl) (by kernel_rfl) (by kernel_rfl) (fun _ _ _ h => h) (Or.inl ⟨by kernel_rfl, ?_⟩) hHeld ?_
        rotate_left
        · intro w9 hSw; (try dsimp only at hSw); go_simp; try with_reducible rfl
        simp only [Act.put, List.setIfInBounds_toArray, List.set_cons_zero, List.set_cons_succ]
        refine wpAnyH_take (i := 34) (oi := { dst := some 110, op := Op.move (Operand.tmp 19), type := 31, pos := "law.go:59", after := #[{ on := 33, ground := Ground.guard }], guard := some (33, true) }) (v := ?_) rfl (by kernel_rfl) (by kernel_rfl) (by kernel_rfl) (fun _ _ _ h => h) (Or.inl ⟨by kernel_rfl, ?_⟩) hHeld ?_
        rotate_left
        · intro w9 hSw; (try dsimp only at hSw); go_simp; try with_reducible rfl
        simp only [Act.put, List.setIfInBounds_toArray, List.set_cons_zero, List.set_cons_succ]
        refine wpAnyH_take (i := 35) (oi := { dst := some 111, op := Op.move (Operand.tmp 21), type := 31, pos := "law.go:59", after := #[{ on := 33, ground := Ground.guard }], guard := some (33, true) }) (v := ?_) rfl (by kernel_rfl) (by kernel_rfl) (by kernel_rfl) (fun _ _ _ h => h) (Or.inl ⟨by kernel_rfl, ?_⟩) hHeld ?_
        rotate_left
        · intro w9 hSw; (try dsimp only at hSw); go_simp; try with_reducible rfl
        simp only [Act.put, List.setIfInBounds_toArray, List.set_cons_zero, List.set_cons_succ]
        refine wpAnyH_take (i := 36) (oi := { dst := some 112, op := Op.binOp BinOp.eql 31 (Operand.tmp 110) (Operand.tmp 111) 31, type := 4, pos := "law.go:59", after := #[{ on := 34, ground := Ground.data }, { on := 35, ground := Ground.data }, { on := 33, ground := Ground.guard }], guard := some (33, true) }) (v := ?_) rfl (by kernel_rfl) (by kernel_rfl) (by kernel_rfl) (fun _ _ _ h => h) (Or.inl ⟨by kernel_rfl, ?_⟩) hHeld ?_
        rotate_left
        · intro w9 hSw; (try dsimp only at hSw); go_simp; try with_reducible rfl
        simp only [Act.put, List.setIfInBounds_toArray, List.set_cons_zero, List.set_cons_succ]
        refine wpAnyH_take (i := 37) (oi := { dst := some 113, op := Op.pick (Operand.tmp 109) (Operand.tmp 112) (Operand.const (Value.bool false)), type := 4, pos := "law.go:59", after := #[{ on := 33, ground := Ground.data }, { on := 36, ground := Ground.data }], guard := none }) (v := ?_) rfl (by kernel_rfl) (by kernel_rfl) (by kernel_rfl) (fun _ _ _ h => h) (Or.inl ⟨by kernel_rfl, ?_⟩) hHeld ?_
        rotate_left
        · intro w9 hSw; (try dsimp only at hSw); go_simp; try with_reducible rfl
        simp only [Act.put, List.setIfInBounds_toArray, List.set_cons_zero, List.set_cons_succ]
        refine wpAnyH_take (i := 38) (oi := { dst := some 114, op := Op.move (Operand.tmp 113), type := 4, pos := "law.go:59", after := #[{ on := 37, ground := Ground.data }, { on := 33, ground := Ground.chain }], guard := none }) (v := ?_) rfl (by kernel_rfl) (by kernel_rfl) (by kernel_rfl) (fun _ _ _ h => h) (Or.inl ⟨by kernel_rfl, ?_⟩) hHeld ?_
        rotate_left
        · intro w9 hSw; (try dsimp only at hSw); go_simp; try with_reducible rfl
        simp only [Act.put, List.setIfInBounds_toArray, List.set_cons_zero, List.set_cons_succ]
        refine wpAnyH_take (i := 39) (oi := { dst := some 115, op := Op.load 25 (Operand.tmp 3), type := 25, pos := "law.go:59", after := #[{ on := 38, ground := Ground.guard }], guard := some (38, true) }) (v := ?_) rfl (by kernel_rfl) (by kernel_rfl) (by kernel_rfl) (fun _ _ _ h => h) (Or.inl ⟨by kernel_rfl, ?_⟩) hHeld ?_
        rotate_left
        · intro w9 hSw; (try dsimp only at hSw); go_simp; try with_reducible rfl
        simp only [Act.put, List.setIfInBounds_toArray, List.set_cons_zero, List.set_cons_succ]
        refine wpAnyH_take (i := 42) (oi := { dst := some 118, op := Op.load 25 (Operand.tmp 3), type := 25, pos := "law.go:59", after := #[{ on := 38, ground := Ground.guard }], guard := some (38, true) }) (v := ?_) rfl (by kernel_rfl) (by kernel_rfl) (by kernel_rfl) (fun _ _ _ h => h) (Or.inl ⟨by kernel_rfl, ?_⟩) hHeld ?_
        rotate_left
        · intro w9 hSw; (try dsimp only at hSw); go_simp; try with_reducible rfl
        simp only [Act.put, List.setIfInBounds_toArray, List.set_cons_zero, List.set_cons_succ]
        refine wpAnyH_ready (rs := [40]) (by kernel_rfl) (by simp) ?_
        refine AllReadyH.cons (o := { dst := some 116, op := Op.call { callee := Callee.value (Operand.func 12), args := #[Operand.tmp 115], argTypes := #[25] }, type := 30, pos := "law.go:59", after := #[{ on := 39, ground := Ground.data }, { on := 38, ground := Ground.chain }, { on := 38, ground := Ground.guard }], guard := some (38, true) }) rfl (fun K hK => ?_) AllReadyH.nil
        go_simp
        (go_at_call 12; (with_reducible refine (KO.out _ (below_then HV.out HU.out)).mono ?_); rintro e w12 ⟨Ae, ne, ce, Be, me, de, Ce, ke, fe, rfl, h12, hb12⟩; have HU := Lib.hid (below_then HU.out hb12); have H12 := Lib.hid h12; clear h12 hb12)
        refine hK.out _ _ (⟨HU.out, ⟨(Z06.out.keep HU.out).c0, (Z06.out.keep HU.out).c1, (Z06.out.keep HU.out).c2⟩, ⟨(X1b6.out.keep HU.out).c0, (X1b6.out.keep HU.out).c1, (X1b6.out.keep HU.out).c2⟩, ⟨(X2b6.out.keep HU.out).c0, (X2b6.out.keep HU.out).c1, (X2b6.out.keep HU.out).c2⟩, ⟨(X3b6.out.keep HU.out).c0, (X3b6.out.keep HU.out).c1, (X3b6.out.keep HU.out).c2⟩, ⟨(X4b6.out.keep HU.out).c0, (X4b6.out.keep HU.out).c1, (X4b6.out.keep HU.out).c2⟩⟩) (fun hHeld => ?_)
        clear hK K
        try simp only [Act.put, List.setIfInBounds_toArray, List.set_cons_zero, List.set_cons_succ]
        refine wpAnyH_ready (rs := [41]) (by kernel_rfl) (by simp) ?_
        refine AllReadyH.cons (o := { dst := some 117, op := Op.call { callee := Callee.value (Operand.func 21), args := #[Operand.tmp 116], argTypes := #[30] }, type := 4, pos := "law.go:59", after := #[{ on := 40, ground := Ground.data }, { on := 40, ground := Ground.chain }, { on := 38, ground := Ground.guard }], guard := some (38, true) }) rfl (fun K hK => ?_) AllReadyH.nil
        go_simp
        (go_at_call 21; (with_reducible refine (sane_any _ _ _ _ _ _ _ _ _ b r1 R1.out _ (by have := H12.out.pm.len; omega) (by have := H12.out.po.len; omega) H12.out.pc.len H12.out.pm H12.out.po).mono ?_); rintro e w13 ⟨rfl, hb13⟩; have HU := Lib.hid (below_then HU.out hb13); clear hb13)
        refine hK.out _ _ (⟨HU.out, ⟨(Z06.out.keep HU.out).c0, (Z06.out.keep HU.out).c1, (Z06.out.keep HU.out).c2⟩, ⟨(X1b6.out.keep HU.out).c0, (X1b6.out.keep HU.out).c1, (X1b6.out.keep HU.out).c2⟩, ⟨(X2b6.out.keep HU.out).c0, (X2b6.out.keep HU.out).c1, (X2b6.out.keep HU.out).c2⟩, ⟨(X3b6.out.keep HU.out).c0, (X3b6.out.keep HU.out).c1, (X3b6.out.keep HU.out).c2⟩, ⟨(X4b6.out.keep HU.out).c0, (X4b6.out.keep HU.out).c1, (X4b6.out.keep HU.out).c2⟩⟩) (fun hHeld => ?_)
        clear hK K
        try simp only [Act.put, List.setIfInBounds_toArray, List.set_cons_zero, List.set_cons_succ]
        refine wpAnyH_ready (rs := [43]) (by kernel_rfl) (by simp) ?_
        refine AllReadyH.cons (o := { dst := some 119, op := Op.call { callee := Callee.value (Operand.func 22), args := #[Operand.tmp 118], argTypes := #[25] }, type := 4, pos := "law.go:59", after := #[{ on := 42, ground := Ground.data }, { on := 41, ground := Ground.chain }, { on := 38, ground := Ground.guard }], guard := some (38, true) }) rfl (fun K hK => ?_) AllReadyH.nil
        go_simp
        (go_at_call 22; (with_reducible refine (KR.out _ HU.out).mono ?_); rintro e w14 ⟨rfl, hb14⟩; have HU := Lib.hid (below_then HU.out hb14); clear hb14)
        refine hK.out _ _ (⟨HU.out, ⟨(Z06.out.keep HU.out).c0, (Z06.out.keep HU.out).c1, (Z06.out.keep HU.out).c2⟩, ⟨(X1b6.out.keep HU.out).c0, (X1b6.out.keep HU.out).c1, (X1b6.out.keep HU.out).c2⟩, ⟨(X2b6.out.keep HU.out).c0, (X2b6.out.keep HU.out).c1, (X2b6.out.keep HU.out).c2⟩, ⟨(X3b6.out.keep HU.out).c0, (X3b6.out.keep HU.out).c1, (X3b6.out.keep HU.out).c2⟩, ⟨(X4b6.out.keep HU.out).c0, (X4b6.out.keep HU.out).c1, (X4b6.out.keep HU.out).c2⟩⟩) (fun hHeld => ?_)
        clear hK K
        try simp only [Act.put, List.setIfInBounds_toArray, List.set_cons_zero, List.set_cons_succ]
        refine wpAnyH_take (i := 44) (oi := { dst := some 120, op := Op.binOp BinOp.eql 4 (Operand.tmp 117) (Operand.tmp 119) 4, type := 4, pos := "law.go:59", after := #[{ on := 41, ground := Ground.data }, { on := 43, ground := Ground.data }, { on := 38, ground := Ground.guard }], guard := some (38, true) }) (v := ?_) rfl (by kernel_rfl) (by kernel_rfl) (by kernel_rfl) (fun _ _ _ h => h) (Or.inl ⟨by kernel_rfl, ?_⟩) hHeld ?_
        rotate_left
        · intro w9 hSw; (try dsimp only at hSw); go_simp; try with_reducible rfl
        simp only [Act.put, List.setIfInBounds_toArray, List.set_cons_zero, List.set_cons_succ]
        refine wpAnyH_take (i := 45) (oi := { dst := some 121, op := Op.pick (Operand.tmp 114) (Operand.tmp 120) (Operand.const (Value.bool false)), type := 4, pos := "law.go:59", after := #[{ on := 38, ground := Ground.data }, { on := 44, ground := Ground.data }], guard := none }) (v := ?_) rfl (by kernel_rfl) (by kernel_rfl) (by kernel_rfl) (fun _ _ _ h => h) (Or.inl ⟨by kernel_rfl, ?_⟩) hHeld ?_
        rotate_left
        · intro w9 hSw; (try dsimp only at hSw); go_simp; try with_reducible rfl
        simp only [Act.put, List.setIfInBounds_toArray, List.set_cons_zero, List.set_cons_succ]
        refine wpAnyH_take (i := 46) (oi := { dst := some 122, op := Op.move (Operand.tmp 121), type := 4, pos := "law.go:59", after := #[{ on := 45, ground := Ground.data }, { on := 43, ground := Ground.chain }], guard := none }) (v := ?_) rfl (by kernel_rfl) (by kernel_rfl) (by kernel_rfl) (fun _ _ _ h => h) (Or.inl ⟨by kernel_rfl, ?_⟩) hHeld ?_
        rotate_left
        · intro w9 hSw; (try dsimp only at hSw); go_simp; try with_reducible rfl
        simp only [Act.put, List.setIfInBounds_toArray, List.set_cons_zero, List.set_cons_succ]
        refine wpAnyH_take (i := 47) (oi := { dst := some 123, op := Op.move (Operand.tmp 1), type := 22, pos := "law.go:59", after := #[{ on := 46, ground := Ground.guard }], guard := some (46, true) }) (v := ?_) rfl (by kernel_rfl) (by kernel_rfl) (by kernel_rfl) (fun _ _ _ h => h) (Or.inl ⟨by kernel_rfl, ?_⟩) hHeld ?_
        rotate_left
        · intro w9 hSw; (try dsimp only at hSw); go_simp; try with_reducible rfl
        simp only [Act.put, List.setIfInBounds_toArray, List.set_cons_zero, List.set_cons_succ]
        refine wpAnyH_take (i := 49) (oi := { dst := some 125, op := Op.move (Operand.tmp 1), type := 22, pos := "law.go:59", after := #[{ on := 46, ground := Ground.guard }], guard := some (46, true) }) (v := ?_) rfl (by kernel_rfl) (by kernel_rfl) (by kernel_rfl) (fun _ _ _ h => h) (Or.inl ⟨by kernel_rfl, ?_⟩) hHeld ?_
        rotate_left
        · intro w9 hSw; (try dsimp only at hSw); go_simp; try with_reducible rfl
        simp only [Act.put, List.setIfInBounds_toArray, List.set_cons_zero, List.set_cons_succ]
        refine wpAnyH_ready (rs := [48]) (by kernel_rfl) (by simp) ?_
        refine AllReadyH.cons (o := { dst := some 124, op := Op.call { callee := Callee.value (Operand.func 23), args := #[Operand.tmp 123], argTypes := #[22] }, type := 4, pos := "law.go:59", after := #[{ on := 47, ground := Ground.data }, { on := 46, ground := Ground.chain }, { on := 46, ground := Ground.guard }], guard := some (46, true) }) rfl (fun K hK => ?_) AllReadyH.nil
        go_simp
        (go_at_call 23; (with_reducible refine (KW.out _ HU.out).mono ?_); rintro e w15 ⟨rfl, hb15⟩; have HU := Lib.hid (below_then HU.out hb15); clear hb15)
        refine hK.out _ _ (⟨HU.out, ⟨(Z06.out.keep HU.out).c0, (Z06.out.keep HU.out).c1, (Z06.out.keep HU.out).c2⟩, ⟨(X1b6.out.keep HU.out).c0, (X1b6.out.keep HU.out).c1, (X1b6.out.keep HU.out).c2⟩, ⟨(X2b6.out.keep HU.out).c0, (X2b6.out.keep HU.out).c1, (X2b6.out.keep HU.out).c2⟩, ⟨(X3b6.out.keep HU.out).c0, (X3b6.out.keep HU.out).c1, (X3b6.out.keep HU.out).c2⟩, ⟨(X4b6.out.keep HU.out).c0, (X4b6.out.keep HU.out).c1, (X4b6.out.keep HU.out).c2⟩⟩) (fun hHeld => ?_)
        clear hK K
        try simp only [Act.put, List.setIfInBounds_toArray, List.set_cons_zero, List.set_cons_succ]
        refine wpAnyH_ready (rs := [50]) (by kernel_rfl) (by simp) ?_
        refine AllReadyH.cons (o := { dst := some 126, op := Op.call { callee := Callee.value (Operand.func 24), args := #[Operand.tmp 125], argTypes := #[22] }, type := 4, pos := "law.go:59", after := #[{ on := 49, ground := Ground.data }, { on := 48, ground := Ground.chain }, { on := 46, ground := Ground.guard }], guard := some (46, true) }) rfl (fun K hK => ?_) AllReadyH.nil
        go_simp
        (go_at_call 24; (with_reducible refine (KV.out _ HU.out).mono ?_); rintro e w16 ⟨rfl, hb16⟩; subst hb16)
        refine hK.out _ _ (⟨HU.out, ⟨(Z06.out.keep HU.out).c0, (Z06.out.keep HU.out).c1, (Z06.out.keep HU.out).c2⟩, ⟨(X1b6.out.keep HU.out).c0, (X1b6.out.keep HU.out).c1, (X1b6.out.keep HU.out).c2⟩, ⟨(X2b6.out.keep HU.out).c0, (X2b6.out.keep HU.out).c1, (X2b6.out.keep HU.out).c2⟩, ⟨(X3b6.out.keep HU.out).c0, (X3b6.out.keep HU.out).c1, (X3b6.out.keep HU.out).c2⟩, ⟨(X4b6.out.keep HU.out).c0, (X4b6.out.keep HU.out).c1, (X4b6.out.keep HU.out).c2⟩⟩) (fun hHeld => ?_)
        clear hK K
        try simp only [Act.put, List.setIfInBounds_toArray, List.set_cons_zero, List.set_cons_succ]
        refine wpAnyH_take (i := 51) (oi := { dst := some 127, op := Op.binOp BinOp.eql 4 (Operand.tmp 124) (Operand.tmp 126) 4, type := 4, pos := "law.go:59", after := #[{ on := 48, ground := Ground.data }, { on := 50, ground := Ground.data }, { on := 46, ground := Ground.guard }], guard := some (46, true) }) (v := ?_) rfl (by kernel_rfl) (by kernel_rfl) (by kernel_rfl) (fun _ _ _ h => h) (Or.inl ⟨by kernel_rfl, ?_⟩) hHeld ?_
        rotate_left
        · intro w9 hSw; (try dsimp only at hSw); go_simp; try with_reducible rfl
        simp only [Act.put, List.setIfInBounds_toArray, List.set_cons_zero, List.set_cons_succ]
        refine wpAnyH_take (i := 52) (oi := { dst := some 128, op := Op.pick (Operand.tmp 122) (Operand.tmp 127) (Operand.const (Value.bool false)), type := 4, pos := "law.go:59", after := #[{ on := 46, ground := Ground.data }, { on := 51, ground := Ground.data }], guard := none }) (v := ?_) rfl (by kernel_rfl) (by kernel_rfl) (by kernel_rfl) (fun _ _ _ h => h) (Or.inl ⟨by kernel_rfl, ?_⟩) hHeld ?_
        rotate_left
        · intro w9 hSw; (try dsimp only at hSw); go_simp; try with_reducible rfl
        simp only [Act.put, List.setIfInBounds_toArray, List.set_cons_zero, List.set_cons_succ]
        refine wpAnyH_take (i := 53) (oi := { dst := some 6, op := Op.assign (Operand.tmp 128), type := 4, pos := "law.go:59", after := #[{ on := 52, ground := Ground.data }, { on := 50, ground := Ground.chain }, { on := 0, ground := Ground.phase }, { on := 1, ground := Ground.phase }, { on := 2, ground := Ground.phase }, { on := 3, ground := Ground.phase }, { on := 4, ground := Ground.phase }, { on := 5, ground := Ground.phase }, { on := 6, ground := Ground.phase }, { on := 7, ground := Ground.phase }, { on := 8, ground := Ground.phase }, { on := 9, ground := Ground.phase }, { on := 10, ground := Ground.phase }, { on := 11, ground := Ground.phase }, { on := 12, ground := Ground.phase }, { on := 13, ground := Ground.phase }, { on := 14, ground := Ground.phase }, { on := 15, ground := Ground.phase }, { on := 16, ground := Ground.phase }, { on := 17, ground := Ground.phase }, { on := 18, ground := Ground.phase }, { on := 19, ground := Ground.phase }, { on := 20, ground := Ground.phase }, { on := 21, ground := Ground.phase }, { on := 22, ground := Ground.phase }, { on := 23, ground := Ground.phase }, { on := 24, ground := Ground.phase }, { on := 25, ground := Ground.phase }, { on := 26, ground := Ground.phase }, { on := 27, ground := Ground.phase }, { on := 28, ground := Ground.phase }, { on := 29, ground := Ground.phase }, { on := 30, ground := Ground.phase }, { on := 31, ground := Ground.phase }, { on := 32, ground := Ground.phase }, { on := 33, ground := Ground.phase }, { on := 34, ground := Ground.phase }, { on := 35, ground := Ground.phase }, { on := 36, ground := Ground.phase }, { on := 37, ground := Ground.phase }, { on := 38, ground := Ground.phase }, { on := 39, ground := Ground.phase }, { on := 40, ground := Ground.phase }, { on := 41, ground := Ground.phase }, { on := 42, ground := Ground.phase }, { on := 43, ground := Ground.phase }, { on := 44, ground := Ground.phase }, { on := 45, ground := Ground.phase }, { on := 46, ground := Ground.phase }, { on := 47, ground := Ground.phase }, { on := 48, ground := Ground.phase }, { on := 49, ground := Ground.phase }, { on := 50, ground := Ground.phase }, { on := 51, ground := Ground.phase }, { on := 52, ground := Ground.phase }], guard := none }) (v := ?_) rfl (by kernel_rfl) (by kernel_rfl) (by kernel_rfl) (fun _ _ _ h => h) (Or.inl ⟨by kernel_rfl, ?_⟩) hHeld ?_
        rotate_left
        · intro w9 hSw; (try dsimp only at hSw); go_simp; try with_reducible rfl
        simp only [Act.put, List.setIfInBounds_toArray, List.set_cons_zero, List.set_cons_succ]
        refine wpAnyH_done (by kernel_rfl) ?_ _
        go_wp2
        go_ret
        exact ⟨rfl, below_then HB.out (below_then HV.out HU.out)⟩
end Go.Proofs.Ytkcpmjccggfpiaa
