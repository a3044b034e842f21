/-
  What the document's own calls answer: LEAVE; the words that lay a mark.
-/
import Derived.Test.YtkcpmjccggfpiaaFlowRefC
import Derived.Test.YtkcpmjccggfpiaaFlowPairs
namespace Go.Proofs.Ytkcpmjccggfpiaa
open Go.RowKit

theorem wdN_not {b : Bd} {d : Wd} (h : wdE b d = -22) : wdN b d = b := by unfold wdN; rw [if_neg (by rw [h]; decide)]
theorem Bx.sameBelow {w w' : World} {g : Nat} {t : TypeId} {x y z : Value} (h : Bx w g t x y z) (hb : Below w.heap.size w w') : Bx w' g t x y z := h.keep hb
theorem remit_of (A B C : Option Addr) (n c m d k f : Nat) (b : Bd) (Y : Option Addr) (p q : Nat) (x : List (Int × Int)) (w : World) (hF : Few 3000 b) (hs : flSane b = true) (hp : p ≤ 10) (h : Bl w A n c B m d C k f b) (hx : Prs w Y p q x) :
    Calls Try.prog 13 #[.agg #[.slice A n c, .slice B m d, .slice C k f], .slice Y p q] w (BtPost w ⟨b.code ++ x, b.marks, b.outs⟩ 0) := by
  have h2 := remit_any A B C n c m d k f b Y p q x w (hF.mono (by omega)) (by omega) h hx
  have hl : ¬ 4096 < b.code.length + x.length := by have := hF.1; have h3 := hx.len; omega
  rw [snd_of hs, layB_of hl, layE_of (by omega)] at h2
  exact h2
theorem rone_of (A B C : Option Addr) (n c m d k f : Nat) (b : Bd) (o a : Int) (w : World) (hF : Few 3000 b) (hs : flSane b = true) (h : Bl w A n c B m d C k f b) :
    Calls Try.prog 37 #[.agg #[.slice A n c, .slice B m d, .slice C k f], .int .i64 o, .int .i64 a] w (BtPost w ⟨b.code ++ [(o, a)], b.marks, b.outs⟩ 0) := by
  have h2 := rone_any A B C n c m d k f b o a w (hF.mono (by omega)) h
  have hl : layE b 1 = 0 := layE_of (by have := hF.1; omega)
  rw [snd_of hs, hl, lay1 hl] at h2
  exact h2
theorem Few.code {N : Nat} {b : Bd} (h : Few N b) (x : List (Int × Int)) (hx : x.length ≤ 2) : Few (N + 2) ⟨b.code ++ x, b.marks, b.outs⟩ := ⟨by have := h.1; simp; omega, by have := h.2.1; simp; omega, by have := h.2.2; simp; omega⟩
set_option maxHeartbeats 2000000 in
theorem rleave_any (A B C : Option Addr) (n c m d k f : Nat) (b : Bd) (w : World) (hF : Few 1000 b) (hs : flSane b = true) (h : Bl w A n c B m d C k f b) :
    Calls Try.prog 36 #[.agg #[.slice A n c, .slice B m d, .slice C k f]] w (BtPost w (wdN b .leave) (wdE b .leave)) := by
  have HF := Lib.hid hF
  have HS := Lib.hid hs
  clear hs
  obtain ⟨hn, hm, hk⟩ := h.ns hF
  have LC := Lib.hid h.1.len
  have LM := Lib.hid h.2.1.len
  have LO := Lib.hid h.2.2.len
  have H := Lib.hid h
  clear h hF
  have X1 := Lib.hid ((Bx.new w 25 (.slice A n c) (.slice B m d) (.slice C k f)).alloc (.cells #[.slice none 0 0, .slice none 0 0, .slice none 0 0] 25))
  have X2 := Lib.hid (Bx.new2 w (.cells #[.slice A n c, .slice B m d, .slice C k f] 25) 25 (.slice none 0 0) (.slice none 0 0) (.slice none 0 0))
  have HB := Lib.hid (below_two w (.cells #[.slice A n c, .slice B m d, .slice C k f] 25) (.cells #[.slice none 0 0, .slice none 0 0, .slice none 0 0] 25))
  go_enter Try.func36, Try.ntmps36
  go_upto_region 1 with (fail)
  generalize (w.alloc (.cells #[.slice A n c, .slice B m d, .slice C k f] 25)).alloc (.cells #[.slice none 0 0, .slice none 0 0, .slice none 0 0] 25) = W at *
  have hg1 : w.heap.size < W.heap.size := X1.out.lt
  have hg2 : w.heap.size + 1 < W.heap.size := X2.out.lt
  have HL := Lib.hid (H.out.below HB.out)
  have a0 := X1.out.c0; have a1 := X1.out.c1; have a2 := X1.out.c2; have af0 := X1.out.f0; have af1 := X1.out.f1; have af2 := X1.out.f2
  have z0 := X2.out.c0; have z1 := X2.out.c1; have z2 := X2.out.c2; have zf0 := X2.out.f0; have zf1 := X2.out.f1; have zf2 := X2.out.f2
  have KD := Lib.hid (fun w' (h : Below W.heap.size W w') => rdeep_any A B C n c m d k f b.marks w' (by omega) (HL.out.pm.below h))
  by_cases hD : flDeep b.marks = 0
  · have hd : (((flDeep b.marks : Nat) : Int) == 0) = true := by rw [hD]; rfl
    have HE : Hid (wdE b .leave = -22) := Lib.hid (by show (if flDeep b.marks = 0 then (-22 : Int) else layE b 2) = -22; rw [if_pos hD])
    generalize flDeep b.marks = D at *
    clear hD
    go_wp2_with (go_at_call 25; refine (KD.out _ (Below.refl _ _)).mono ?_; rintro e w1 ⟨rfl, hb1⟩; have HU := Lib.hid hb1; clear hb1; have Y1 := Lib.hid (X1.out.keep HU.out); have Y2 := Lib.hid (X2.out.keep HU.out); clear a0 a1 a2 af0 af1 af2 z0 z1 z2 zf0 zf1 zf2; have a0 := Y1.out.c0; have a1 := Y1.out.c1; have a2 := Y1.out.c2; have af0 := Y1.out.f0; have af1 := Y1.out.f1; have af2 := Y1.out.f2; have z0 := Y2.out.c0; have z1 := Y2.out.c1; have z2 := Y2.out.c2; have zf0 := Y2.out.f0; have zf1 := Y2.out.f1; have zf2 := Y2.out.f2; have hy2 := Y2.out.lt)
    refine bodyPost_ret (v := .tuple #[.agg #[.slice A n c, .slice B m d, .slice C k f], .int .i64 (-22)]) (by simp [results, Try.results36, go_sem, z0, z1, z2] <;> rfl) rfl (bt_fin (b' := b) ((HL.out.below HU.out).set3 Y2.out) (below_set3 (below_then HB.out HU.out) (by simp) _ _ _) (wdN_not HE.out).symm HE.out.symm)
  · have hd : (((flDeep b.marks : Nat) : Int) == 0) = false := by simp; omega
    have HE : Hid (wdE b .leave = 0) := Lib.hid (by show (if flDeep b.marks = 0 then (-22 : Int) else layE b 2) = 0; rw [if_neg hD]; exact layE_of (by have := HF.out.1; omega))
    have HBv : Hid (wdN b .leave = outB ⟨b.code ++ [(9, 0), (1, 0)], b.marks, b.outs⟩ ((n : Int) + 1)) := Lib.hid (by rw [wdN_of HE.out]; simp only [wdB, if_neg hD]; rw [layB_of (by have := HF.out.1; simp; omega)]; congr 1; simp [LC.out]; omega)
    generalize flDeep b.marks = D at *
    clear hD
    go_upto_region 3 with ((go_at_call 25; refine (KD.out _ (Below.refl _ _)).mono ?_; rintro e w1 ⟨rfl, hb1⟩; have HU := Lib.hid hb1; clear hb1; have Y1 := Lib.hid (X1.out.keep HU.out); have Y2 := Lib.hid (X2.out.keep HU.out); clear a0 a1 a2 af0 af1 af2 z0 z1 z2 zf0 zf1 zf2; have a0 := Y1.out.c0; have a1 := Y1.out.c1; have a2 := Y1.out.c2; have af0 := Y1.out.f0; have af1 := Y1.out.f1; have af2 := Y1.out.f2; have z0 := Y2.out.c0; have z1 := Y2.out.c1; have z2 := Y2.out.c2; have zf0 := Y2.out.f0; have zf1 := Y2.out.f1; have zf2 := Y2.out.f2; have hy2 := Y2.out.lt))
    have HL1 := Lib.hid (HL.out.below HU.out)
    have FC2 : Hid (Few 1002 ⟨b.code ++ [(9, 0), (1, 0)], b.marks, b.outs⟩) := Lib.hid (HF.out.code _ (by simp))
    go_upto_region 4 with ((go_at_call 13; refine (remit_of _ _ _ _ _ _ _ _ _ b _ _ _ [(9, 0), (1, 0)] _ (HF.out.mono (by omega)) HS.out (by omega) (HL1.out.alloc _) (Prs.new2 _ _ 9 0 1 0)).mono ?_; rintro e w2 ⟨A2, n2, c2, B2, m2, d2, C2, k2, f2, rfl, h2, hb2⟩; have HC2 := Lib.hid (below_then (below_new hb2) (below_one w2 (.cells #[.slice A2 n2 c2, .slice B2 m2 d2, .slice C2 k2 f2] 25))); have H2 := Lib.hid (h2.alloc (.cells #[.slice A2 n2 c2, .slice B2 m2 d2, .slice C2 k2 f2] 25)); have X4 := Lib.hid (Bx.new w2 25 (.slice A2 n2 c2) (.slice B2 m2 d2) (.slice C2 k2 f2)); clear h2 hb2))
    generalize w2.alloc (.cells #[.slice A2 n2 c2, .slice B2 m2 d2, .slice C2 k2 f2] 25) = W2 at *
    have HU2 := Lib.hid (below_then HU.out HC2.out)
    have Z1 := Lib.hid (Y1.out.keep HC2.out)
    have Z2 := Lib.hid (Y2.out.keep HC2.out)
    clear a0 a1 a2 af0 af1 af2 z0 z1 z2 zf0 zf1 zf2
    have a0 := Z1.out.c0; have a1 := Z1.out.c1; have a2 := Z1.out.c2; have af0 := Z1.out.f0; have af1 := Z1.out.f1; have af2 := Z1.out.f2
    have z0 := Z2.out.c0; have z1 := Z2.out.c1; have z2 := Z2.out.c2; have zf0 := Z2.out.f0; have zf1 := Z2.out.f1; have zf2 := Z2.out.f2
    have x0 := X4.out.c0; have x1 := X4.out.c1; have x2 := X4.out.c2; have xf0 := X4.out.f0; have xf1 := X4.out.f1; have xf2 := X4.out.f2
    have hz2 := Z2.out.lt
    go_wp2_with (go_at_call 58; refine (rout_any _ _ _ _ _ _ _ _ _ _ ((n : Int) + 1) _ (FC2.out.mono (by omega)) H2.out).mono ?_; rintro e w3 ⟨A3, n3, c3, B3, m3, d3, C3, k3, f3, rfl, h3, hb3⟩; have HU3 := Lib.hid (below_then HU2.out hb3); have H3 := Lib.hid h3; clear h3 hb3; have V2 := Lib.hid (X2.out.keep HU3.out); clear z0 z1 z2 zf0 zf1 zf2; have z0 := V2.out.c0; have z1 := V2.out.c1; have z2 := V2.out.c2; have zf0 := V2.out.f0; have zf1 := V2.out.f1; have zf2 := V2.out.f2; have hv2 := V2.out.lt)
    refine bodyPost_ret (v := .tuple #[.agg #[.slice A3 n3 c3, .slice B3 m3 d3, .slice C3 k3 f3], .int .i64 0]) (by simp [results, Try.results36, go_sem, z0, z1, z2] <;> rfl) rfl (bt_fin (H3.out.set3 V2.out) (below_set3 (below_then HB.out HU3.out) (by simp) _ _ _) HBv.out.symm HE.out.symm)
end Go.Proofs.Ytkcpmjccggfpiaa
