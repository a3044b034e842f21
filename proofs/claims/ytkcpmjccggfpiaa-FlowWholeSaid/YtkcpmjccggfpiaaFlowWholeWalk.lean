/-
  What is built by words, and ends, is whole (FlowWhole): its walk.
-/
import Derived.Test.YtkcpmjccggfpiaaFlowMore
import Derived.Test.YtkcpmjccggfpiaaFlowOpen
import Derived.Deep.CutRange
namespace Go.Proofs.Ytkcpmjccggfpiaa
open Go.RowKit

theorem Strs.below {w w' : World} {A : Option Addr} {n : Nat} {l : List (List UInt8)} (h : Strs w A n l) (hb : Below w.heap.size w w') : Strs w' A n l :=
  ⟨h.1, fun hn => by
    obtain ⟨b, o, e, hbl, hc⟩ := h.2.1 hn
    exact ⟨b, o, e, Nat.lt_of_lt_of_le hbl hb.size, fun j hj => (hb.cell (p := ⟨b, _, none⟩) hbl).trans (hc j hj)⟩, h.2.2⟩
theorem Strs.at_ {w : World} {A : Option Addr} {n : Nat} {l : List (List UInt8)} (h : Strs w A n l) (q : Nat) (hq : q < n) : ∃ b o, A = some ⟨b, o, none⟩ ∧ b < w.heap.size ∧ w.cell? ⟨b, o + q, none⟩ = some (.string ⟨(l.getD q []).toArray⟩) := by
  obtain ⟨b, o, rfl, hb, hc⟩ := h.2.1 (by omega)
  have hl : q < l.length := by rw [h.1]; exact hq
  exact ⟨b, o, rfl, hb, by rw [hc q hl]; simp [List.getD, hl]⟩
set_option maxRecDepth 8000 in
set_option maxHeartbeats 4000000 in
theorem flowWhole_any (A : Option Addr) (n c : Nat) (l : List (List UInt8)) (B : Option Addr) (m d : Nat) (x : List Int) (W : World) (h1 : Strs W A n l) (h2 : Ints W B m x) :
    Calls Try.prog 4 #[.slice A n c, .slice B m d] W fun e w' => e = .returned (.bool true) ∧ Below W.heap.size W w' := by
  have IA := Lib.hid h1
  have IB := Lib.hid h2
  clear h1 h2
  go_enter Try.func4, Try.ntmps4
  go_upto_region 2 with ((go_at_call 9; refine (awake_any _).mono ?_; rintro e w0 ⟨rfl, hb0⟩; have HB0 := Lib.hid hb0; clear hb0))
  by_cases hn : 60 < n
  · have hd : (60 : Int) < (n : Int) := by omega
    go_wp2
    go_ret
    exact ⟨rfl, HB0.out⟩
  · have hd : ¬ (60 : Int) < (n : Int) := by omega
    by_cases hm : 60 < m
    · have hd2 : (60 : Int) < (m : Int) := by omega
      go_wp2
      go_ret
      exact ⟨rfl, HB0.out⟩
    · have hd2 : ¬ (60 : Int) < (m : Int) := by omega
      have X6 := Lib.hid (Bx.new w0 30 (.slice none 0 0) (.slice none 0 0) (.slice none 0 0))
      have HB := Lib.hid (below_then HB0.out (below_one w0 (.cells #[.slice none 0 0, .slice none 0 0, .slice none 0 0] 30)))
      go_upto_region 5 with (fail)
      generalize w0.alloc (.cells #[.slice none 0 0, .slice none 0 0, .slice none 0 0] 30) = W1 at *
      have hg6 : W.heap.size ≤ w0.heap.size := HB0.out.size
      go_wp2
      go_loopw [7] (fun i wr => ∃ (j : Nat) (A1 : Option Addr) (n1 c1 : Nat) (B1 : Option Addr) (m1 d1 : Nat) (C1 : Option Addr) (k1 f1 : Nat) (b : Bd), j ≤ n ∧ i = .int .i64 j ∧ Bx wr w0.heap.size 30 (.slice A1 n1 c1) (.slice B1 m1 d1) (.slice C1 k1 f1) ∧ Bl wr A1 n1 c1 B1 m1 d1 C1 k1 f1 b ∧ flSane b = true ∧ flInv b ∧ Few (2 * j) b ∧ Below W.heap.size W wr) (fun i _ => ((n : Int) - intOf i).toNat)
      case atStart => exact ⟨0, none, 0, 0, none, 0, 0, none, 0, 0, ⟨[], [], []⟩, by omega, rfl, X6.out, Bl.nil, rfl, (fun i hi => by cases hi), ⟨by simp, by simp, by simp⟩, HB.out⟩
      case round =>
        obtain ⟨j, A1, n1, c1, B1, m1, d1, C1, k1, f1, b, hj, rfl, hX, hL, hs, hi, hF, hb⟩ := hrel
        have R6 := Lib.hid hX
        have HL := Lib.hid hL
        have HS := Lib.hid hs
        have HI := Lib.hid hi
        have HF := Lib.hid hF
        have RB := Lib.hid hb
        have N1 := Lib.hid hL.pc.len
        have M1 := Lib.hid hL.pm.len
        have K1 := Lib.hid hL.po.len
        have hn1 : n1 ≤ 200 := by rw [← N1.out]; have := hF.1; omega
        have hm1 : m1 ≤ 200 := by rw [← M1.out]; have := hF.2.1; omega
        have hk1 : k1 ≤ 200 := by rw [← K1.out]; have := hF.2.2; omega
        clear hX hL hs hi hF hb
        have a0 := R6.out.c0; have a1 := R6.out.c1; have a2 := R6.out.c2; have af0 := R6.out.f0; have af1 := R6.out.f1; have af2 := R6.out.f2
        have hr6 := R6.out.lt
        by_cases hlt : j < n
        · obtain ⟨xb, xo, rfl, hbl, e0'⟩ := IA.out.at_ j hlt
          have e0 := (RB.out.cell (p := ⟨xb, _, none⟩) hbl).trans e0'
          have hxr : xb < wr.heap.size := Nat.lt_of_lt_of_le hbl RB.out.size
          clear e0'
          generalize (l.getD j []) = T at *
          have hz := size_lit T
          generalize hSx : (⟨T.toArray⟩ : ByteArray) = S at *
          by_cases hl : 100 < T.length
          · have hl2 : (100 : Int) < (T.length : Int) := by omega
            go_wp2
            go_ret
            exact ⟨rfl, RB.out⟩
          · have hl2 : ¬ (100 : Int) < (T.length : Int) := by omega
            obtain ⟨BB, ok, E, t5, q1, q2, tk, f5⟩ := ww_more HS.out HF.out (by omega) T (by omega)
            rw [hSx] at t5
            have TA := Lib.hid t5
            have Q1 := Lib.hid q1
            have Q2 := Lib.hid q2
            have TK := Lib.hid tk
            have F5 := Lib.hid f5
            clear t5 q1 q2 tk f5
            go_upto_region 10 with (fail)
            have SKF : Hid (∀ w', Below wr.heap.size wr w' → Below wr.heap.size wr w' ∧ (w'.cell? ⟨w0.heap.size, 0, none⟩ = some (.slice A1 n1 c1) ∧ w'.cell? ⟨w0.heap.size, 1, none⟩ = some (.slice B1 m1 d1) ∧ w'.cell? ⟨w0.heap.size, 2, none⟩ = some (.slice C1 k1 f1)) ∧ w'.cell? ⟨xb, xo + j, none⟩ = some (.string S)) := Lib.hid fun w' h => ⟨h, ⟨(R6.out.keep h).c0, (R6.out.keep h).c1, (R6.out.keep h).c2⟩, (h.cell (p := ⟨xb, _, none⟩) hxr).trans e0⟩
            have HU : Hid (Below wr.heap.size wr wr.drew) := Lib.hid (Below.refl _ _).drew
            have HUa : Hid (Below wr.heap.size wr (wr.alloc (.cells #[.slice none 0 0, .slice none 0 0, .slice none 0 0] 30)).drew) := Lib.hid (below_one _ _).drew
            have Z0 : Hid (Bx (wr.alloc (.cells #[.slice none 0 0, .slice none 0 0, .slice none 0 0] 30)).drew wr.heap.size 30 (.slice none 0 0) (.slice none 0 0) (.slice none 0 0)) := Lib.hid (Bx.new wr _ _ _ _)
            go_cut [8, 9, 10] from 24 to 90 (fun p o e wx => ∃ (g : Nat) (A2 : Option Addr) (n2 c2 : Nat) (B2 : Option Addr) (m2 d2 : Nat) (C2 : Option Addr) (k2 f2 : Nat), p = .pointer (some ⟨g, 0, none⟩) ∧ o = .bool ok ∧ e = .int .i64 E ∧ wr.heap.size ≤ g ∧ Bx wx g 30 (.slice A2 n2 c2) (.slice B2 m2 d2) (.slice C2 k2 f2) ∧ Bl wx A2 n2 c2 B2 m2 d2 C2 k2 f2 BB ∧ Below wr.heap.size wr wx)
            case first =>
              go_region_held3 (fun w' => Below wr.heap.size wr w' ∧ (w'.cell? ⟨w0.heap.size, 0, none⟩ = some (.slice A1 n1 c1) ∧ w'.cell? ⟨w0.heap.size, 1, none⟩ = some (.slice B1 m1 d1) ∧ w'.cell? ⟨w0.heap.size, 2, none⟩ = some (.slice C1 k1 f1)) ∧ w'.cell? ⟨xb, xo + j, none⟩ = some (.string S)) (first | assumption | exact SKF.out _ HU.out | exact SKF.out _ (HU.out.alloc HU.out.size _) | exact SKF.out _ (below_set3 HU.out (Nat.le_refl _) _ _ _) | exact SKF.out _ (below_set3 (HU.out.alloc HU.out.size _) HU.out.size _ _ _) | exact SKF.out _ HUa.out)
                (first
                  | (go_at_call 14; (with_reducible refine (TA.out _ _ _ _ _ _ _ _ _ _ (HL.out.below HU.out)).mono ?_); rintro e w2 ⟨A2, n2, c2, B2, m2, d2, C2, k2, f2, rfl, h2, hb2⟩; have HU := Lib.hid (below_then HU.out hb2); have H2 := Lib.hid h2; have Y0 := Lib.hid (Bx.new w2 30 (.slice none 0 0) (.slice none 0 0) (.slice none 0 0)); clear h2 hb2; have y0 := Y0.out.c0; have y1 := Y0.out.c1; have y2 := Y0.out.c2; have yf0 := Y0.out.f0; have yf1 := Y0.out.f1; have yf2 := Y0.out.f2; have hy0 := Y0.out.lt)
                  | (go_at_call 14; (with_reducible refine (TA.out _ _ _ _ _ _ _ _ _ _ (HL.out.below HUa.out)).mono ?_); rintro e w2 ⟨A2, n2, c2, B2, m2, d2, C2, k2, f2, rfl, h2, hb2⟩; have HU := Lib.hid (below_then HUa.out hb2); have H2 := Lib.hid h2; have Z2 := Lib.hid (Z0.out.keep hb2); clear h2 hb2; have z0 := Z2.out.c0; have z1 := Z2.out.c1; have z2 := Z2.out.c2; have zf0 := Z2.out.f0; have zf1 := Z2.out.f1; have zf2 := Z2.out.f2; have hz2 := Z2.out.lt))
              all_goals
                go_wp2_with fail
                go_meet
                case rel => first | exact ⟨_, _, _, _, _, _, _, _, _, _, rfl, rfl, rfl, Nat.le_refl _, Z2.out.set3 (.slice A2 n2 c2) (.slice B2 m2 d2) (.slice C2 k2 f2), H2.out.set3 Z2.out (B1 := A2) (p1 := n2) (e1 := c2) (B2 := B2) (p2 := m2) (e2 := d2) (B3 := C2) (p3 := k2) (e3 := f2), below_set3 HU.out (Nat.le_refl _) _ _ _⟩ | exact ⟨_, _, _, _, _, _, _, _, _, _, rfl, rfl, rfl, HU.out.size, Bx.new w2 30 (.slice A2 n2 c2) (.slice B2 m2 d2) (.slice C2 k2 f2), H2.out.alloc _, HU.out.alloc HU.out.size _⟩
            case rest =>
              obtain ⟨g, A2, n2, c2, B2, m2, d2, C2, k2, f2, rfl, rfl, rfl, hg, hXc, hLc, hbc⟩ := hcut
              have X8 := Lib.hid hXc
              have L8 := Lib.hid hLc
              have HC := Lib.hid hbc
              have R7 := Lib.hid (R6.out.keep hbc)
              clear hXc hLc hbc SKF HU HUa Z0 a0 a1 a2 af0 af1 af2
              have a0 := R7.out.c0; have a1 := R7.out.c1; have a2 := R7.out.c2; have af0 := R7.out.f0; have af1 := R7.out.f1; have af2 := R7.out.f2
              have z0 := X8.out.c0; have z1 := X8.out.c1; have z2 := X8.out.c2; have zf0 := X8.out.f0; have zf1 := X8.out.f1; have zf2 := X8.out.f2
              have hr7 := R7.out.lt
              have hr8 := X8.out.lt
              have hge : ¬ g = w0.heap.size := by omega
              have HLc := Lib.hid (HL.out.below HC.out)
              have HBc := Lib.hid (below_then RB.out HC.out)
              cases ok
              · have hE : E = 0 := Q1.out rfl
                subst hE
                have e0x : ((0 : Int) != 0) = false := rfl
                by_cases hjm : j < m
                · obtain ⟨yb, yo, rfl, hbl2, y0'⟩ := IB.out.at_ j hjm
                  have y0 := (HBc.out.cell (p := ⟨yb, _, none⟩) hbl2).trans y0'
                  have hyr : yb < wr.heap.size := Nat.lt_of_lt_of_le hbl2 RB.out.size
                  have hyc : yb < wc.heap.size := Nat.lt_of_lt_of_le hbl2 HBc.out.size
                  have Y00 := Lib.hid y0'
                  clear y0'
                  generalize x.getD j 0 = a at *
                  have SKG : Hid (∀ w', Below wr.heap.size wr w' → Below wr.heap.size wr w' ∧ (w'.cell? ⟨w0.heap.size, 0, none⟩ = some (.slice A1 n1 c1) ∧ w'.cell? ⟨w0.heap.size, 1, none⟩ = some (.slice B1 m1 d1) ∧ w'.cell? ⟨w0.heap.size, 2, none⟩ = some (.slice C1 k1 f1)) ∧ w'.cell? ⟨yb, yo + j, none⟩ = some (.int .i64 a)) := Lib.hid fun w' h => ⟨h, ⟨(R6.out.keep h).c0, (R6.out.keep h).c1, (R6.out.keep h).c2⟩, (h.cell (p := ⟨yb, _, none⟩) hyr).trans ((RB.out.cell (p := ⟨yb, _, none⟩) hbl2).trans Y00.out)⟩
                  have HU : Hid (Below wr.heap.size wr wc.drew) := Lib.hid HC.out.drew
                  go_upto_region 12 with (fail)
                  go_region_held3 (fun w' => Below wr.heap.size wr w' ∧ (w'.cell? ⟨w0.heap.size, 0, none⟩ = some (.slice A1 n1 c1) ∧ w'.cell? ⟨w0.heap.size, 1, none⟩ = some (.slice B1 m1 d1) ∧ w'.cell? ⟨w0.heap.size, 2, none⟩ = some (.slice C1 k1 f1)) ∧ w'.cell? ⟨yb, yo + j, none⟩ = some (.int .i64 a)) (first | assumption | exact SKG.out _ HU.out | exact SKG.out _ ((HC.out.alloc HC.out.size _).drew) | exact SKG.out _ (below_set3 HU.out hg _ _ _))
                    (first | (go_at_call 11; (with_reducible refine (lit_any HS.out (HF.out.mono (by omega)) a _ _ _ _ _ _ _ _ _ _ _ _ ((HLc.out.alloc _).drew) ((Prs.new1 wc _ 0 a).drew)).mono ?_); rintro e w4 ⟨A4, n4, c4, B4, m4, d4, C4, k4, f4, rfl, h4, hb4⟩; have HU := Lib.hid (below_then ((HC.out.alloc HC.out.size _).drew) hb4); have H4 := Lib.hid h4; have Z8 := Lib.hid ((X8.out.alloc _).drew.keep hb4); have Z7 := Lib.hid ((R7.out.alloc _).drew.keep hb4); have K7 := Lib.hid ((HLc.out.alloc _).drew.below hb4); clear h4 hb4 z0 z1 z2 zf0 zf1 zf2 a0 a1 a2 af0 af1 af2; have z0 := Z8.out.c0; have z1 := Z8.out.c1; have z2 := Z8.out.c2; have zf0 := Z8.out.f0; have zf1 := Z8.out.f1; have zf2 := Z8.out.f2; have a0 := Z7.out.c0; have a1 := Z7.out.c1; have a2 := Z7.out.c2; have af0 := Z7.out.f0; have af1 := Z7.out.f1; have af2 := Z7.out.f2; have hz8 := Z8.out.lt; have hz7 := Z7.out.lt))
                  have X9 := Lib.hid (Z8.out.set3 (.slice A4 n4 c4) (.slice B4 m4 d4) (.slice C4 k4 f4))
                  have R9 := Lib.hid (Z7.out.other3 (g' := g) (by omega) (.slice A4 n4 c4) (.slice B4 m4 d4) (.slice C4 k4 f4))
                  have L9 := Lib.hid (H4.out.set3 Z8.out (B1 := A4) (p1 := n4) (e1 := c4) (B2 := B4) (p2 := m4) (e2 := d4) (B3 := C4) (p3 := k4) (e3 := f4))
                  have M9 := Lib.hid (K7.out.set3 Z8.out (B1 := A4) (p1 := n4) (e1 := c4) (B2 := B4) (p2 := m4) (e2 := d4) (B3 := C4) (p3 := k4) (e3 := f4))
                  have B9 := Lib.hid (below_then RB.out (below_set3 HU.out hg (.slice A4 n4 c4) (.slice B4 m4 d4) (.slice C4 k4 f4)))
                  have TK9 := Lib.hid (lit_took HS.out a)
                  have F9 := Lib.hid (lit_few HF.out a)
                  generalize layB b [(0, a)] = D at *
                  generalize (((w4.setCell ⟨g, 0, none⟩ (.slice A4 n4 c4)).setCell ⟨g, 1, none⟩ (.slice B4 m4 d4)).setCell ⟨g, 2, none⟩ (.slice C4 k4 f4)) = w9 at *
                  clear z0 z1 z2 zf0 zf1 zf2 a0 a1 a2 af0 af1 af2
                  have NN := Lib.hid L9.out.pc.len
                  have MM := Lib.hid L9.out.pm.len
                  have KK := Lib.hid L9.out.po.len
                  have g1 : m4 ≤ 200 := by rw [← MM.out]; have := F9.out.2.1; omega
                  have g2 : k4 ≤ 200 := by rw [← KK.out]; have := F9.out.2.2; omega
                  have g3 : n1 ≤ n4 := by rw [← NN.out, ← N1.out]; exact TK9.out.grow.len.1
                  have g4 : decide ((n4 : Int) < (n1 : Int)) = false := decide_eq_false (by omega)
                  have KSa := Lib.hid (fun w' (h : Below w9.heap.size w9 w') => sane_any A4 B4 C4 n4 c4 m4 d4 k4 f4 D true TK9.out.sane w' (by omega) (by omega) NN.out (L9.out.pm.below h) (L9.out.po.below h))
                  have KTc := Lib.hid (fun w' (h : Below w9.heap.size w9 w') => theirs_any A4 B4 C4 n4 c4 m4 d4 k4 f4 D w' (F9.out.mono (by omega)) (L9.out.below h))
                  have KTb := Lib.hid (fun w' (h : Below w9.heap.size w9 w') => theirs_any A1 B1 C1 n1 c1 m1 d1 k1 f1 b w' (HF.out.mono (by omega)) (M9.out.below h))
                  have HU : Hid (Below w9.heap.size w9 w9.drew) := Lib.hid (Below.refl _ _).drew
                  have a0 := R9.out.c0; have a1 := R9.out.c1; have a2 := R9.out.c2; have af0 := R9.out.f0; have af1 := R9.out.f1; have af2 := R9.out.f2
                  have z0 := X9.out.c0; have z1 := X9.out.c1; have z2 := X9.out.c2; have zf0 := X9.out.f0; have zf1 := X9.out.f1; have zf2 := X9.out.f2
                  have hr9 := R9.out.lt
                  have hx9 := X9.out.lt
                  go_upto_region 13 with (fail)
                  have hHeld0 : ((fun w' => Below w9.heap.size w9 w' ∧ (w'.cell? ⟨w0.heap.size, 0, none⟩ = some (.slice A1 n1 c1) ∧ w'.cell? ⟨w0.heap.size, 1, none⟩ = some (.slice B1 m1 d1) ∧ w'.cell? ⟨w0.heap.size, 2, none⟩ = some (.slice C1 k1 f1)) ∧ w'.cell? ⟨g, 0, none⟩ = some (.slice A4 n4 c4) ∧ w'.cell? ⟨g, 1, none⟩ = some (.slice B4 m4 d4) ∧ w'.cell? ⟨g, 2, none⟩ = some (.slice C4 k4 f4))) w9.drew := ⟨HU.out, ⟨(R9.out.keep HU.out).c0, (R9.out.keep HU.out).c1, (R9.out.keep HU.out).c2⟩, (X9.out.keep HU.out).c0, (X9.out.keep HU.out).c1, (X9.out.keep HU.out).c2⟩
                  refine wp_region_held_drew (S := (fun w' => Below w9.heap.size w9 w' ∧ (w'.cell? ⟨w0.heap.size, 0, none⟩ = some (.slice A1 n1 c1) ∧ w'.cell? ⟨w0.heap.size, 1, none⟩ = some (.slice B1 m1 d1) ∧ w'.cell? ⟨w0.heap.size, 2, none⟩ = some (.slice C1 k1 f1)) ∧ w'.cell? ⟨g, 0, none⟩ = some (.slice A4 n4 c4) ∧ w'.cell? ⟨g, 1, none⟩ = some (.slice B4 m4 d4) ∧ w'.cell? ⟨g, 2, none⟩ = some (.slice C4 k4 f4))) (by kernel_rfl) hHeld0 (fun hHeld => ?_)
                  clear hHeld0
                  refine wpAnyH_take (i := 0) (oi := { dst := some 66, op := Op.move (Operand.tmp 10), type := 31, pos := "law.go:77", after := #[], guard := none }) (v := ?_) rfl (by kernel_rfl) (by kernel_rfl) (by kernel_rfl) (fun _ _ _ h => h) (Or.inl ⟨by kernel_rfl, ?_⟩) hHeld ?_
                  rotate_left
                  · intro w9 hSw; (try dsimp only at hSw); go_simp; try with_reducible rfl
                  simp only [Act.put, List.setIfInBounds_toArray, List.set_cons_zero, List.set_cons_succ]
                  refine wpAnyH_take (i := 1) (oi := { dst := some 67, op := Op.binOp BinOp.neq 31 (Operand.tmp 66) (Operand.const (Value.int IntKind.i64 0)) 31, type := 4, pos := "law.go:77", after := #[{ on := 0, ground := Ground.data }], guard := none }) (v := ?_) rfl (by kernel_rfl) (by kernel_rfl) (by kernel_rfl) (fun _ _ _ h => h) (Or.inl ⟨by kernel_rfl, ?_⟩) hHeld ?_
                  rotate_left
                  · intro w9 hSw; (try dsimp only at hSw); go_simp; try with_reducible rfl
                  simp only [Act.put, List.setIfInBounds_toArray, List.set_cons_zero, List.set_cons_succ]
                  refine wpAnyH_take (i := 2) (oi := { dst := some 68, op := Op.move (Operand.tmp 67), type := 4, pos := "law.go:77", after := #[{ on := 1, ground := Ground.data }], guard := none }) (v := ?_) rfl (by kernel_rfl) (by kernel_rfl) (by kernel_rfl) (fun _ _ _ h => h) (Or.inl ⟨by kernel_rfl, ?_⟩) hHeld ?_
                  rotate_left
                  · intro w9 hSw; (try dsimp only at hSw); go_simp; try with_reducible rfl
                  simp only [Act.put, List.setIfInBounds_toArray, List.set_cons_zero, List.set_cons_succ]
                  refine wpAnyH_take (i := 3) (oi := { dst := some 69, op := Op.load 30 (Operand.tmp 8), type := 30, pos := "law.go:77", after := #[{ on := 2, ground := Ground.guard }], guard := some (2, true) }) (v := undef) rfl (by kernel_rfl) (by kernel_rfl) (by kernel_rfl) (fun _ _ _ h => h) (Or.inr ⟨by kernel_rfl, rfl⟩) hHeld ?_
                  simp only [Act.put, List.setIfInBounds_toArray, List.set_cons_zero, List.set_cons_succ]
                  refine wpAnyH_take (i := 4) (oi := { dst := some 70, op := Op.call { callee := Callee.value (Operand.func 19), args := #[Operand.tmp 69], argTypes := #[30] }, type := 25, pos := "law.go:77", after := #[{ on := 3, ground := Ground.data }, { on := 2, ground := Ground.chain }, { on := 2, ground := Ground.guard }], guard := some (2, true) }) (v := undef) rfl (by kernel_rfl) (by kernel_rfl) (by kernel_rfl) (fun _ _ _ h => h) (Or.inr ⟨by kernel_rfl, rfl⟩) hHeld ?_
                  simp only [Act.put, List.setIfInBounds_toArray, List.set_cons_zero, List.set_cons_succ]
                  refine wpAnyH_take (i := 5) (oi := { dst := some 71, op := Op.load 30 (Operand.tmp 6), type := 30, pos := "law.go:77", after := #[{ on := 2, ground := Ground.guard }], guard := some (2, true) }) (v := undef) rfl (by kernel_rfl) (by kernel_rfl) (by kernel_rfl) (fun _ _ _ h => h) (Or.inr ⟨by kernel_rfl, rfl⟩) hHeld ?_
                  simp only [Act.put, List.setIfInBounds_toArray, List.set_cons_zero, List.set_cons_succ]
                  refine wpAnyH_take (i := 6) (oi := { dst := some 72, op := Op.call { callee := Callee.value (Operand.func 19), args := #[Operand.tmp 71], argTypes := #[30] }, type := 25, pos := "law.go:77", after := #[{ on := 5, ground := Ground.data }, { on := 4, ground := Ground.chain }, { on := 2, ground := Ground.guard }], guard := some (2, true) }) (v := undef) rfl (by kernel_rfl) (by kernel_rfl) (by kernel_rfl) (fun _ _ _ h => h) (Or.inr ⟨by kernel_rfl, rfl⟩) hHeld ?_
                  simp only [Act.put, List.setIfInBounds_toArray, List.set_cons_zero, List.set_cons_succ]
                  refine wpAnyH_take (i := 7) (oi := { dst := some 73, op := Op.call { callee := Callee.value (Operand.func 18), args := #[Operand.tmp 70, Operand.tmp 72], argTypes := #[25, 25] }, type := 4, pos := "law.go:77", after := #[{ on := 4, ground := Ground.data }, { on := 6, ground := Ground.data }, { on := 6, ground := Ground.chain }, { on := 2, ground := Ground.guard }], guard := some (2, true) }) (v := undef) rfl (by kernel_rfl) (by kernel_rfl) (by kernel_rfl) (fun _ _ _ h => h) (Or.inr ⟨by kernel_rfl, rfl⟩) hHeld ?_
                  simp only [Act.put, List.setIfInBounds_toArray, List.set_cons_zero, List.set_cons_succ]
                  refine wpAnyH_take (i := 8) (oi := { dst := some 74, op := Op.unOp UnOp.not 4 (Operand.tmp 73), type := 4, pos := "law.go:77", after := #[{ on := 7, ground := Ground.data }, { on := 2, ground := Ground.guard }], guard := some (2, true) }) (v := undef) rfl (by kernel_rfl) (by kernel_rfl) (by kernel_rfl) (fun _ _ _ h => h) (Or.inr ⟨by kernel_rfl, rfl⟩) hHeld ?_
                  simp only [Act.put, List.setIfInBounds_toArray, List.set_cons_zero, List.set_cons_succ]
                  refine wpAnyH_take (i := 9) (oi := { dst := some 75, op := Op.pick (Operand.tmp 68) (Operand.tmp 74) (Operand.const (Value.bool false)), type := 4, pos := "law.go:77", after := #[{ on := 2, ground := Ground.data }, { on := 8, ground := Ground.data }], guard := none }) (v := ?_) rfl (by kernel_rfl) (by kernel_rfl) (by kernel_rfl) (fun _ _ _ h => h) (Or.inl ⟨by kernel_rfl, ?_⟩) hHeld ?_
                  rotate_left
                  · intro w9 hSw; (try dsimp only at hSw); go_simp; try with_reducible rfl
                  simp only [Act.put, List.setIfInBounds_toArray, List.set_cons_zero, List.set_cons_succ]
                  refine wpAnyH_take (i := 10) (oi := { dst := some 76, op := Op.move (Operand.tmp 75), type := 4, pos := "law.go:77", after := #[{ on := 9, ground := Ground.data }, { on := 7, ground := Ground.chain }], guard := none }) (v := ?_) rfl (by kernel_rfl) (by kernel_rfl) (by kernel_rfl) (fun _ _ _ h => h) (Or.inl ⟨by kernel_rfl, ?_⟩) hHeld ?_
                  rotate_left
                  · intro w9 hSw; (try dsimp only at hSw); go_simp; try with_reducible rfl
                  simp only [Act.put, List.setIfInBounds_toArray, List.set_cons_zero, List.set_cons_succ]
                  refine wpAnyH_take (i := 11) (oi := { dst := some 77, op := Op.load 30 (Operand.tmp 8), type := 30, pos := "law.go:77", after := #[{ on := 10, ground := Ground.guard }], guard := some (10, false) }) (v := ?_) rfl (by kernel_rfl) (by kernel_rfl) (by kernel_rfl) (fun _ _ _ h => h) (Or.inl ⟨by kernel_rfl, ?_⟩) hHeld ?_
                  rotate_left
                  · intro w9 hSw; (try dsimp only at hSw); go_simp; try with_reducible rfl
                  simp only [Act.put, List.setIfInBounds_toArray, List.set_cons_zero, List.set_cons_succ]
                  refine wpAnyH_ready (rs := [12]) (by kernel_rfl) (by simp) ?_
                  refine AllReadyH.cons (o := { dst := some 78, op := Op.call { callee := Callee.value (Operand.func 21), args := #[Operand.tmp 77], argTypes := #[30] }, type := 4, pos := "law.go:77", after := #[{ on := 11, ground := Ground.data }, { on := 10, ground := Ground.chain }, { on := 10, ground := Ground.guard }], guard := some (10, false) }) rfl (fun K hK => ?_) AllReadyH.nil
                  go_simp
                  (go_at_call 21; (with_reducible refine (KSa.out _ HU.out).mono ?_); rintro e w5 ⟨rfl, hb5⟩; have HU := Lib.hid (below_then HU.out hb5); clear hb5)
                  refine hK.out _ _ (⟨HU.out, ⟨(R9.out.keep HU.out).c0, (R9.out.keep HU.out).c1, (R9.out.keep HU.out).c2⟩, (X9.out.keep HU.out).c0, (X9.out.keep HU.out).c1, (X9.out.keep HU.out).c2⟩) (fun hHeld => ?_)
                  clear hK K
                  try simp only [Act.put, List.setIfInBounds_toArray, List.set_cons_zero, List.set_cons_succ]
                  refine wpAnyH_take (i := 13) (oi := { dst := some 79, op := Op.unOp UnOp.not 4 (Operand.tmp 78), type := 4, pos := "law.go:77", after := #[{ on := 12, ground := Ground.data }, { on := 10, ground := Ground.guard }], guard := some (10, false) }) (v := ?_) rfl (by kernel_rfl) (by kernel_rfl) (by kernel_rfl) (fun _ _ _ h => h) (Or.inl ⟨by kernel_rfl, ?_⟩) hHeld ?_
                  rotate_left
                  · intro w9 hSw; (try dsimp only at hSw); go_simp; try with_reducible rfl
                  simp only [Act.put, List.setIfInBounds_toArray, List.set_cons_zero, List.set_cons_succ]
                  refine wpAnyH_take (i := 14) (oi := { dst := some 80, op := Op.pick (Operand.tmp 76) (Operand.const (Value.bool true)) (Operand.tmp 79), type := 4, pos := "law.go:77", after := #[{ on := 10, ground := Ground.data }, { on := 13, ground := Ground.data }], guard := none }) (v := ?_) rfl (by kernel_rfl) (by kernel_rfl) (by kernel_rfl) (fun _ _ _ h => h) (Or.inl ⟨by kernel_rfl, ?_⟩) hHeld ?_
                  rotate_left
                  · intro w9 hSw; (try dsimp only at hSw); go_simp; try with_reducible rfl
                  simp only [Act.put, List.setIfInBounds_toArray, List.set_cons_zero, List.set_cons_succ]
                  refine wpAnyH_take (i := 15) (oi := { dst := some 81, op := Op.move (Operand.tmp 80), type := 4, pos := "law.go:77", after := #[{ on := 14, ground := Ground.data }, { on := 12, ground := Ground.chain }], guard := none }) (v := ?_) rfl (by kernel_rfl) (by kernel_rfl) (by kernel_rfl) (fun _ _ _ h => h) (Or.inl ⟨by kernel_rfl, ?_⟩) hHeld ?_
                  rotate_left
                  · intro w9 hSw; (try dsimp only at hSw); go_simp; try with_reducible rfl
                  simp only [Act.put, List.setIfInBounds_toArray, List.set_cons_zero, List.set_cons_succ]
                  refine wpAnyH_take (i := 16) (oi := { dst := some 82, op := Op.fieldAddr 30 (Operand.tmp 8) 0, type := 0, pos := "law.go:77", after := #[{ on := 15, ground := Ground.guard }], guard := some (15, false) }) (v := ?_) rfl (by kernel_rfl) (by kernel_rfl) (by kernel_rfl) (fun _ _ _ h => h) (Or.inl ⟨by kernel_rfl, ?_⟩) hHeld ?_
                  rotate_left
                  · intro w9 hSw; (try dsimp only at hSw); go_simp; try with_reducible rfl
                  simp only [Act.put, List.setIfInBounds_toArray, List.set_cons_zero, List.set_cons_succ]
                  refine wpAnyH_take (i := 17) (oi := { dst := some 83, op := Op.load 22 (Operand.tmp 82), type := 22, pos := "law.go:77", after := #[{ on := 16, ground := Ground.data }, { on := 15, ground := Ground.guard }], guard := some (15, false) }) (v := ?_) rfl (by kernel_rfl) (by kernel_rfl) (by kernel_rfl) (fun _ _ _ h => h) (Or.inl ⟨by kernel_rfl, ?_⟩) hHeld ?_
                  rotate_left
                  · intro w9 hSw; (try dsimp only at hSw); go_simp; try with_reducible rfl
                  simp only [Act.put, List.setIfInBounds_toArray, List.set_cons_zero, List.set_cons_succ]
                  refine wpAnyH_take (i := 18) (oi := { dst := some 84, op := Op.call { callee := Callee.builtin Builtin.len, args := #[Operand.tmp 83], argTypes := #[22] }, type := 3, pos := "law.go:77", after := #[{ on := 17, ground := Ground.data }, { on := 15, ground := Ground.guard }], guard := some (15, false) }) (v := ?_) rfl (by kernel_rfl) (by kernel_rfl) (by kernel_rfl) (fun _ _ _ h => h) (Or.inl ⟨by kernel_rfl, ?_⟩) hHeld ?_
                  rotate_left
                  · intro w9 hSw; (try dsimp only at hSw); go_simp; try with_reducible rfl
                  simp only [Act.put, List.setIfInBounds_toArray, List.set_cons_zero, List.set_cons_succ]
                  refine wpAnyH_take (i := 19) (oi := { dst := some 85, op := Op.fieldAddr 30 (Operand.tmp 6) 0, type := 0, pos := "law.go:77", after := #[{ on := 15, ground := Ground.guard }], guard := some (15, false) }) (v := ?_) rfl (by kernel_rfl) (by kernel_rfl) (by kernel_rfl) (fun _ _ _ h => h) (Or.inl ⟨by kernel_rfl, ?_⟩) hHeld ?_
                  rotate_left
                  · intro w9 hSw; (try dsimp only at hSw); go_simp; try with_reducible rfl
                  simp only [Act.put, List.setIfInBounds_toArray, List.set_cons_zero, List.set_cons_succ]
                  refine wpAnyH_take (i := 20) (oi := { dst := some 86, op := Op.load 22 (Operand.tmp 85), type := 22, pos := "law.go:77", after := #[{ on := 19, ground := Ground.data }, { on := 15, ground := Ground.guard }], guard := some (15, false) }) (v := ?_) rfl (by kernel_rfl) (by kernel_rfl) (by kernel_rfl) (fun _ _ _ h => h) (Or.inl ⟨by kernel_rfl, ?_⟩) hHeld ?_
                  rotate_left
                  · intro w9 hSw; (try dsimp only at hSw); go_simp; try with_reducible rfl
                  simp only [Act.put, List.setIfInBounds_toArray, List.set_cons_zero, List.set_cons_succ]
                  refine wpAnyH_take (i := 21) (oi := { dst := some 87, op := Op.call { callee := Callee.builtin Builtin.len, args := #[Operand.tmp 86], argTypes := #[22] }, type := 3, pos := "law.go:77", after := #[{ on := 20, ground := Ground.data }, { on := 15, ground := Ground.guard }], guard := some (15, false) }) (v := ?_) rfl (by kernel_rfl) (by kernel_rfl) (by kernel_rfl) (fun _ _ _ h => h) (Or.inl ⟨by kernel_rfl, ?_⟩) hHeld ?_
                  rotate_left
                  · intro w9 hSw; (try dsimp only at hSw); go_simp; try with_reducible rfl
                  simp only [Act.put, List.setIfInBounds_toArray, List.set_cons_zero, List.set_cons_succ]
                  refine wpAnyH_take (i := 22) (oi := { dst := some 88, op := Op.binOp BinOp.lss 3 (Operand.tmp 84) (Operand.tmp 87) 3, type := 4, pos := "law.go:77", after := #[{ on := 18, ground := Ground.data }, { on := 21, ground := Ground.data }, { on := 15, ground := Ground.guard }], guard := some (15, false) }) (v := ?_) rfl (by kernel_rfl) (by kernel_rfl) (by kernel_rfl) (fun _ _ _ h => h) (Or.inl ⟨by kernel_rfl, ?_⟩) hHeld ?_
                  rotate_left
                  · intro w9 hSw; (try dsimp only at hSw); go_simp; try with_reducible rfl
                  simp only [Act.put, List.setIfInBounds_toArray, List.set_cons_zero, List.set_cons_succ]
                  refine wpAnyH_take (i := 23) (oi := { dst := some 89, op := Op.pick (Operand.tmp 81) (Operand.const (Value.bool true)) (Operand.tmp 88), type := 4, pos := "law.go:77", after := #[{ on := 15, ground := Ground.data }, { on := 22, ground := Ground.data }], guard := none }) (v := ?_) rfl (by kernel_rfl) (by kernel_rfl) (by kernel_rfl) (fun _ _ _ h => h) (Or.inl ⟨by kernel_rfl, ?_⟩) hHeld ?_
                  rotate_left
                  · intro w9 hSw; (try dsimp only at hSw); go_simp; try with_reducible rfl
                  simp only [Act.put, List.setIfInBounds_toArray, List.set_cons_zero, List.set_cons_succ]
                  refine wpAnyH_done (by kernel_rfl) ?_ _
                  have U6 := Lib.hid (R9.out.keep HU.out)
                  have U8 := Lib.hid (X9.out.keep HU.out)
                  have UL := Lib.hid (L9.out.below HU.out)
                  have UB := Lib.hid (below_then B9.out HU.out)
                  clear a0 a1 a2 af0 af1 af2 z0 z1 z2 zf0 zf1 zf2
                  have a0 := U6.out.c0; have a1 := U6.out.c1; have a2 := U6.out.c2; have af0 := U6.out.f0; have af1 := U6.out.f1; have af2 := U6.out.f2
                  have z0 := U8.out.c0; have z1 := U8.out.c1; have z2 := U8.out.c2; have zf0 := U8.out.f0; have zf1 := U8.out.f1; have zf2 := U8.out.f2
                  have hu6 := U6.out.lt
                  have hu8 := U8.out.lt
                  go_wp2
                  go_roundw
                  case rel => exact ⟨j + 1, _, _, _, _, _, _, _, _, _, D, by omega, by go_num, U6.out.set3 (.slice A4 n4 c4) (.slice B4 m4 d4) (.slice C4 k4 f4), UL.out.set3 U6.out (B1 := A4) (p1 := n4) (e1 := c4) (B2 := B4) (p2 := m4) (e2 := d4) (B3 := C4) (p3 := k4) (e3 := f4), TK9.out.sane, TK9.out.inv HI.out, F9.out.mono (by omega), below_set3 UB.out hg6 (.slice A4 n4 c4) (.slice B4 m4 d4) (.slice C4 k4 f4)⟩
                  case measure => simp [intOf]; omega
                · have R9 := R7
                  have X9 := X8
                  have L9 := L8
                  have M9 := HLc
                  have B9 := HBc
                  have TK9 := TK
                  have F9 := F5
                  clear R7 X8 L8 HLc HBc TK F5 a0 a1 a2 af0 af1 af2 z0 z1 z2 zf0 zf1 zf2
                  have NN := Lib.hid L9.out.pc.len
                  have MM := Lib.hid L9.out.pm.len
                  have KK := Lib.hid L9.out.po.len
                  have g1 : m2 ≤ 200 := by rw [← MM.out]; have := F9.out.2.1; omega
                  have g2 : k2 ≤ 200 := by rw [← KK.out]; have := F9.out.2.2; omega
                  have g3 : n1 ≤ n2 := by rw [← NN.out, ← N1.out]; exact TK9.out.grow.len.1
                  have g4 : decide ((n2 : Int) < (n1 : Int)) = false := decide_eq_false (by omega)
                  have KSa := Lib.hid (fun w' (h : Below wc.heap.size wc w') => sane_any A2 B2 C2 n2 c2 m2 d2 k2 f2 BB true TK9.out.sane w' (by omega) (by omega) NN.out (L9.out.pm.below h) (L9.out.po.below h))
                  have KTc := Lib.hid (fun w' (h : Below wc.heap.size wc w') => theirs_any A2 B2 C2 n2 c2 m2 d2 k2 f2 BB w' (F9.out.mono (by omega)) (L9.out.below h))
                  have KTb := Lib.hid (fun w' (h : Below wc.heap.size wc w') => theirs_any A1 B1 C1 n1 c1 m1 d1 k1 f1 b w' (HF.out.mono (by omega)) (M9.out.below h))
                  have HU : Hid (Below wc.heap.size wc wc.drew) := Lib.hid (Below.refl _ _).drew
                  have a0 := R9.out.c0; have a1 := R9.out.c1; have a2 := R9.out.c2; have af0 := R9.out.f0; have af1 := R9.out.f1; have af2 := R9.out.f2
                  have z0 := X9.out.c0; have z1 := X9.out.c1; have z2 := X9.out.c2; have zf0 := X9.out.f0; have zf1 := X9.out.f1; have zf2 := X9.out.f2
                  have hr9 := R9.out.lt
                  have hx9 := X9.out.lt
                  go_upto_region 13 with (fail)
                  have hHeld0 : ((fun w' => Below wc.heap.size wc w' ∧ (w'.cell? ⟨w0.heap.size, 0, none⟩ = some (.slice A1 n1 c1) ∧ w'.cell? ⟨w0.heap.size, 1, none⟩ = some (.slice B1 m1 d1) ∧ w'.cell? ⟨w0.heap.size, 2, none⟩ = some (.slice C1 k1 f1)) ∧ w'.cell? ⟨g, 0, none⟩ = some (.slice A2 n2 c2) ∧ w'.cell? ⟨g, 1, none⟩ = some (.slice B2 m2 d2) ∧ w'.cell? ⟨g, 2, none⟩ = some (.slice C2 k2 f2))) wc.drew := ⟨HU.out, ⟨(R9.out.keep HU.out).c0, (R9.out.keep HU.out).c1, (R9.out.keep HU.out).c2⟩, (X9.out.keep HU.out).c0, (X9.out.keep HU.out).c1, (X9.out.keep HU.out).c2⟩
                  refine wp_region_held_drew (S := (fun w' => Below wc.heap.size wc w' ∧ (w'.cell? ⟨w0.heap.size, 0, none⟩ = some (.slice A1 n1 c1) ∧ w'.cell? ⟨w0.heap.size, 1, none⟩ = some (.slice B1 m1 d1) ∧ w'.cell? ⟨w0.heap.size, 2, none⟩ = some (.slice C1 k1 f1)) ∧ w'.cell? ⟨g, 0, none⟩ = some (.slice A2 n2 c2) ∧ w'.cell? ⟨g, 1, none⟩ = some (.slice B2 m2 d2) ∧ w'.cell? ⟨g, 2, none⟩ = some (.slice C2 k2 f2))) (by kernel_rfl) hHeld0 (fun hHeld => ?_)
                  clear hHeld0
                  refine wpAnyH_take (i := 0) (oi := { dst := some 66, op := Op.move (Operand.tmp 10), type := 31, pos := "law.go:77", after := #[], guard := none }) (v := ?_) rfl (by kernel_rfl) (by kernel_rfl) (by kernel_rfl) (fun _ _ _ h => h) (Or.inl ⟨by kernel_rfl, ?_⟩) hHeld ?_
                  rotate_left
                  · intro w9 hSw; (try dsimp only at hSw); go_simp; try with_reducible rfl
                  simp only [Act.put, List.setIfInBounds_toArray, List.set_cons_zero, List.set_cons_succ]
                  refine wpAnyH_take (i := 1) (oi := { dst := some 67, op := Op.binOp BinOp.neq 31 (Operand.tmp 66) (Operand.const (Value.int IntKind.i64 0)) 31, type := 4, pos := "law.go:77", after := #[{ on := 0, ground := Ground.data }], guard := none }) (v := ?_) rfl (by kernel_rfl) (by kernel_rfl) (by kernel_rfl) (fun _ _ _ h => h) (Or.inl ⟨by kernel_rfl, ?_⟩) hHeld ?_
                  rotate_left
                  · intro w9 hSw; (try dsimp only at hSw); go_simp; try with_reducible rfl
                  simp only [Act.put, List.setIfInBounds_toArray, List.set_cons_zero, List.set_cons_succ]
                  refine wpAnyH_take (i := 2) (oi := { dst := some 68, op := Op.move (Operand.tmp 67), type := 4, pos := "law.go:77", after := #[{ on := 1, ground := Ground.data }], guard := none }) (v := ?_) rfl (by kernel_rfl) (by kernel_rfl) (by kernel_rfl) (fun _ _ _ h => h) (Or.inl ⟨by kernel_rfl, ?_⟩) hHeld ?_
                  rotate_left
                  · intro w9 hSw; (try dsimp only at hSw); go_simp; try with_reducible rfl
                  simp only [Act.put, List.setIfInBounds_toArray, List.set_cons_zero, List.set_cons_succ]
                  refine wpAnyH_take (i := 3) (oi := { dst := some 69, op := Op.load 30 (Operand.tmp 8), type := 30, pos := "law.go:77", after := #[{ on := 2, ground := Ground.guard }], guard := some (2, true) }) (v := undef) rfl (by kernel_rfl) (by kernel_rfl) (by kernel_rfl) (fun _ _ _ h => h) (Or.inr ⟨by kernel_rfl, rfl⟩) hHeld ?_
                  simp only [Act.put, List.setIfInBounds_toArray, List.set_cons_zero, List.set_cons_succ]
                  refine wpAnyH_take (i := 4) (oi := { dst := some 70, op := Op.call { callee := Callee.value (Operand.func 19), args := #[Operand.tmp 69], argTypes := #[30] }, type := 25, pos := "law.go:77", after := #[{ on := 3, ground := Ground.data }, { on := 2, ground := Ground.chain }, { on := 2, ground := Ground.guard }], guard := some (2, true) }) (v := undef) rfl (by kernel_rfl) (by kernel_rfl) (by kernel_rfl) (fun _ _ _ h => h) (Or.inr ⟨by kernel_rfl, rfl⟩) hHeld ?_
                  simp only [Act.put, List.setIfInBounds_toArray, List.set_cons_zero, List.set_cons_succ]
                  refine wpAnyH_take (i := 5) (oi := { dst := some 71, op := Op.load 30 (Operand.tmp 6), type := 30, pos := "law.go:77", after := #[{ on := 2, ground := Ground.guard }], guard := some (2, true) }) (v := undef) rfl (by kernel_rfl) (by kernel_rfl) (by kernel_rfl) (fun _ _ _ h => h) (Or.inr ⟨by kernel_rfl, rfl⟩) hHeld ?_
                  simp only [Act.put, List.setIfInBounds_toArray, List.set_cons_zero, List.set_cons_succ]
                  refine wpAnyH_take (i := 6) (oi := { dst := some 72, op := Op.call { callee := Callee.value (Operand.func 19), args := #[Operand.tmp 71], argTypes := #[30] }, type := 25, pos := "law.go:77", after := #[{ on := 5, ground := Ground.data }, { on := 4, ground := Ground.chain }, { on := 2, ground := Ground.guard }], guard := some (2, true) }) (v := undef) rfl (by kernel_rfl) (by kernel_rfl) (by kernel_rfl) (fun _ _ _ h => h) (Or.inr ⟨by kernel_rfl, rfl⟩) hHeld ?_
                  simp only [Act.put, List.setIfInBounds_toArray, List.set_cons_zero, List.set_cons_succ]
                  refine wpAnyH_take (i := 7) (oi := { dst := some 73, op := Op.call { callee := Callee.value (Operand.func 18), args := #[Operand.tmp 70, Operand.tmp 72], argTypes := #[25, 25] }, type := 4, pos := "law.go:77", after := #[{ on := 4, ground := Ground.data }, { on := 6, ground := Ground.data }, { on := 6, ground := Ground.chain }, { on := 2, ground := Ground.guard }], guard := some (2, true) }) (v := undef) rfl (by kernel_rfl) (by kernel_rfl) (by kernel_rfl) (fun _ _ _ h => h) (Or.inr ⟨by kernel_rfl, rfl⟩) hHeld ?_
                  simp only [Act.put, List.setIfInBounds_toArray, List.set_cons_zero, List.set_cons_succ]
                  refine wpAnyH_take (i := 8) (oi := { dst := some 74, op := Op.unOp UnOp.not 4 (Operand.tmp 73), type := 4, pos := "law.go:77", after := #[{ on := 7, ground := Ground.data }, { on := 2, ground := Ground.guard }], guard := some (2, true) }) (v := undef) rfl (by kernel_rfl) (by kernel_rfl) (by kernel_rfl) (fun _ _ _ h => h) (Or.inr ⟨by kernel_rfl, rfl⟩) hHeld ?_
                  simp only [Act.put, List.setIfInBounds_toArray, List.set_cons_zero, List.set_cons_succ]
                  refine wpAnyH_take (i := 9) (oi := { dst := some 75, op := Op.pick (Operand.tmp 68) (Operand.tmp 74) (Operand.const (Value.bool false)), type := 4, pos := "law.go:77", after := #[{ on := 2, ground := Ground.data }, { on := 8, ground := Ground.data }], guard := none }) (v := ?_) rfl (by kernel_rfl) (by kernel_rfl) (by kernel_rfl) (fun _ _ _ h => h) (Or.inl ⟨by kernel_rfl, ?_⟩) hHeld ?_
                  rotate_left
                  · intro w9 hSw; (try dsimp only at hSw); go_simp; try with_reducible rfl
                  simp only [Act.put, List.setIfInBounds_toArray, List.set_cons_zero, List.set_cons_succ]
                  refine wpAnyH_take (i := 10) (oi := { dst := some 76, op := Op.move (Operand.tmp 75), type := 4, pos := "law.go:77", after := #[{ on := 9, ground := Ground.data }, { on := 7, ground := Ground.chain }], guard := none }) (v := ?_) rfl (by kernel_rfl) (by kernel_rfl) (by kernel_rfl) (fun _ _ _ h => h) (Or.inl ⟨by kernel_rfl, ?_⟩) hHeld ?_
                  rotate_left
                  · intro w9 hSw; (try dsimp only at hSw); go_simp; try with_reducible rfl
                  simp only [Act.put, List.setIfInBounds_toArray, List.set_cons_zero, List.set_cons_succ]
                  refine wpAnyH_take (i := 11) (oi := { dst := some 77, op := Op.load 30 (Operand.tmp 8), type := 30, pos := "law.go:77", after := #[{ on := 10, ground := Ground.guard }], guard := some (10, false) }) (v := ?_) rfl (by kernel_rfl) (by kernel_rfl) (by kernel_rfl) (fun _ _ _ h => h) (Or.inl ⟨by kernel_rfl, ?_⟩) hHeld ?_
                  rotate_left
                  · intro w9 hSw; (try dsimp only at hSw); go_simp; try with_reducible rfl
                  simp only [Act.put, List.setIfInBounds_toArray, List.set_cons_zero, List.set_cons_succ]
                  refine wpAnyH_ready (rs := [12]) (by kernel_rfl) (by simp) ?_
                  refine AllReadyH.cons (o := { dst := some 78, op := Op.call { callee := Callee.value (Operand.func 21), args := #[Operand.tmp 77], argTypes := #[30] }, type := 4, pos := "law.go:77", after := #[{ on := 11, ground := Ground.data }, { on := 10, ground := Ground.chain }, { on := 10, ground := Ground.guard }], guard := some (10, false) }) rfl (fun K hK => ?_) AllReadyH.nil
                  go_simp
                  (go_at_call 21; (with_reducible refine (KSa.out _ HU.out).mono ?_); rintro e w5 ⟨rfl, hb5⟩; have HU := Lib.hid (below_then HU.out hb5); clear hb5)
                  refine hK.out _ _ (⟨HU.out, ⟨(R9.out.keep HU.out).c0, (R9.out.keep HU.out).c1, (R9.out.keep HU.out).c2⟩, (X9.out.keep HU.out).c0, (X9.out.keep HU.out).c1, (X9.out.keep HU.out).c2⟩) (fun hHeld => ?_)
                  clear hK K
                  try simp only [Act.put, List.setIfInBounds_toArray, List.set_cons_zero, List.set_cons_succ]
                  refine wpAnyH_take (i := 13) (oi := { dst := some 79, op := Op.unOp UnOp.not 4 (Operand.tmp 78), type := 4, pos := "law.go:77", after := #[{ on := 12, ground := Ground.data }, { on := 10, ground := Ground.guard }], guard := some (10, false) }) (v := ?_) rfl (by kernel_rfl) (by kernel_rfl) (by kernel_rfl) (fun _ _ _ h => h) (Or.inl ⟨by kernel_rfl, ?_⟩) hHeld ?_
                  rotate_left
                  · intro w9 hSw; (try dsimp only at hSw); go_simp; try with_reducible rfl
                  simp only [Act.put, List.setIfInBounds_toArray, List.set_cons_zero, List.set_cons_succ]
                  refine wpAnyH_take (i := 14) (oi := { dst := some 80, op := Op.pick (Operand.tmp 76) (Operand.const (Value.bool true)) (Operand.tmp 79), type := 4, pos := "law.go:77", after := #[{ on := 10, ground := Ground.data }, { on := 13, ground := Ground.data }], guard := none }) (v := ?_) rfl (by kernel_rfl) (by kernel_rfl) (by kernel_rfl) (fun _ _ _ h => h) (Or.inl ⟨by kernel_rfl, ?_⟩) hHeld ?_
                  rotate_left
                  · intro w9 hSw; (try dsimp only at hSw); go_simp; try with_reducible rfl
                  simp only [Act.put, List.setIfInBounds_toArray, List.set_cons_zero, List.set_cons_succ]
                  refine wpAnyH_take (i := 15) (oi := { dst := some 81, op := Op.move (Operand.tmp 80), type := 4, pos := "law.go:77", after := #[{ on := 14, ground := Ground.data }, { on := 12, ground := Ground.chain }], guard := none }) (v := ?_) rfl (by kernel_rfl) (by kernel_rfl) (by kernel_rfl) (fun _ _ _ h => h) (Or.inl ⟨by kernel_rfl, ?_⟩) hHeld ?_
                  rotate_left
                  · intro w9 hSw; (try dsimp only at hSw); go_simp; try with_reducible rfl
                  simp only [Act.put, List.setIfInBounds_toArray, List.set_cons_zero, List.set_cons_succ]
                  refine wpAnyH_take (i := 16) (oi := { dst := some 82, op := Op.fieldAddr 30 (Operand.tmp 8) 0, type := 0, pos := "law.go:77", after := #[{ on := 15, ground := Ground.guard }], guard := some (15, false) }) (v := ?_) rfl (by kernel_rfl) (by kernel_rfl) (by kernel_rfl) (fun _ _ _ h => h) (Or.inl ⟨by kernel_rfl, ?_⟩) hHeld ?_
                  rotate_left
                  · intro w9 hSw; (try dsimp only at hSw); go_simp; try with_reducible rfl
                  simp only [Act.put, List.setIfInBounds_toArray, List.set_cons_zero, List.set_cons_succ]
                  refine wpAnyH_take (i := 17) (oi := { dst := some 83, op := Op.load 22 (Operand.tmp 82), type := 22, pos := "law.go:77", after := #[{ on := 16, ground := Ground.data }, { on := 15, ground := Ground.guard }], guard := some (15, false) }) (v := ?_) rfl (by kernel_rfl) (by kernel_rfl) (by kernel_rfl) (fun _ _ _ h => h) (Or.inl ⟨by kernel_rfl, ?_⟩) hHeld ?_
                  rotate_left
                  · intro w9 hSw; (try dsimp only at hSw); go_simp; try with_reducible rfl
                  simp only [Act.put, List.setIfInBounds_toArray, List.set_cons_zero, List.set_cons_succ]
                  refine wpAnyH_take (i := 18) (oi := { dst := some 84, op := Op.call { callee := Callee.builtin Builtin.len, args := #[Operand.tmp 83], argTypes := #[22] }, type := 3, pos := "law.go:77", after := #[{ on := 17, ground := Ground.data }, { on := 15, ground := Ground.guard }], guard := some (15, false) }) (v := ?_) rfl (by kernel_rfl) (by kernel_rfl) (by kernel_rfl) (fun _ _ _ h => h) (Or.inl ⟨by kernel_rfl, ?_⟩) hHeld ?_
                  rotate_left
                  · intro w9 hSw; (try dsimp only at hSw); go_simp; try with_reducible rfl
                  simp only [Act.put, List.setIfInBounds_toArray, List.set_cons_zero, List.set_cons_succ]
                  refine wpAnyH_take (i := 19) (oi := { dst := some 85, op := Op.fieldAddr 30 (Operand.tmp 6) 0, type := 0, pos := "law.go:77", after := #[{ on := 15, ground := Ground.guard }], guard := some (15, false) }) (v := ?_) rfl (by kernel_rfl) (by kernel_rfl) (by kernel_rfl) (fun _ _ _ h => h) (Or.inl ⟨by kernel_rfl, ?_⟩) hHeld ?_
                  rotate_left
                  · intro w9 hSw; (try dsimp only at hSw); go_simp; try with_reducible rfl
                  simp only [Act.put, List.setIfInBounds_toArray, List.set_cons_zero, List.set_cons_succ]
                  refine wpAnyH_take (i := 20) (oi := { dst := some 86, op := Op.load 22 (Operand.tmp 85), type := 22, pos := "law.go:77", after := #[{ on := 19, ground := Ground.data }, { on := 15, ground := Ground.guard }], guard := some (15, false) }) (v := ?_) rfl (by kernel_rfl) (by kernel_rfl) (by kernel_rfl) (fun _ _ _ h => h) (Or.inl ⟨by kernel_rfl, ?_⟩) hHeld ?_
                  rotate_left
                  · intro w9 hSw; (try dsimp only at hSw); go_simp; try with_reducible rfl
                  simp only [Act.put, List.setIfInBounds_toArray, List.set_cons_zero, List.set_cons_succ]
                  refine wpAnyH_take (i := 21) (oi := { dst := some 87, op := Op.call { callee := Callee.builtin Builtin.len, args := #[Operand.tmp 86], argTypes := #[22] }, type := 3, pos := "law.go:77", after := #[{ on := 20, ground := Ground.data }, { on := 15, ground := Ground.guard }], guard := some (15, false) }) (v := ?_) rfl (by kernel_rfl) (by kernel_rfl) (by kernel_rfl) (fun _ _ _ h => h) (Or.inl ⟨by kernel_rfl, ?_⟩) hHeld ?_
                  rotate_left
                  · intro w9 hSw; (try dsimp only at hSw); go_simp; try with_reducible rfl
                  simp only [Act.put, List.setIfInBounds_toArray, List.set_cons_zero, List.set_cons_succ]
                  refine wpAnyH_take (i := 22) (oi := { dst := some 88, op := Op.binOp BinOp.lss 3 (Operand.tmp 84) (Operand.tmp 87) 3, type := 4, pos := "law.go:77", after := #[{ on := 18, ground := Ground.data }, { on := 21, ground := Ground.data }, { on := 15, ground := Ground.guard }], guard := some (15, false) }) (v := ?_) rfl (by kernel_rfl) (by kernel_rfl) (by kernel_rfl) (fun _ _ _ h => h) (Or.inl ⟨by kernel_rfl, ?_⟩) hHeld ?_
                  rotate_left
                  · intro w9 hSw; (try dsimp only at hSw); go_simp; try with_reducible rfl
                  simp only [Act.put, List.setIfInBounds_toArray, List.set_cons_zero, List.set_cons_succ]
                  refine wpAnyH_take (i := 23) (oi := { dst := some 89, op := Op.pick (Operand.tmp 81) (Operand.const (Value.bool true)) (Operand.tmp 88), type := 4, pos := "law.go:77", after := #[{ on := 15, ground := Ground.data }, { on := 22, ground := Ground.data }], guard := none }) (v := ?_) rfl (by kernel_rfl) (by kernel_rfl) (by kernel_rfl) (fun _ _ _ h => h) (Or.inl ⟨by kernel_rfl, ?_⟩) hHeld ?_
                  rotate_left
                  · intro w9 hSw; (try dsimp only at hSw); go_simp; try with_reducible rfl
                  simp only [Act.put, List.setIfInBounds_toArray, List.set_cons_zero, List.set_cons_succ]
                  refine wpAnyH_done (by kernel_rfl) ?_ _
                  have U6 := Lib.hid (R9.out.keep HU.out)
                  have U8 := Lib.hid (X9.out.keep HU.out)
                  have UL := Lib.hid (L9.out.below HU.out)
                  have UB := Lib.hid (below_then B9.out HU.out)
                  clear a0 a1 a2 af0 af1 af2 z0 z1 z2 zf0 zf1 zf2
                  have a0 := U6.out.c0; have a1 := U6.out.c1; have a2 := U6.out.c2; have af0 := U6.out.f0; have af1 := U6.out.f1; have af2 := U6.out.f2
                  have z0 := U8.out.c0; have z1 := U8.out.c1; have z2 := U8.out.c2; have zf0 := U8.out.f0; have zf1 := U8.out.f1; have zf2 := U8.out.f2
                  have hu6 := U6.out.lt
                  have hu8 := U8.out.lt
                  go_wp2
                  go_roundw
                  case rel => exact ⟨j + 1, _, _, _, _, _, _, _, _, _, BB, by omega, by go_num, U6.out.set3 (.slice A2 n2 c2) (.slice B2 m2 d2) (.slice C2 k2 f2), UL.out.set3 U6.out (B1 := A2) (p1 := n2) (e1 := c2) (B2 := B2) (p2 := m2) (e2 := d2) (B3 := C2) (p3 := k2) (e3 := f2), TK9.out.sane, TK9.out.inv HI.out, F9.out.mono (by omega), below_set3 UB.out hg6 (.slice A2 n2 c2) (.slice B2 m2 d2) (.slice C2 k2 f2)⟩
                  case measure => simp [intOf]; omega
              · cases hE0 : (E != 0)
                · have hE : E = 0 := by simpa using hE0
                  subst hE
                  have R9 := R7
                  have X9 := X8
                  have L9 := L8
                  have M9 := HLc
                  have B9 := HBc
                  have TK9 := TK
                  have F9 := F5
                  clear R7 X8 L8 HLc HBc TK F5 a0 a1 a2 af0 af1 af2 z0 z1 z2 zf0 zf1 zf2 hE0
                  have NN := Lib.hid L9.out.pc.len
                  have MM := Lib.hid L9.out.pm.len
                  have KK := Lib.hid L9.out.po.len
                  have g1 : m2 ≤ 200 := by rw [← MM.out]; have := F9.out.2.1; omega
                  have g2 : k2 ≤ 200 := by rw [← KK.out]; have := F9.out.2.2; omega
                  have g3 : n1 ≤ n2 := by rw [← NN.out, ← N1.out]; exact TK9.out.grow.len.1
                  have g4 : decide ((n2 : Int) < (n1 : Int)) = false := decide_eq_false (by omega)
                  have KSa := Lib.hid (fun w' (h : Below wc.heap.size wc w') => sane_any A2 B2 C2 n2 c2 m2 d2 k2 f2 BB true TK9.out.sane w' (by omega) (by omega) NN.out (L9.out.pm.below h) (L9.out.po.below h))
                  have KTc := Lib.hid (fun w' (h : Below wc.heap.size wc w') => theirs_any A2 B2 C2 n2 c2 m2 d2 k2 f2 BB w' (F9.out.mono (by omega)) (L9.out.below h))
                  have KTb := Lib.hid (fun w' (h : Below wc.heap.size wc w') => theirs_any A1 B1 C1 n1 c1 m1 d1 k1 f1 b w' (HF.out.mono (by omega)) (M9.out.below h))
                  have HU : Hid (Below wc.heap.size wc wc.drew) := Lib.hid (Below.refl _ _).drew
                  have a0 := R9.out.c0; have a1 := R9.out.c1; have a2 := R9.out.c2; have af0 := R9.out.f0; have af1 := R9.out.f1; have af2 := R9.out.f2
                  have z0 := X9.out.c0; have z1 := X9.out.c1; have z2 := X9.out.c2; have zf0 := X9.out.f0; have zf1 := X9.out.f1; have zf2 := X9.out.f2
                  have hr9 := R9.out.lt
                  have hx9 := X9.out.lt
                  go_upto_region 13 with (fail)
                  have hHeld0 : ((fun w' => Below wc.heap.size wc w' ∧ (w'.cell? ⟨w0.heap.size, 0, none⟩ = some (.slice A1 n1 c1) ∧ w'.cell? ⟨w0.heap.size, 1, none⟩ = some (.slice B1 m1 d1) ∧ w'.cell? ⟨w0.heap.size, 2, none⟩ = some (.slice C1 k1 f1)) ∧ w'.cell? ⟨g, 0, none⟩ = some (.slice A2 n2 c2) ∧ w'.cell? ⟨g, 1, none⟩ = some (.slice B2 m2 d2) ∧ w'.cell? ⟨g, 2, none⟩ = some (.slice C2 k2 f2))) wc.drew := ⟨HU.out, ⟨(R9.out.keep HU.out).c0, (R9.out.keep HU.out).c1, (R9.out.keep HU.out).c2⟩, (X9.out.keep HU.out).c0, (X9.out.keep HU.out).c1, (X9.out.keep HU.out).c2⟩
                  refine wp_region_held_drew (S := (fun w' => Below wc.heap.size wc w' ∧ (w'.cell? ⟨w0.heap.size, 0, none⟩ = some (.slice A1 n1 c1) ∧ w'.cell? ⟨w0.heap.size, 1, none⟩ = some (.slice B1 m1 d1) ∧ w'.cell? ⟨w0.heap.size, 2, none⟩ = some (.slice C1 k1 f1)) ∧ w'.cell? ⟨g, 0, none⟩ = some (.slice A2 n2 c2) ∧ w'.cell? ⟨g, 1, none⟩ = some (.slice B2 m2 d2) ∧ w'.cell? ⟨g, 2, none⟩ = some (.slice C2 k2 f2))) (by kernel_rfl) hHeld0 (fun hHeld => ?_)
                  clear hHeld0
                  refine wpAnyH_take (i := 0) (oi := { dst := some 66, op := Op.move (Operand.tmp 10), type := 31, pos := "law.go:77", after := #[], guard := none }) (v := ?_) rfl (by kernel_rfl) (by kernel_rfl) (by kernel_rfl) (fun _ _ _ h => h) (Or.inl ⟨by kernel_rfl, ?_⟩) hHeld ?_
                  rotate_left
                  · intro w9 hSw; (try dsimp only at hSw); go_simp; try with_reducible rfl
                  simp only [Act.put, List.setIfInBounds_toArray, List.set_cons_zero, List.set_cons_succ]
                  refine wpAnyH_take (i := 1) (oi := { dst := some 67, op := Op.binOp BinOp.neq 31 (Operand.tmp 66) (Operand.const (Value.int IntKind.i64 0)) 31, type := 4, pos := "law.go:77", after := #[{ on := 0, ground := Ground.data }], guard := none }) (v := ?_) rfl (by kernel_rfl) (by kernel_rfl) (by kernel_rfl) (fun _ _ _ h => h) (Or.inl ⟨by kernel_rfl, ?_⟩) hHeld ?_
                  rotate_left
                  · intro w9 hSw; (try dsimp only at hSw); go_simp; try with_reducible rfl
                  simp only [Act.put, List.setIfInBounds_toArray, List.set_cons_zero, List.set_cons_succ]
                  refine wpAnyH_take (i := 2) (oi := { dst := some 68, op := Op.move (Operand.tmp 67), type := 4, pos := "law.go:77", after := #[{ on := 1, ground := Ground.data }], guard := none }) (v := ?_) rfl (by kernel_rfl) (by kernel_rfl) (by kernel_rfl) (fun _ _ _ h => h) (Or.inl ⟨by kernel_rfl, ?_⟩) hHeld ?_
                  rotate_left
                  · intro w9 hSw; (try dsimp only at hSw); go_simp; try with_reducible rfl
                  simp only [Act.put, List.setIfInBounds_toArray, List.set_cons_zero, List.set_cons_succ]
                  refine wpAnyH_take (i := 3) (oi := { dst := some 69, op := Op.load 30 (Operand.tmp 8), type := 30, pos := "law.go:77", after := #[{ on := 2, ground := Ground.guard }], guard := some (2, true) }) (v := undef) rfl (by kernel_rfl) (by kernel_rfl) (by kernel_rfl) (fun _ _ _ h => h) (Or.inr ⟨by kernel_rfl, rfl⟩) hHeld ?_
                  simp only [Act.put, List.setIfInBounds_toArray, List.set_cons_zero, List.set_cons_succ]
                  refine wpAnyH_take (i := 4) (oi := { dst := some 70, op := Op.call { callee := Callee.value (Operand.func 19), args := #[Operand.tmp 69], argTypes := #[30] }, type := 25, pos := "law.go:77", after := #[{ on := 3, ground := Ground.data }, { on := 2, ground := Ground.chain }, { on := 2, ground := Ground.guard }], guard := some (2, true) }) (v := undef) rfl (by kernel_rfl) (by kernel_rfl) (by kernel_rfl) (fun _ _ _ h => h) (Or.inr ⟨by kernel_rfl, rfl⟩) hHeld ?_
                  simp only [Act.put, List.setIfInBounds_toArray, List.set_cons_zero, List.set_cons_succ]
                  refine wpAnyH_take (i := 5) (oi := { dst := some 71, op := Op.load 30 (Operand.tmp 6), type := 30, pos := "law.go:77", after := #[{ on := 2, ground := Ground.guard }], guard := some (2, true) }) (v := undef) rfl (by kernel_rfl) (by kernel_rfl) (by kernel_rfl) (fun _ _ _ h => h) (Or.inr ⟨by kernel_rfl, rfl⟩) hHeld ?_
                  simp only [Act.put, List.setIfInBounds_toArray, List.set_cons_zero, List.set_cons_succ]
                  refine wpAnyH_take (i := 6) (oi := { dst := some 72, op := Op.call { callee := Callee.value (Operand.func 19), args := #[Operand.tmp 71], argTypes := #[30] }, type := 25, pos := "law.go:77", after := #[{ on := 5, ground := Ground.data }, { on := 4, ground := Ground.chain }, { on := 2, ground := Ground.guard }], guard := some (2, true) }) (v := undef) rfl (by kernel_rfl) (by kernel_rfl) (by kernel_rfl) (fun _ _ _ h => h) (Or.inr ⟨by kernel_rfl, rfl⟩) hHeld ?_
                  simp only [Act.put, List.setIfInBounds_toArray, List.set_cons_zero, List.set_cons_succ]
                  refine wpAnyH_take (i := 7) (oi := { dst := some 73, op := Op.call { callee := Callee.value (Operand.func 18), args := #[Operand.tmp 70, Operand.tmp 72], argTypes := #[25, 25] }, type := 4, pos := "law.go:77", after := #[{ on := 4, ground := Ground.data }, { on := 6, ground := Ground.data }, { on := 6, ground := Ground.chain }, { on := 2, ground := Ground.guard }], guard := some (2, true) }) (v := undef) rfl (by kernel_rfl) (by kernel_rfl) (by kernel_rfl) (fun _ _ _ h => h) (Or.inr ⟨by kernel_rfl, rfl⟩) hHeld ?_
                  simp only [Act.put, List.setIfInBounds_toArray, List.set_cons_zero, List.set_cons_succ]
                  refine wpAnyH_take (i := 8) (oi := { dst := some 74, op := Op.unOp UnOp.not 4 (Operand.tmp 73), type := 4, pos := "law.go:77", after := #[{ on := 7, ground := Ground.data }, { on := 2, ground := Ground.guard }], guard := some (2, true) }) (v := undef) rfl (by kernel_rfl) (by kernel_rfl) (by kernel_rfl) (fun _ _ _ h => h) (Or.inr ⟨by kernel_rfl, rfl⟩) hHeld ?_
                  simp only [Act.put, List.setIfInBounds_toArray, List.set_cons_zero, List.set_cons_succ]
                  refine wpAnyH_take (i := 9) (oi := { dst := some 75, op := Op.pick (Operand.tmp 68) (Operand.tmp 74) (Operand.const (Value.bool false)), type := 4, pos := "law.go:77", after := #[{ on := 2, ground := Ground.data }, { on := 8, ground := Ground.data }], guard := none }) (v := ?_) rfl (by kernel_rfl) (by kernel_rfl) (by kernel_rfl) (fun _ _ _ h => h) (Or.inl ⟨by kernel_rfl, ?_⟩) hHeld ?_
                  rotate_left
                  · intro w9 hSw; (try dsimp only at hSw); go_simp; try with_reducible rfl
                  simp only [Act.put, List.setIfInBounds_toArray, List.set_cons_zero, List.set_cons_succ]
                  refine wpAnyH_take (i := 10) (oi := { dst := some 76, op := Op.move (Operand.tmp 75), type := 4, pos := "law.go:77", after := #[{ on := 9, ground := Ground.data }, { on := 7, ground := Ground.chain }], guard := none }) (v := ?_) rfl (by kernel_rfl) (by kernel_rfl) (by kernel_rfl) (fun _ _ _ h => h) (Or.inl ⟨by kernel_rfl, ?_⟩) hHeld ?_
                  rotate_left
                  · intro w9 hSw; (try dsimp only at hSw); go_simp; try with_reducible rfl
                  simp only [Act.put, List.setIfInBounds_toArray, List.set_cons_zero, List.set_cons_succ]
                  refine wpAnyH_take (i := 11) (oi := { dst := some 77, op := Op.load 30 (Operand.tmp 8), type := 30, pos := "law.go:77", after := #[{ on := 10, ground := Ground.guard }], guard := some (10, false) }) (v := ?_) rfl (by kernel_rfl) (by kernel_rfl) (by kernel_rfl) (fun _ _ _ h => h) (Or.inl ⟨by kernel_rfl, ?_⟩) hHeld ?_
                  rotate_left
                  · intro w9 hSw; (try dsimp only at hSw); go_simp; try with_reducible rfl
                  simp only [Act.put, List.setIfInBounds_toArray, List.set_cons_zero, List.set_cons_succ]
                  refine wpAnyH_ready (rs := [12]) (by kernel_rfl) (by simp) ?_
                  refine AllReadyH.cons (o := { dst := some 78, op := Op.call { callee := Callee.value (Operand.func 21), args := #[Operand.tmp 77], argTypes := #[30] }, type := 4, pos := "law.go:77", after := #[{ on := 11, ground := Ground.data }, { on := 10, ground := Ground.chain }, { on := 10, ground := Ground.guard }], guard := some (10, false) }) rfl (fun K hK => ?_) AllReadyH.nil
                  go_simp
                  (go_at_call 21; (with_reducible refine (KSa.out _ HU.out).mono ?_); rintro e w5 ⟨rfl, hb5⟩; have HU := Lib.hid (below_then HU.out hb5); clear hb5)
                  refine hK.out _ _ (⟨HU.out, ⟨(R9.out.keep HU.out).c0, (R9.out.keep HU.out).c1, (R9.out.keep HU.out).c2⟩, (X9.out.keep HU.out).c0, (X9.out.keep HU.out).c1, (X9.out.keep HU.out).c2⟩) (fun hHeld => ?_)
                  clear hK K
                  try simp only [Act.put, List.setIfInBounds_toArray, List.set_cons_zero, List.set_cons_succ]
                  refine wpAnyH_take (i := 13) (oi := { dst := some 79, op := Op.unOp UnOp.not 4 (Operand.tmp 78), type := 4, pos := "law.go:77", after := #[{ on := 12, ground := Ground.data }, { on := 10, ground := Ground.guard }], guard := some (10, false) }) (v := ?_) rfl (by kernel_rfl) (by kernel_rfl) (by kernel_rfl) (fun _ _ _ h => h) (Or.inl ⟨by kernel_rfl, ?_⟩) hHeld ?_
                  rotate_left
                  · intro w9 hSw; (try dsimp only at hSw); go_simp; try with_reducible rfl
                  simp only [Act.put, List.setIfInBounds_toArray, List.set_cons_zero, List.set_cons_succ]
                  refine wpAnyH_take (i := 14) (oi := { dst := some 80, op := Op.pick (Operand.tmp 76) (Operand.const (Value.bool true)) (Operand.tmp 79), type := 4, pos := "law.go:77", after := #[{ on := 10, ground := Ground.data }, { on := 13, ground := Ground.data }], guard := none }) (v := ?_) rfl (by kernel_rfl) (by kernel_rfl) (by kernel_rfl) (fun _ _ _ h => h) (Or.inl ⟨by kernel_rfl, ?_⟩) hHeld ?_
                  rotate_left
                  · intro w9 hSw; (try dsimp only at hSw); go_simp; try with_reducible rfl
                  simp only [Act.put, List.setIfInBounds_toArray, List.set_cons_zero, List.set_cons_succ]
                  refine wpAnyH_take (i := 15) (oi := { dst := some 81, op := Op.move (Operand.tmp 80), type := 4, pos := "law.go:77", after := #[{ on := 14, ground := Ground.data }, { on := 12, ground := Ground.chain }], guard := none }) (v := ?_) rfl (by kernel_rfl) (by kernel_rfl) (by kernel_rfl) (fun _ _ _ h => h) (Or.inl ⟨by kernel_rfl, ?_⟩) hHeld ?_
                  rotate_left
                  · intro w9 hSw; (try dsimp only at hSw); go_simp; try with_reducible rfl
                  simp only [Act.put, List.setIfInBounds_toArray, List.set_cons_zero, List.set_cons_succ]
                  refine wpAnyH_take (i := 16) (oi := { dst := some 82, op := Op.fieldAddr 30 (Operand.tmp 8) 0, type := 0, pos := "law.go:77", after := #[{ on := 15, ground := Ground.guard }], guard := some (15, false) }) (v := ?_) rfl (by kernel_rfl) (by kernel_rfl) (by kernel_rfl) (fun _ _ _ h => h) (Or.inl ⟨by kernel_rfl, ?_⟩) hHeld ?_
                  rotate_left
                  · intro w9 hSw; (try dsimp only at hSw); go_simp; try with_reducible rfl
                  simp only [Act.put, List.setIfInBounds_toArray, List.set_cons_zero, List.set_cons_succ]
                  refine wpAnyH_take (i := 17) (oi := { dst := some 83, op := Op.load 22 (Operand.tmp 82), type := 22, pos := "law.go:77", after := #[{ on := 16, ground := Ground.data }, { on := 15, ground := Ground.guard }], guard := some (15, false) }) (v := ?_) rfl (by kernel_rfl) (by kernel_rfl) (by kernel_rfl) (fun _ _ _ h => h) (Or.inl ⟨by kernel_rfl, ?_⟩) hHeld ?_
                  rotate_left
                  · intro w9 hSw; (try dsimp only at hSw); go_simp; try with_reducible rfl
                  simp only [Act.put, List.setIfInBounds_toArray, List.set_cons_zero, List.set_cons_succ]
                  refine wpAnyH_take (i := 18) (oi := { dst := some 84, op := Op.call { callee := Callee.builtin Builtin.len, args := #[Operand.tmp 83], argTypes := #[22] }, type := 3, pos := "law.go:77", after := #[{ on := 17, ground := Ground.data }, { on := 15, ground := Ground.guard }], guard := some (15, false) }) (v := ?_) rfl (by kernel_rfl) (by kernel_rfl) (by kernel_rfl) (fun _ _ _ h => h) (Or.inl ⟨by kernel_rfl, ?_⟩) hHeld ?_
                  rotate_left
                  · intro w9 hSw; (try dsimp only at hSw); go_simp; try with_reducible rfl
                  simp only [Act.put, List.setIfInBounds_toArray, List.set_cons_zero, List.set_cons_succ]
                  refine wpAnyH_take (i := 19) (oi := { dst := some 85, op := Op.fieldAddr 30 (Operand.tmp 6) 0, type := 0, pos := "law.go:77", after := #[{ on := 15, ground := Ground.guard }], guard := some (15, false) }) (v := ?_) rfl (by kernel_rfl) (by kernel_rfl) (by kernel_rfl) (fun _ _ _ h => h) (Or.inl ⟨by kernel_rfl, ?_⟩) hHeld ?_
                  rotate_left
                  · intro w9 hSw; (try dsimp only at hSw); go_simp; try with_reducible rfl
                  simp only [Act.put, List.setIfInBounds_toArray, List.set_cons_zero, List.set_cons_succ]
                  refine wpAnyH_take (i := 20) (oi := { dst := some 86, op := Op.load 22 (Operand.tmp 85), type := 22, pos := "law.go:77", after := #[{ on := 19, ground := Ground.data }, { on := 15, ground := Ground.guard }], guard := some (15, false) }) (v := ?_) rfl (by kernel_rfl) (by kernel_rfl) (by kernel_rfl) (fun _ _ _ h => h) (Or.inl ⟨by kernel_rfl, ?_⟩) hHeld ?_
                  rotate_left
                  · intro w9 hSw; (try dsimp only at hSw); go_simp; try with_reducible rfl
                  simp only [Act.put, List.setIfInBounds_toArray, List.set_cons_zero, List.set_cons_succ]
                  refine wpAnyH_take (i := 21) (oi := { dst := some 87, op := Op.call { callee := Callee.builtin Builtin.len, args := #[Operand.tmp 86], argTypes := #[22] }, type := 3, pos := "law.go:77", after := #[{ on := 20, ground := Ground.data }, { on := 15, ground := Ground.guard }], guard := some (15, false) }) (v := ?_) rfl (by kernel_rfl) (by kernel_rfl) (by kernel_rfl) (fun _ _ _ h => h) (Or.inl ⟨by kernel_rfl, ?_⟩) hHeld ?_
                  rotate_left
                  · intro w9 hSw; (try dsimp only at hSw); go_simp; try with_reducible rfl
                  simp only [Act.put, List.setIfInBounds_toArray, List.set_cons_zero, List.set_cons_succ]
                  refine wpAnyH_take (i := 22) (oi := { dst := some 88, op := Op.binOp BinOp.lss 3 (Operand.tmp 84) (Operand.tmp 87) 3, type := 4, pos := "law.go:77", after := #[{ on := 18, ground := Ground.data }, { on := 21, ground := Ground.data }, { on := 15, ground := Ground.guard }], guard := some (15, false) }) (v := ?_) rfl (by kernel_rfl) (by kernel_rfl) (by kernel_rfl) (fun _ _ _ h => h) (Or.inl ⟨by kernel_rfl, ?_⟩) hHeld ?_
                  rotate_left
                  · intro w9 hSw; (try dsimp only at hSw); go_simp; try with_reducible rfl
                  simp only [Act.put, List.setIfInBounds_toArray, List.set_cons_zero, List.set_cons_succ]
                  refine wpAnyH_take (i := 23) (oi := { dst := some 89, op := Op.pick (Operand.tmp 81) (Operand.const (Value.bool true)) (Operand.tmp 88), type := 4, pos := "law.go:77", after := #[{ on := 15, ground := Ground.data }, { on := 22, ground := Ground.data }], guard := none }) (v := ?_) rfl (by kernel_rfl) (by kernel_rfl) (by kernel_rfl) (fun _ _ _ h => h) (Or.inl ⟨by kernel_rfl, ?_⟩) hHeld ?_
                  rotate_left
                  · intro w9 hSw; (try dsimp only at hSw); go_simp; try with_reducible rfl
                  simp only [Act.put, List.setIfInBounds_toArray, List.set_cons_zero, List.set_cons_succ]
                  refine wpAnyH_done (by kernel_rfl) ?_ _
                  have U6 := Lib.hid (R9.out.keep HU.out)
                  have U8 := Lib.hid (X9.out.keep HU.out)
                  have UL := Lib.hid (L9.out.below HU.out)
                  have UB := Lib.hid (below_then B9.out HU.out)
                  clear a0 a1 a2 af0 af1 af2 z0 z1 z2 zf0 zf1 zf2
                  have a0 := U6.out.c0; have a1 := U6.out.c1; have a2 := U6.out.c2; have af0 := U6.out.f0; have af1 := U6.out.f1; have af2 := U6.out.f2
                  have z0 := U8.out.c0; have z1 := U8.out.c1; have z2 := U8.out.c2; have zf0 := U8.out.f0; have zf1 := U8.out.f1; have zf2 := U8.out.f2
                  have hu6 := U6.out.lt
                  have hu8 := U8.out.lt
                  go_wp2
                  go_roundw
                  case rel => exact ⟨j + 1, _, _, _, _, _, _, _, _, _, BB, by omega, by go_num, U6.out.set3 (.slice A2 n2 c2) (.slice B2 m2 d2) (.slice C2 k2 f2), UL.out.set3 U6.out (B1 := A2) (p1 := n2) (e1 := c2) (B2 := B2) (p2 := m2) (e2 := d2) (B3 := C2) (p3 := k2) (e3 := f2), TK9.out.sane, TK9.out.inv HI.out, F9.out.mono (by omega), below_set3 UB.out hg6 (.slice A2 n2 c2) (.slice B2 m2 d2) (.slice C2 k2 f2)⟩
                  case measure => simp [intOf]; omega
                · have hne : E ≠ 0 := by simpa using hE0
                  have R9 := R7
                  have X9 := X8
                  have L9 := L8
                  have M9 := HLc
                  have B9 := HBc
                  have TK9 := TK
                  have F9 := F5
                  have HSm : Hid (flSame BB b = true) := Lib.hid (by rw [Q2.out (fun h => hne h.2)]; exact flSame_self b)
                  clear R7 X8 L8 HLc HBc TK F5 a0 a1 a2 af0 af1 af2 z0 z1 z2 zf0 zf1 zf2 hne
                  have NN := Lib.hid L9.out.pc.len
                  have MM := Lib.hid L9.out.pm.len
                  have KK := Lib.hid L9.out.po.len
                  have g1 : m2 ≤ 200 := by rw [← MM.out]; have := F9.out.2.1; omega
                  have g2 : k2 ≤ 200 := by rw [← KK.out]; have := F9.out.2.2; omega
                  have g3 : n1 ≤ n2 := by rw [← NN.out, ← N1.out]; exact TK9.out.grow.len.1
                  have g4 : decide ((n2 : Int) < (n1 : Int)) = false := decide_eq_false (by omega)
                  have KSa := Lib.hid (fun w' (h : Below wc.heap.size wc w') => sane_any A2 B2 C2 n2 c2 m2 d2 k2 f2 BB true TK9.out.sane w' (by omega) (by omega) NN.out (L9.out.pm.below h) (L9.out.po.below h))
                  have KTc := Lib.hid (fun w' (h : Below wc.heap.size wc w') => theirs_any A2 B2 C2 n2 c2 m2 d2 k2 f2 BB w' (F9.out.mono (by omega)) (L9.out.below h))
                  have KTb := Lib.hid (fun w' (h : Below wc.heap.size wc w') => theirs_any A1 B1 C1 n1 c1 m1 d1 k1 f1 b w' (HF.out.mono (by omega)) (M9.out.below h))
                  have HU : Hid (Below wc.heap.size wc wc.drew) := Lib.hid (Below.refl _ _).drew
                  have a0 := R9.out.c0; have a1 := R9.out.c1; have a2 := R9.out.c2; have af0 := R9.out.f0; have af1 := R9.out.f1; have af2 := R9.out.f2
                  have z0 := X9.out.c0; have z1 := X9.out.c1; have z2 := X9.out.c2; have zf0 := X9.out.f0; have zf1 := X9.out.f1; have zf2 := X9.out.f2
                  have hr9 := R9.out.lt
                  have hx9 := X9.out.lt
                  go_upto_region 13 with (fail)
                  have hHeld0 : ((fun w' => Below wc.heap.size wc w' ∧ (w'.cell? ⟨w0.heap.size, 0, none⟩ = some (.slice A1 n1 c1) ∧ w'.cell? ⟨w0.heap.size, 1, none⟩ = some (.slice B1 m1 d1) ∧ w'.cell? ⟨w0.heap.size, 2, none⟩ = some (.slice C1 k1 f1)) ∧ w'.cell? ⟨g, 0, none⟩ = some (.slice A2 n2 c2) ∧ w'.cell? ⟨g, 1, none⟩ = some (.slice B2 m2 d2) ∧ w'.cell? ⟨g, 2, none⟩ = some (.slice C2 k2 f2))) wc.drew := ⟨HU.out, ⟨(R9.out.keep HU.out).c0, (R9.out.keep HU.out).c1, (R9.out.keep HU.out).c2⟩, (X9.out.keep HU.out).c0, (X9.out.keep HU.out).c1, (X9.out.keep HU.out).c2⟩
                  refine wp_region_held_drew (S := (fun w' => Below wc.heap.size wc w' ∧ (w'.cell? ⟨w0.heap.size, 0, none⟩ = some (.slice A1 n1 c1) ∧ w'.cell? ⟨w0.heap.size, 1, none⟩ = some (.slice B1 m1 d1) ∧ w'.cell? ⟨w0.heap.size, 2, none⟩ = some (.slice C1 k1 f1)) ∧ w'.cell? ⟨g, 0, none⟩ = some (.slice A2 n2 c2) ∧ w'.cell? ⟨g, 1, none⟩ = some (.slice B2 m2 d2) ∧ w'.cell? ⟨g, 2, none⟩ = some (.slice C2 k2 f2))) (by kernel_rfl) hHeld0 (fun hHeld => ?_)
                  clear hHeld0
                  refine wpAnyH_take (i := 0) (oi := { dst := some 66, op := Op.move (Operand.tmp 10), type := 31, pos := "law.go:77", after := #[], guard := none }) (v := ?_) rfl (by kernel_rfl) (by kernel_rfl) (by kernel_rfl) (fun _ _ _ h => h) (Or.inl ⟨by kernel_rfl, ?_⟩) hHeld ?_
                  rotate_left
                  · intro w9 hSw; (try dsimp only at hSw); go_simp; try with_reducible rfl
                  simp only [Act.put, List.setIfInBounds_toArray, List.set_cons_zero, List.set_cons_succ]
                  refine wpAnyH_take (i := 1) (oi := { dst := some 67, op := Op.binOp BinOp.neq 31 (Operand.tmp 66) (Operand.const (Value.int IntKind.i64 0)) 31, type := 4, pos := "law.go:77", after := #[{ on := 0, ground := Ground.data }], guard := none }) (v := ?_) rfl (by kernel_rfl) (by kernel_rfl) (by kernel_rfl) (fun _ _ _ h => h) (Or.inl ⟨by kernel_rfl, ?_⟩) hHeld ?_
                  rotate_left
                  · intro w9 hSw; (try dsimp only at hSw); go_simp; try with_reducible rfl
                  simp only [Act.put, List.setIfInBounds_toArray, List.set_cons_zero, List.set_cons_succ]
                  refine wpAnyH_take (i := 2) (oi := { dst := some 68, op := Op.move (Operand.tmp 67), type := 4, pos := "law.go:77", after := #[{ on := 1, ground := Ground.data }], guard := none }) (v := ?_) rfl (by kernel_rfl) (by kernel_rfl) (by kernel_rfl) (fun _ _ _ h => h) (Or.inl ⟨by kernel_rfl, ?_⟩) hHeld ?_
                  rotate_left
                  · intro w9 hSw; (try dsimp only at hSw); go_simp; try with_reducible rfl
                  simp only [Act.put, List.setIfInBounds_toArray, List.set_cons_zero, List.set_cons_succ]
                  refine wpAnyH_take (i := 3) (oi := { dst := some 69, op := Op.load 30 (Operand.tmp 8), type := 30, pos := "law.go:77", after := #[{ on := 2, ground := Ground.guard }], guard := some (2, true) }) (v := ?_) rfl (by kernel_rfl) (by kernel_rfl) (by kernel_rfl) (fun _ _ _ h => h) (Or.inl ⟨by kernel_rfl, ?_⟩) hHeld ?_
                  rotate_left
                  · intro w9 hSw; (try dsimp only at hSw); go_simp; try with_reducible rfl
                  simp only [Act.put, List.setIfInBounds_toArray, List.set_cons_zero, List.set_cons_succ]
                  refine wpAnyH_take (i := 5) (oi := { dst := some 71, op := Op.load 30 (Operand.tmp 6), type := 30, pos := "law.go:77", after := #[{ on := 2, ground := Ground.guard }], guard := some (2, true) }) (v := ?_) rfl (by kernel_rfl) (by kernel_rfl) (by kernel_rfl) (fun _ _ _ h => h) (Or.inl ⟨by kernel_rfl, ?_⟩) hHeld ?_
                  rotate_left
                  · intro w9 hSw; (try dsimp only at hSw); go_simp; try with_reducible rfl
                  simp only [Act.put, List.setIfInBounds_toArray, List.set_cons_zero, List.set_cons_succ]
                  refine wpAnyH_ready (rs := [4]) (by kernel_rfl) (by simp) ?_
                  refine AllReadyH.cons (o := { dst := some 70, op := Op.call { callee := Callee.value (Operand.func 19), args := #[Operand.tmp 69], argTypes := #[30] }, type := 25, pos := "law.go:77", after := #[{ on := 3, ground := Ground.data }, { on := 2, ground := Ground.chain }, { on := 2, ground := Ground.guard }], guard := some (2, true) }) rfl (fun K hK => ?_) AllReadyH.nil
                  go_simp
                  (go_at_call 19; (with_reducible refine (KTc.out _ HU.out).mono ?_); rintro e w6 ⟨A6, n6, c6, B6, m6, d6, C6, k6, f6, rfl, h6, hb6⟩; have HU := Lib.hid (below_then HU.out hb6); have T6 := Lib.hid h6; clear h6 hb6)
                  refine hK.out _ _ (⟨HU.out, ⟨(R9.out.keep HU.out).c0, (R9.out.keep HU.out).c1, (R9.out.keep HU.out).c2⟩, (X9.out.keep HU.out).c0, (X9.out.keep HU.out).c1, (X9.out.keep HU.out).c2⟩) (fun hHeld => ?_)
                  clear hK K
                  try simp only [Act.put, List.setIfInBounds_toArray, List.set_cons_zero, List.set_cons_succ]
                  refine wpAnyH_ready (rs := [6]) (by kernel_rfl) (by simp) ?_
                  refine AllReadyH.cons (o := { dst := some 72, op := Op.call { callee := Callee.value (Operand.func 19), args := #[Operand.tmp 71], argTypes := #[30] }, type := 25, pos := "law.go:77", after := #[{ on := 5, ground := Ground.data }, { on := 4, ground := Ground.chain }, { on := 2, ground := Ground.guard }], guard := some (2, true) }) rfl (fun K hK => ?_) AllReadyH.nil
                  go_simp
                  (go_at_call 19; (with_reducible refine (KTb.out _ HU.out).mono ?_); rintro e w7 ⟨A7, n7, c7, B7, m7, d7, C7, k7, f7, rfl, h7, hb7⟩; have HU := Lib.hid (below_then HU.out hb7); have T7 := Lib.hid h7; have T67 := Lib.hid (T6.out.below hb7); clear h7 hb7)
                  refine hK.out _ _ (⟨HU.out, ⟨(R9.out.keep HU.out).c0, (R9.out.keep HU.out).c1, (R9.out.keep HU.out).c2⟩, (X9.out.keep HU.out).c0, (X9.out.keep HU.out).c1, (X9.out.keep HU.out).c2⟩) (fun hHeld => ?_)
                  clear hK K
                  try simp only [Act.put, List.setIfInBounds_toArray, List.set_cons_zero, List.set_cons_succ]
                  refine wpAnyH_ready (rs := [7]) (by kernel_rfl) (by simp) ?_
                  refine AllReadyH.cons (o := { dst := some 73, op := Op.call { callee := Callee.value (Operand.func 18), args := #[Operand.tmp 70, Operand.tmp 72], argTypes := #[25, 25] }, type := 4, pos := "law.go:77", after := #[{ on := 4, ground := Ground.data }, { on := 6, ground := Ground.data }, { on := 6, ground := Ground.chain }, { on := 2, ground := Ground.guard }], guard := some (2, true) }) rfl (fun K hK => ?_) AllReadyH.nil
                  go_simp
                  (go_at_call 18; (with_reducible refine (same_any A6 B6 C6 A7 B7 C7 n6 c6 m6 d6 k6 f6 n7 c7 m7 d7 k7 f7 _ _ true _ (F9.out.mono (by omega)) (HF.out.mono (by omega)) T67.out T7.out HSm.out).mono ?_); rintro e w8 ⟨rfl, hb8⟩; have HU := Lib.hid (below_then HU.out hb8); clear hb8)
                  refine hK.out _ _ (⟨HU.out, ⟨(R9.out.keep HU.out).c0, (R9.out.keep HU.out).c1, (R9.out.keep HU.out).c2⟩, (X9.out.keep HU.out).c0, (X9.out.keep HU.out).c1, (X9.out.keep HU.out).c2⟩) (fun hHeld => ?_)
                  clear hK K
                  try simp only [Act.put, List.setIfInBounds_toArray, List.set_cons_zero, List.set_cons_succ]
                  refine wpAnyH_take (i := 8) (oi := { dst := some 74, op := Op.unOp UnOp.not 4 (Operand.tmp 73), type := 4, pos := "law.go:77", after := #[{ on := 7, ground := Ground.data }, { on := 2, ground := Ground.guard }], guard := some (2, true) }) (v := ?_) rfl (by kernel_rfl) (by kernel_rfl) (by kernel_rfl) (fun _ _ _ h => h) (Or.inl ⟨by kernel_rfl, ?_⟩) hHeld ?_
                  rotate_left
                  · intro w9 hSw; (try dsimp only at hSw); go_simp; try with_reducible rfl
                  simp only [Act.put, List.setIfInBounds_toArray, List.set_cons_zero, List.set_cons_succ]
                  refine wpAnyH_take (i := 9) (oi := { dst := some 75, op := Op.pick (Operand.tmp 68) (Operand.tmp 74) (Operand.const (Value.bool false)), type := 4, pos := "law.go:77", after := #[{ on := 2, ground := Ground.data }, { on := 8, ground := Ground.data }], guard := none }) (v := ?_) rfl (by kernel_rfl) (by kernel_rfl) (by kernel_rfl) (fun _ _ _ h => h) (Or.inl ⟨by kernel_rfl, ?_⟩) hHeld ?_
                  rotate_left
                  · intro w9 hSw; (try dsimp only at hSw); go_simp; try with_reducible rfl
                  simp only [Act.put, List.setIfInBounds_toArray, List.set_cons_zero, List.set_cons_succ]
                  refine wpAnyH_take (i := 10) (oi := { dst := some 76, op := Op.move (Operand.tmp 75), type := 4, pos := "law.go:77", after := #[{ on := 9, ground := Ground.data }, { on := 7, ground := Ground.chain }], guard := none }) (v := ?_) rfl (by kernel_rfl) (by kernel_rfl) (by kernel_rfl) (fun _ _ _ h => h) (Or.inl ⟨by kernel_rfl, ?_⟩) hHeld ?_
                  rotate_left
                  · intro w9 hSw; (try dsimp only at hSw); go_simp; try with_reducible rfl
                  simp only [Act.put, List.setIfInBounds_toArray, List.set_cons_zero, List.set_cons_succ]
                  refine wpAnyH_take (i := 11) (oi := { dst := some 77, op := Op.load 30 (Operand.tmp 8), type := 30, pos := "law.go:77", after := #[{ on := 10, ground := Ground.guard }], guard := some (10, false) }) (v := ?_) rfl (by kernel_rfl) (by kernel_rfl) (by kernel_rfl) (fun _ _ _ h => h) (Or.inl ⟨by kernel_rfl, ?_⟩) hHeld ?_
                  rotate_left
                  · intro w9 hSw; (try dsimp only at hSw); go_simp; try with_reducible rfl
                  simp only [Act.put, List.setIfInBounds_toArray, List.set_cons_zero, List.set_cons_succ]
                  refine wpAnyH_ready (rs := [12]) (by kernel_rfl) (by simp) ?_
                  refine AllReadyH.cons (o := { dst := some 78, op := Op.call { callee := Callee.value (Operand.func 21), args := #[Operand.tmp 77], argTypes := #[30] }, type := 4, pos := "law.go:77", after := #[{ on := 11, ground := Ground.data }, { on := 10, ground := Ground.chain }, { on := 10, ground := Ground.guard }], guard := some (10, false) }) rfl (fun K hK => ?_) AllReadyH.nil
                  go_simp
                  (go_at_call 21; (with_reducible refine (KSa.out _ HU.out).mono ?_); rintro e w5 ⟨rfl, hb5⟩; have HU := Lib.hid (below_then HU.out hb5); clear hb5)
                  refine hK.out _ _ (⟨HU.out, ⟨(R9.out.keep HU.out).c0, (R9.out.keep HU.out).c1, (R9.out.keep HU.out).c2⟩, (X9.out.keep HU.out).c0, (X9.out.keep HU.out).c1, (X9.out.keep HU.out).c2⟩) (fun hHeld => ?_)
                  clear hK K
                  try simp only [Act.put, List.setIfInBounds_toArray, List.set_cons_zero, List.set_cons_succ]
                  refine wpAnyH_take (i := 13) (oi := { dst := some 79, op := Op.unOp UnOp.not 4 (Operand.tmp 78), type := 4, pos := "law.go:77", after := #[{ on := 12, ground := Ground.data }, { on := 10, ground := Ground.guard }], guard := some (10, false) }) (v := ?_) rfl (by kernel_rfl) (by kernel_rfl) (by kernel_rfl) (fun _ _ _ h => h) (Or.inl ⟨by kernel_rfl, ?_⟩) hHeld ?_
                  rotate_left
                  · intro w9 hSw; (try dsimp only at hSw); go_simp; try with_reducible rfl
                  simp only [Act.put, List.setIfInBounds_toArray, List.set_cons_zero, List.set_cons_succ]
                  refine wpAnyH_take (i := 14) (oi := { dst := some 80, op := Op.pick (Operand.tmp 76) (Operand.const (Value.bool true)) (Operand.tmp 79), type := 4, pos := "law.go:77", after := #[{ on := 10, ground := Ground.data }, { on := 13, ground := Ground.data }], guard := none }) (v := ?_) rfl (by kernel_rfl) (by kernel_rfl) (by kernel_rfl) (fun _ _ _ h => h) (Or.inl ⟨by kernel_rfl, ?_⟩) hHeld ?_
                  rotate_left
                  · intro w9 hSw; (try dsimp only at hSw); go_simp; try with_reducible rfl
                  simp only [Act.put, List.setIfInBounds_toArray, List.set_cons_zero, List.set_cons_succ]
                  refine wpAnyH_take (i := 15) (oi := { dst := some 81, op := Op.move (Operand.tmp 80), type := 4, pos := "law.go:77", after := #[{ on := 14, ground := Ground.data }, { on := 12, ground := Ground.chain }], guard := none }) (v := ?_) rfl (by kernel_rfl) (by kernel_rfl) (by kernel_rfl) (fun _ _ _ h => h) (Or.inl ⟨by kernel_rfl, ?_⟩) hHeld ?_
                  rotate_left
                  · intro w9 hSw; (try dsimp only at hSw); go_simp; try with_reducible rfl
                  simp only [Act.put, List.setIfInBounds_toArray, List.set_cons_zero, List.set_cons_succ]
                  refine wpAnyH_take (i := 16) (oi := { dst := some 82, op := Op.fieldAddr 30 (Operand.tmp 8) 0, type := 0, pos := "law.go:77", after := #[{ on := 15, ground := Ground.guard }], guard := some (15, false) }) (v := ?_) rfl (by kernel_rfl) (by kernel_rfl) (by kernel_rfl) (fun _ _ _ h => h) (Or.inl ⟨by kernel_rfl, ?_⟩) hHeld ?_
                  rotate_left
                  · intro w9 hSw; (try dsimp only at hSw); go_simp; try with_reducible rfl
                  simp only [Act.put, List.setIfInBounds_toArray, List.set_cons_zero, List.set_cons_succ]
                  refine wpAnyH_take (i := 17) (oi := { dst := some 83, op := Op.load 22 (Operand.tmp 82), type := 22, pos := "law.go:77", after := #[{ on := 16, ground := Ground.data }, { on := 15, ground := Ground.guard }], guard := some (15, false) }) (v := ?_) rfl (by kernel_rfl) (by kernel_rfl) (by kernel_rfl) (fun _ _ _ h => h) (Or.inl ⟨by kernel_rfl, ?_⟩) hHeld ?_
                  rotate_left
                  · intro w9 hSw; (try dsimp only at hSw); go_simp; try with_reducible rfl
                  simp only [Act.put, List.setIfInBounds_toArray, List.set_cons_zero, List.set_cons_succ]
                  refine wpAnyH_take (i := 18) (oi := { dst := some 84, op := Op.call { callee := Callee.builtin Builtin.len, args := #[Operand.tmp 83], argTypes := #[22] }, type := 3, pos := "law.go:77", after := #[{ on := 17, ground := Ground.data }, { on := 15, ground := Ground.guard }], guard := some (15, false) }) (v := ?_) rfl (by kernel_rfl) (by kernel_rfl) (by kernel_rfl) (fun _ _ _ h => h) (Or.inl ⟨by kernel_rfl, ?_⟩) hHeld ?_
                  rotate_left
                  · intro w9 hSw; (try dsimp only at hSw); go_simp; try with_reducible rfl
                  simp only [Act.put, List.setIfInBounds_toArray, List.set_cons_zero, List.set_cons_succ]
                  refine wpAnyH_take (i := 19) (oi := { dst := some 85, op := Op.fieldAddr 30 (Operand.tmp 6) 0, type := 0, pos := "law.go:77", after := #[{ on := 15, ground := Ground.guard }], guard := some (15, false) }) (v := ?_) rfl (by kernel_rfl) (by kernel_rfl) (by kernel_rfl) (fun _ _ _ h => h) (Or.inl ⟨by kernel_rfl, ?_⟩) hHeld ?_
                  rotate_left
                  · intro w9 hSw; (try dsimp only at hSw); go_simp; try with_reducible rfl
                  simp only [Act.put, List.setIfInBounds_toArray, List.set_cons_zero, List.set_cons_succ]
                  refine wpAnyH_take (i := 20) (oi := { dst := some 86, op := Op.load 22 (Operand.tmp 85), type := 22, pos := "law.go:77", after := #[{ on := 19, ground := Ground.data }, { on := 15, ground := Ground.guard }], guard := some (15, false) }) (v := ?_) rfl (by kernel_rfl) (by kernel_rfl) (by kernel_rfl) (fun _ _ _ h => h) (Or.inl ⟨by kernel_rfl, ?_⟩) hHeld ?_
                  rotate_left
                  · intro w9 hSw; (try dsimp only at hSw); go_simp; try with_reducible rfl
                  simp only [Act.put, List.setIfInBounds_toArray, List.set_cons_zero, List.set_cons_succ]
                  refine wpAnyH_take (i := 21) (oi := { dst := some 87, op := Op.call { callee := Callee.builtin Builtin.len, args := #[Operand.tmp 86], argTypes := #[22] }, type := 3, pos := "law.go:77", after := #[{ on := 20, ground := Ground.data }, { on := 15, ground := Ground.guard }], guard := some (15, false) }) (v := ?_) rfl (by kernel_rfl) (by kernel_rfl) (by kernel_rfl) (fun _ _ _ h => h) (Or.inl ⟨by kernel_rfl, ?_⟩) hHeld ?_
                  rotate_left
                  · intro w9 hSw; (try dsimp only at hSw); go_simp; try with_reducible rfl
                  simp only [Act.put, List.setIfInBounds_toArray, List.set_cons_zero, List.set_cons_succ]
                  refine wpAnyH_take (i := 22) (oi := { dst := some 88, op := Op.binOp BinOp.lss 3 (Operand.tmp 84) (Operand.tmp 87) 3, type := 4, pos := "law.go:77", after := #[{ on := 18, ground := Ground.data }, { on := 21, ground := Ground.data }, { on := 15, ground := Ground.guard }], guard := some (15, false) }) (v := ?_) rfl (by kernel_rfl) (by kernel_rfl) (by kernel_rfl) (fun _ _ _ h => h) (Or.inl ⟨by kernel_rfl, ?_⟩) hHeld ?_
                  rotate_left
                  · intro w9 hSw; (try dsimp only at hSw); go_simp; try with_reducible rfl
                  simp only [Act.put, List.setIfInBounds_toArray, List.set_cons_zero, List.set_cons_succ]
                  refine wpAnyH_take (i := 23) (oi := { dst := some 89, op := Op.pick (Operand.tmp 81) (Operand.const (Value.bool true)) (Operand.tmp 88), type := 4, pos := "law.go:77", after := #[{ on := 15, ground := Ground.data }, { on := 22, ground := Ground.data }], guard := none }) (v := ?_) rfl (by kernel_rfl) (by kernel_rfl) (by kernel_rfl) (fun _ _ _ h => h) (Or.inl ⟨by kernel_rfl, ?_⟩) hHeld ?_
                  rotate_left
                  · intro w9 hSw; (try dsimp only at hSw); go_simp; try with_reducible rfl
                  simp only [Act.put, List.setIfInBounds_toArray, List.set_cons_zero, List.set_cons_succ]
                  refine wpAnyH_done (by kernel_rfl) ?_ _
                  have U6 := Lib.hid (R9.out.keep HU.out)
                  have U8 := Lib.hid (X9.out.keep HU.out)
                  have UL := Lib.hid (L9.out.below HU.out)
                  have UB := Lib.hid (below_then B9.out HU.out)
                  clear a0 a1 a2 af0 af1 af2 z0 z1 z2 zf0 zf1 zf2
                  have a0 := U6.out.c0; have a1 := U6.out.c1; have a2 := U6.out.c2; have af0 := U6.out.f0; have af1 := U6.out.f1; have af2 := U6.out.f2
                  have z0 := U8.out.c0; have z1 := U8.out.c1; have z2 := U8.out.c2; have zf0 := U8.out.f0; have zf1 := U8.out.f1; have zf2 := U8.out.f2
                  have hu6 := U6.out.lt
                  have hu8 := U8.out.lt
                  go_wp2
                  go_roundw
                  case rel => exact ⟨j + 1, _, _, _, _, _, _, _, _, _, BB, by omega, by go_num, U6.out.set3 (.slice A2 n2 c2) (.slice B2 m2 d2) (.slice C2 k2 f2), UL.out.set3 U6.out (B1 := A2) (p1 := n2) (e1 := c2) (B2 := B2) (p2 := m2) (e2 := d2) (B3 := C2) (p3 := k2) (e3 := f2), TK9.out.sane, TK9.out.inv HI.out, F9.out.mono (by omega), below_set3 UB.out hg6 (.slice A2 n2 c2) (.slice B2 m2 d2) (.slice C2 k2 f2)⟩
                  case measure => simp [intOf]; omega
        · obtain rfl : j = n := by omega
          by_cases hm0 : 0 < b.marks.length
          · have hfin := fin_no hm0
            have KE := Lib.hid (fun w' (h : Below wr.heap.size wr w') => end_any A1 B1 C1 n1 c1 m1 d1 k1 f1 b w' (HF.out.mono (by omega)) (HL.out.below h))
            rw [snd_of HS.out, hfin.1, hfin.2] at KE
            have hm2 : (0 : Int) < (m1 : Int) := by rw [← M1.out]; omega
            have hm3 : 0 < m1 := by rw [← M1.out]; omega
            go_wp2_with (go_at_call 16; refine (KE.out _ (Below.refl _ _)).mono ?_; rintro e w3 ⟨A3, n3, c3, rfl, h3, hb3⟩; obtain rfl : 0 = n3 := h3.len; have HU := Lib.hid hb3; have R9 := Lib.hid (R6.out.keep hb3); clear h3 hb3 a0 a1 a2 af0 af1 af2; have a0 := R9.out.c0; have a1 := R9.out.c1; have a2 := R9.out.c2; have af0 := R9.out.f0; have af1 := R9.out.f1; have af2 := R9.out.f2)
            go_ret
            exact ⟨rfl, below_then RB.out HU.out⟩
          · have hm1' : b.marks = [] := List.eq_nil_of_length_eq_zero (by omega)
            have ho := outs_none HS.out hm1'
            have hE := fin_yes (b := b) (by have := HF.out.1; omega) hm0
            have hW := wd_whole HI.out hE
            obtain rfl : 0 = k1 := by rw [← K1.out, ho]; rfl
            have KE := Lib.hid (fun w' (h : Below wr.heap.size wr w') => end_any A1 B1 C1 n1 c1 m1 d1 0 f1 b w' (HF.out.mono (by omega)) (HL.out.below h))
            rw [snd_of HS.out, hE] at KE
            have HW1 := Lib.hid hW.1
            have HW2 := Lib.hid hW.2
            clear hW hE ho hm1'
            go_wp2_with (first
              | (go_at_call 16; refine (KE.out _ (Below.refl _ _)).mono ?_; rintro e w3 ⟨A3, n3, c3, rfl, h3, hb3⟩; obtain rfl : n3 = n1 + 1 := h3.len.symm.trans (HW2.out.trans (congrArg Nat.succ N1.out)); have HU := Lib.hid hb3; have H3 := Lib.hid h3; have R9 := Lib.hid (R6.out.keep hb3); clear h3 hb3 a0 a1 a2 af0 af1 af2; have a0 := R9.out.c0; have a1 := R9.out.c1; have a2 := R9.out.c2; have af0 := R9.out.f0; have af1 := R9.out.f1; have af2 := R9.out.f2)
              | (go_at_call 23; refine (whole_any _ _ _ _ _ _ (by omega) H3.out HW1.out).mono ?_; rintro e w5 ⟨rfl, hb5⟩; have R10 := Lib.hid (R9.out.keep hb5); have HU := Lib.hid (below_then HU.out hb5); clear hb5 a0 a1 a2 af0 af1 af2; have a0 := R10.out.c0; have a1 := R10.out.c1; have a2 := R10.out.c2; have af0 := R10.out.f0; have af1 := R10.out.f1; have af2 := R10.out.f2))
            go_ret
            exact ⟨rfl, below_then RB.out HU.out⟩
end Go.Proofs.Ytkcpmjccggfpiaa
