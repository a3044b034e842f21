/-
  What the document's own End and Whole answer.
-/
import Derived.Test.YtkcpmjccggfpiaaFlowRefI
namespace Go.Proofs.Ytkcpmjccggfpiaa
open Go.RowKit

set_option maxHeartbeats 2000000 in
theorem rend_any (A B C : Option Addr) (n c m d k f : Nat) (b : Bd) (w : World) (hF : Few 1000 b) (h : Bl w A n c B m d C k f b) :
    Calls Try.prog 17 #[.agg #[.slice A n c, .slice B m d, .slice C k f]] w (EnPost w (finL (flSnd b)) (finE (flSnd b))) := by
  have HF := Lib.hid hF
  obtain ⟨hn, hm, hk⟩ := h.ns hF
  have LC := Lib.hid h.1.len
  have LM := Lib.hid h.2.1.len
  have LO := Lib.hid h.2.2.len
  have H := Lib.hid h
  clear h hF
  have X1 := Lib.hid (Bx.new w 25 (.slice A n c) (.slice B m d) (.slice C k f))
  have HB := Lib.hid (below_one w (.cells #[.slice A n c, .slice B m d, .slice C k f] 25))
  go_enter Try.func17, Try.ntmps17
  go_upto_region 1 with (fail)
  generalize w.alloc (.cells #[.slice A n c, .slice B m d, .slice C k f] 25) = W at *
  have hg1 : w.heap.size < W.heap.size := X1.out.lt
  have HL := Lib.hid (H.out.below HB.out)
  have a0 := X1.out.c0; have a1 := X1.out.c1; have a2 := X1.out.c2; have af0 := X1.out.f0; have af1 := X1.out.f1; have af2 := X1.out.f2
  go_upto_region 2 with (go_at_call 28; refine (rown_any _ _ _ _ _ _ _ _ _ b _ (HF.out.mono (by omega)) HL.out).mono ?_; rintro e w1 ⟨A1, n1, c1, B1, m1, d1, C1, k1, f1, rfl, h1, hb1⟩; have HB1 := Lib.hid (hb1); have H1 := Lib.hid h1; clear h1 hb1; have Y1 := Lib.hid (X1.out.keep HB1.out); clear a0 a1 a2 af0 af1 af2; have a0 := Y1.out.c0; have a1 := Y1.out.c1; have a2 := Y1.out.c2; have af0 := Y1.out.f0; have af1 := Y1.out.f1; have af2 := Y1.out.f2; have hY1 := Y1.out.lt)
  have Q1 := Lib.hid (Y1.out.set3 (.slice A1 n1 c1) (.slice B1 m1 d1) (.slice C1 k1 f1))
  have QB := Lib.hid (below_set3 (g := w.heap.size) (below_then HB.out HB1.out) (Nat.le_refl _) (.slice A1 n1 c1) (.slice B1 m1 d1) (.slice C1 k1 f1))
  have HQ := Lib.hid (H1.out.set3 Y1.out (B1 := A1) (p1 := n1) (e1 := c1) (B2 := B1) (p2 := m1) (e2 := d1) (B3 := C1) (p3 := k1) (e3 := f1))
  generalize (((w1.setCell ⟨w.heap.size, 0, none⟩ (.slice A1 n1 c1)).setCell ⟨w.heap.size, 1, none⟩ (.slice B1 m1 d1)).setCell ⟨w.heap.size, 2, none⟩ (.slice C1 k1 f1)) = W1 at *
  have hQ1 := Q1.out.lt
  clear a0 a1 a2 af0 af1 af2
  have a0 := Q1.out.c0; have a1 := Q1.out.c1; have a2 := Q1.out.c2; have af0 := Q1.out.f0; have af1 := Q1.out.f1; have af2 := Q1.out.f2
  have HM := Lib.hid HQ.out.pm.len
  have HFs := Lib.hid HF.out.snd'
  have HSs := Lib.hid (snd_is b)
  generalize flSnd b = b' at *
  by_cases hm : 0 < m1
  · have ht : (0 : Int) < (m1 : Int) := by omega
    have HE := Lib.hid (fin_no (b := b') (by rw [HM.out]; exact hm))
    go_wp2
    refine bodyPost_ret (v := .tuple #[.slice none 0 0, .int .i64 (-22)]) (by simp [results, Try.results17, go_sem] <;> rfl) rfl ⟨none, 0, 0, by rw [HE.out.1], by rw [HE.out.2]; exact Prs.nil, QB.out⟩
  · obtain rfl : m1 = 0 := by omega
    have hE := fin_yes (b := b') (by have := HFs.out.1; omega) (by rw [HM.out]; omega)
    have HE := Lib.hid hE
    have HLn : Hid (finL b' = b'.code ++ [(4, 0)]) := Lib.hid (by unfold finL; rw [if_pos hE])
    clear hE
    go_wp2_with (go_at_call 37; refine (rone_of _ _ _ _ _ _ _ _ _ b' 4 0 _ (HFs.out.mono (by omega)) HSs.out HQ.out).mono ?_; rintro e w2 ⟨A2, n2, c2, B2, m2, d2, C2, k2, f2, rfl, h2, hb2⟩; have HB2 := Lib.hid hb2; have H2 := Lib.hid h2; clear h2 hb2)
    refine bodyPost_ret (v := .tuple #[.slice A2 n2 c2, .int .i64 0]) (by simp [results, Try.results17, go_sem] <;> rfl) rfl ⟨A2, n2, c2, by rw [HE.out], ?_, ?_⟩
    · rw [HLn.out]
      exact (H2.out.pc.alloc _)
    · exact below_then (below_then QB.out HB2.out) (below_one _ _)
theorem led_by (n : Nat) (u v : Int) : flLed n (u, v) = (!(u == 1 || u == 2 || u == 6 || u == 7 || u == 8) || (!(decide (v < 0)) && !(decide ((n : Int) ≤ v)))) := by
  unfold flLed flLeads flThere
  congr 1
  rw [Bool.eq_iff_iff]
  simp only [Bool.and_eq_true, Bool.not_eq_true', decide_eq_true_eq, decide_eq_false_iff_not]
  omega
set_option maxHeartbeats 4000000 in
theorem rwhole_any (A : Option Addr) (n c : Nat) (l : List (Int × Int)) (r : Bool) (w : World) (hn : n ≤ 100000) (h : Prs w A n c l) (hr : flWhole l = r) :
    Calls Try.prog 24 #[.slice A n c] w fun e w' => e = .returned (.bool r) ∧ w = w' := by
  have HL := Lib.hid h.len
  have H := Lib.hid h
  have HR := Lib.hid hr
  clear h hr
  rcases Nat.eq_zero_or_pos n with h0 | h0
  · subst h0
    obtain rfl : false = r := by rw [← HR.out, List.eq_nil_of_length_eq_zero HL.out]; rfl
    go_enter Try.func24, Try.ntmps24
    go_wp2
    go_loop [4] (fun i => i = .int .i64 0) (fun _ => 0)
    case atStart => exact rfl
    case round =>
      subst hrel
      go_wp2
      go_ret
      exact ⟨rfl, rfl⟩
  · have hn0 : decide ((0 : Int) < (n : Int)) = true := decide_eq_true (by omega)
    have hn0' : (0 : Int) < (n : Int) := by omega
    go_enter Try.func24, Try.ntmps24
    go_wp2
    go_loop [4] (fun i => ∃ j : Nat, j ≤ n ∧ i = .int .i64 j ∧ (l.take j).all (flLed n) = true) (fun i => ((n : Int) - intOf i).toNat)
    case atStart => exact ⟨0, by omega, rfl, rfl⟩
    case round =>
      obtain ⟨j, hj, rfl, ha⟩ := hrel
      have HA := Lib.hid ha
      clear ha
      by_cases hlt : j < n
      · have hjl : j < l.length := by have := HL.out; omega
        obtain ⟨xb, xo, rfl, hbl2, g0, g1⟩ := H.out.at_ j hlt
        have HN := Lib.hid (all_next (flLed n) l j hjl)
        have HX := Lib.hid (all_not (flLed n) l j hjl)
        generalize l.getD j (0, 0) = p at *
        obtain ⟨u, v⟩ := p
        have HB := Lib.hid (led_by n u v)
        have HFalse : Hid (flLed n (u, v) = false → r = false) := Lib.hid fun hq => by rw [← HR.out]; unfold flWhole; rw [HL.out, HX.out hq]; simp
        cases q1 : (u == 1)
        · skip
          cases q2 : (u == 2)
          · skip
            cases q6 : (u == 6)
            · skip
              cases q7 : (u == 7)
              · skip
                cases q8 : (u == 8)
                · skip
                  have HG : Hid ((l.take (j + 1)).all (flLed n) = true) := Lib.hid (by rw [HN.out, HA.out, HB.out]; simp [*])
                  go_wp2
                  go_round
                  case rel => exact ⟨j + 1, by omega, by go_num, HG.out⟩
                  case measure => simp [intOf]; omega
                · skip
                  cases s1 : (decide (v < 0))
                  · cases s2 : (decide ((n : Int) ≤ v))
                    · skip
                      have HG : Hid ((l.take (j + 1)).all (flLed n) = true) := Lib.hid (by rw [HN.out, HA.out, HB.out]; simp [*])
                      go_wp2
                      go_round
                      case rel => exact ⟨j + 1, by omega, by go_num, HG.out⟩
                      case measure => simp [intOf]; omega
                    · skip
                      have HG : Hid (r = false) := Lib.hid (HFalse.out (by rw [HB.out]; simp [*]))
                      go_wp2
                      go_ret
                      exact ⟨by rw [HG.out]; rfl, rfl⟩
                  · skip
                    have HG : Hid (r = false) := Lib.hid (HFalse.out (by rw [HB.out]; simp [*]))
                    go_wp2
                    go_ret
                    exact ⟨by rw [HG.out]; rfl, rfl⟩
              · skip
                cases s1 : (decide (v < 0))
                · cases s2 : (decide ((n : Int) ≤ v))
                  · skip
                    have HG : Hid ((l.take (j + 1)).all (flLed n) = true) := Lib.hid (by rw [HN.out, HA.out, HB.out]; simp [*])
                    go_wp2
                    go_round
                    case rel => exact ⟨j + 1, by omega, by go_num, HG.out⟩
                    case measure => simp [intOf]; omega
                  · skip
                    have HG : Hid (r = false) := Lib.hid (HFalse.out (by rw [HB.out]; simp [*]))
                    go_wp2
                    go_ret
                    exact ⟨by rw [HG.out]; rfl, rfl⟩
                · skip
                  have HG : Hid (r = false) := Lib.hid (HFalse.out (by rw [HB.out]; simp [*]))
                  go_wp2
                  go_ret
                  exact ⟨by rw [HG.out]; rfl, rfl⟩
            · skip
              cases s1 : (decide (v < 0))
              · cases s2 : (decide ((n : Int) ≤ v))
                · skip
                  have HG : Hid ((l.take (j + 1)).all (flLed n) = true) := Lib.hid (by rw [HN.out, HA.out, HB.out]; simp [*])
                  go_wp2
                  go_round
                  case rel => exact ⟨j + 1, by omega, by go_num, HG.out⟩
                  case measure => simp [intOf]; omega
                · skip
                  have HG : Hid (r = false) := Lib.hid (HFalse.out (by rw [HB.out]; simp [*]))
                  go_wp2
                  go_ret
                  exact ⟨by rw [HG.out]; rfl, rfl⟩
              · skip
                have HG : Hid (r = false) := Lib.hid (HFalse.out (by rw [HB.out]; simp [*]))
                go_wp2
                go_ret
                exact ⟨by rw [HG.out]; rfl, rfl⟩
          · skip
            cases s1 : (decide (v < 0))
            · cases s2 : (decide ((n : Int) ≤ v))
              · skip
                have HG : Hid ((l.take (j + 1)).all (flLed n) = true) := Lib.hid (by rw [HN.out, HA.out, HB.out]; simp [*])
                go_wp2
                go_round
                case rel => exact ⟨j + 1, by omega, by go_num, HG.out⟩
                case measure => simp [intOf]; omega
              · skip
                have HG : Hid (r = false) := Lib.hid (HFalse.out (by rw [HB.out]; simp [*]))
                go_wp2
                go_ret
                exact ⟨by rw [HG.out]; rfl, rfl⟩
            · skip
              have HG : Hid (r = false) := Lib.hid (HFalse.out (by rw [HB.out]; simp [*]))
              go_wp2
              go_ret
              exact ⟨by rw [HG.out]; rfl, rfl⟩
        · skip
          cases s1 : (decide (v < 0))
          · cases s2 : (decide ((n : Int) ≤ v))
            · skip
              have HG : Hid ((l.take (j + 1)).all (flLed n) = true) := Lib.hid (by rw [HN.out, HA.out, HB.out]; simp [*])
              go_wp2
              go_round
              case rel => exact ⟨j + 1, by omega, by go_num, HG.out⟩
              case measure => simp [intOf]; omega
            · skip
              have HG : Hid (r = false) := Lib.hid (HFalse.out (by rw [HB.out]; simp [*]))
              go_wp2
              go_ret
              exact ⟨by rw [HG.out]; rfl, rfl⟩
          · skip
            have HG : Hid (r = false) := Lib.hid (HFalse.out (by rw [HB.out]; simp [*]))
            go_wp2
            go_ret
            exact ⟨by rw [HG.out]; rfl, rfl⟩
      · obtain rfl : n = j := by omega
        obtain ⟨q, rfl⟩ : ∃ q, n = q + 1 := ⟨n - 1, by omega⟩
        obtain ⟨xb, xo, rfl, hbl2, g0, g1⟩ := H.out.at_ q (by omega)
        have HX := Lib.hid (ends_get l q HL.out)
        have HG : Hid (((l.getD q (0, 0)).1 == 4) = r) := Lib.hid (by rw [← HX.out, ← HR.out]; have := HA.out; rw [List.take_of_length_le (by rw [HL.out]; exact Nat.le_refl _)] at this; unfold flWhole; rw [HL.out, this]; simp)
        generalize (l.getD q (0, 0)).1 = x at *
        generalize (l.getD q (0, 0)).2 = y at *
        have hp0 : (0 : Int) < (q : Int) + 1 := by omega
        have hp1 : decide ((0 : Int) < (q : Int) + 1) = true := decide_eq_true hp0
        go_wp2
        go_ret
        exact ⟨by rw [← HG.out]; rfl, rfl⟩
end Go.Proofs.Ytkcpmjccggfpiaa
