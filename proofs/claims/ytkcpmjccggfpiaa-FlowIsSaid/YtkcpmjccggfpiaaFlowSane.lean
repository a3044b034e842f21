/-
  What package flow answers of mayMark, deep, Sane and sound, at any thread that is built.
-/
import Derived.Test.YtkcpmjccggfpiaaFlowBox
namespace Go.Proofs.Ytkcpmjccggfpiaa
open Go.RowKit

set_option maxHeartbeats 400000 in
theorem mayMark_is (A B C : Option Addr) (n c m d k f : Nat) (x y : Int) (r : Bool) (h : flMark n (x, y) = r) (w : World) :
    Calls Try.prog 39 #[.agg #[.slice A n c, .slice B m d, .slice C k f], .agg #[.int .i64 x, .int .i64 y]] w fun e w' => e = .returned (.bool r) ∧ Below w.heap.size w w' := by
  unfold flMark at h
  obtain ⟨q, hq⟩ : ∃ q, flThere n y = q := ⟨_, rfl⟩
  have HQ := Lib.hid hq
  rw [hq] at h
  clear hq
  by_cases e1 : x = 1
  · subst e1
    obtain rfl : q = r := by rw [← h]; cases q <;> simp
    clear h
    go_enter Try.func39, Try.ntmps39
    go_wp2_with (go_at_call 41; refine (there_is _ _ _ _ _ HQ.out _).mono ?_; rintro e w' ⟨rfl, rfl⟩)
    go_ret
    exact ⟨rfl, below_two _ _ _⟩
  · have h1 : (x == 1) = false := by simpa using e1
    rw [h1] at h
    cases hx : (x == 2 || x == 3)
    · have h2 : (x == 2) = false := by simp at hx; simpa using hx.1
      have h3 : (x == 3) = false := by simp at hx; simpa using hx.2
      rw [hx] at h
      simp at h
      subst h
      clear hx
      go_enter Try.func39, Try.ntmps39
      go_wp2
      go_ret
      exact ⟨rfl, below_two _ _ _⟩
    · rw [hx] at h
      cases h4 : (y == (n : Int)) <;> cases q <;> rw [h4] at h <;> simp at h <;> subst h <;> (cases h2 : (x == 2))
      all_goals
        (try have h3 : (x == 3) = true := by (rw [h2] at hx; simpa using hx))
        clear hx
        go_enter Try.func39, Try.ntmps39
        go_wp2_with (go_at_call 41; refine (there_is _ _ _ _ _ HQ.out _).mono ?_; rintro e w' ⟨rfl, rfl⟩)
        go_ret
        exact ⟨rfl, below_two _ _ _⟩

set_option maxHeartbeats 400000 in
theorem deep_any (A B C : Option Addr) (n c m d k f : Nat) (l : List (Int × Int)) (w : World) (hm : m ≤ 100000) (h : Prs w B m d l) :
    Calls Try.prog 40 #[.agg #[.slice A n c, .slice B m d, .slice C k f]] w fun e w' => e = .returned (.int .i64 (flDeep l : Nat)) ∧ Below w.heap.size w w' := by
  have H := Lib.hid (h.alloc (.cells #[.slice A n c, .slice B m d, .slice C k f] 30))
  have HL := Lib.hid h.len
  clear h
  go_enter Try.func40, Try.ntmps40
  go_wp2
  generalize hw1 : w.alloc (.cells #[.slice A n c, .slice B m d, .slice C k f] 30) = w1 at *
  have HB : Hid (Below w.heap.size w w1) := Lib.hid (by rw [← hw1]; exact below_one _ _)
  clear hw1
  go_loopw [3, 9] (fun t i wr => ∃ j : Nat, j ≤ m ∧ i = .int .i64 j ∧ t = .int .i64 (flDeep (l.take j) : Nat) ∧ Below w1.heap.size w1 wr) (fun _ i _ => ((m : Int) - intOf i).toNat)
  case atStart => exact ⟨0, by omega, rfl, rfl, Below.refl _ _⟩
  case round =>
    obtain ⟨j, hj, rfl, rfl, hb⟩ := hrel
    have HW := Lib.hid hb
    have hdl : flDeep (l.take j) ≤ 100000 := by have := flDeep_le (l.take j); have h2 := List.length_take_le j l; omega
    by_cases hlt : j < m
    · obtain ⟨b, o, rfl, hbl, c0, c1⟩ := (H.out.below hb).at_ j hlt
      have HX : Hid (flDeep (l.take (j + 1)) = flDeep (l.take j) + if (l.getD j (0, 0)).1 == 3 then 1 else 0) := Lib.hid (by
        have hjl : j < l.length := by rw [HL.out]; exact hlt
        rw [List.take_succ_eq_append_getElem hjl, flDeep_snoc]
        simp [List.getD, hjl])
      generalize (l.getD j (0, 0)).1 = x at *
      generalize (l.getD j (0, 0)).2 = y at *
      generalize flDeep (l.take j) = D at *
      clear hb
      cases h3 : (x == 3)
      · rw [h3] at HX
        go_wp2
        go_roundw
        case rel => exact ⟨j + 1, by omega, by go_num, by rw [HX.out]; simp, HW.out.alloc HW.out.size _⟩
        case measure => simp [intOf]; omega
      · rw [h3] at HX
        go_wp2
        go_roundw
        case rel => exact ⟨j + 1, by omega, by go_num, by rw [HX.out]; go_num, HW.out.alloc HW.out.size _⟩
        case measure => simp [intOf]; omega
    · obtain rfl : j = m := by omega
      clear hb
      go_wp2
      go_ret
      exact ⟨by rw [List.take_of_length_le (by have := HL.out; omega)]; rfl, below_then HB.out HW.out⟩
theorem all_next (p : Int × Int → Bool) (l : List (Int × Int)) (j : Nat) (hj : j < l.length) : (l.take (j + 1)).all p = ((l.take j).all p && p (l.getD j (0, 0))) := by
  rw [List.take_succ_eq_append_getElem hj, List.all_append]
  simp [List.getD, hj]
theorem all_not (p : Int × Int → Bool) (l : List (Int × Int)) (j : Nat) (hj : j < l.length) (h : p (l.getD j (0, 0)) = false) : l.all p = false := by
  rw [← Bool.not_eq_true, List.all_eq_true]
  intro h2
  have := h2 l[j] (List.getElem_mem hj)
  rw [show l.getD j (0, 0) = l[j] by simp [List.getD, hj]] at h
  rw [h] at this
  cases this
set_option maxHeartbeats 1000000 in
theorem sane_any (A B C : Option Addr) (n c m d k f : Nat) (b : Bd) (r : Bool) (h : flSane b = r) (w : World) (hm : m ≤ 100000) (hk : k ≤ 100000) (hn : b.code.length = n) (h2 : Prs w B m d b.marks) (h3 : Prs w C k f b.outs) :
    Calls Try.prog 21 #[.agg #[.slice A n c, .slice B m d, .slice C k f]] w fun e w' => e = .returned (.bool r) ∧ Below w.heap.size w w' := by
  unfold flSane at h
  rw [hn] at h
  clear hn
  have H := Lib.hid h
  have H2 := Lib.hid (h2.alloc (.cells #[.slice A n c, .slice B m d, .slice C k f] 30))
  have H3 := Lib.hid (h3.alloc (.cells #[.slice A n c, .slice B m d, .slice C k f] 30))
  have X := Lib.hid (Bx.new w 30 (.slice A n c) (.slice B m d) (.slice C k f))
  have HB := Lib.hid (below_one w (.cells #[.slice A n c, .slice B m d, .slice C k f] 30))
  clear h h2 h3
  by_cases hc : 4096 < n
  · obtain rfl : false = r := by rw [← H.out, decide_eq_false (by omega)]; rfl
    go_enter Try.func21, Try.ntmps21
    go_wp2
    go_ret
    exact ⟨rfl, HB.out⟩
  · have hH := H.out
    rw [decide_eq_true (show n ≤ 4096 by omega)] at hH
    have HR := Lib.hid hH
    clear hH H
    go_enter Try.func21, Try.ntmps21
    go_wp2
    generalize w.alloc (.cells #[.slice A n c, .slice B m d, .slice C k f] 30) = w1 at *
    go_loopw [15] (fun i wr => ∃ j : Nat, j ≤ m ∧ i = .int .i64 j ∧ (b.marks.take j).all (flMark n) = true ∧ Below w1.heap.size w1 wr) (fun i _ => ((m : Int) - intOf i).toNat)
    case atStart => exact ⟨0, by omega, rfl, rfl, Below.refl _ _⟩
    case round =>
      obtain ⟨j, hj, rfl, ha, hb⟩ := hrel
      have HW := Lib.hid hb
      have HA := Lib.hid ha
      have c0 := (X.out.keep hb).c0
      have c1 := (X.out.keep hb).c1
      have c2 := (X.out.keep hb).c2
      have hgl : w.heap.size < wr.heap.size := (X.out.keep hb).lt
      by_cases hlt : j < m
      · have hjl : j < b.marks.length := by have := H2.out.len; omega
        obtain ⟨mb, mo, rfl, hbl, e0, e1⟩ := (H2.out.below hb).at_ j hlt
        clear hb ha
        cases hq : flMark n (b.marks.getD j (0, 0))
        · have HF : Hid (r = false) := Lib.hid (by rw [← HR.out, all_not _ _ j hjl hq]; rfl)
          have HQ := Lib.hid hq
          generalize (b.marks.getD j (0, 0)) = p at *
          obtain ⟨x, y⟩ := p
          clear hq
          go_wp2_with (go_at_call 39; refine (mayMark_is _ _ _ _ _ _ _ _ _ _ _ _ HQ.out _).mono ?_; rintro e w2 ⟨rfl, hb2⟩)
          go_ret
          exact ⟨by rw [HF.out]; rfl, below_then HB.out (below_then HW.out (below_then (below_one _ _) hb2))⟩
        · have HF : Hid ((b.marks.take (j + 1)).all (flMark n) = true) := Lib.hid (by rw [all_next _ _ j hjl, HA.out, hq]; rfl)
          have HQ := Lib.hid hq
          generalize (b.marks.getD j (0, 0)) = p at *
          obtain ⟨x, y⟩ := p
          clear hq
          go_wp2_with (go_at_call 39; refine (mayMark_is _ _ _ _ _ _ _ _ _ _ _ _ HQ.out _).mono ?_; rintro e w2 ⟨rfl, hb2⟩)
          go_roundw
          case rel => exact ⟨j + 1, by omega, by go_num, HF.out, below_then HW.out (below_then (below_one _ _) hb2)⟩
          case measure => simp [intOf]; omega
      · obtain rfl : j = m := by omega
        have hHR := HR.out
        rw [show b.marks.all (flMark n) = true by rw [← HA.out, List.take_of_length_le (by have := H2.out.len; omega)]] at hHR
        have HS := Lib.hid hHR
        clear hHR HR HA ha hb
        go_wp2_with (go_at_call 40; refine (deep_any _ _ _ _ _ _ _ _ _ _ _ (by omega) (H2.out.below HW.out)).mono ?_; rintro e w2 ⟨rfl, hb2⟩; have HW2 := Lib.hid (below_then HW.out hb2); have d0 := (X.out.keep HW2.out).c0; have d1 := (X.out.keep HW2.out).c1; have d2 := (X.out.keep HW2.out).c2; clear hb2)
        have hdl : flDeep b.marks ≤ 100000 := by have := flDeep_le b.marks; have h2 := H2.out.len; omega
        generalize flDeep b.marks = D at *
        clear c0 c1 c2 d0 d1 d2
        go_loopw [29] (fun i wr => ∃ q : Nat, q ≤ k ∧ i = .int .i64 q ∧ (b.outs.take q).all (flOut D n) = true ∧ Below w1.heap.size w1 wr) (fun i _ => ((k : Int) - intOf i).toNat)
        case atStart => exact ⟨0, by omega, rfl, rfl, HW2.out⟩
        case round =>
          obtain ⟨q, hq0, rfl, ha, hb⟩ := hrel
          have HV := Lib.hid hb
          have HA := Lib.hid ha
          have c0 := (X.out.keep hb).c0
          have hgl2 : w.heap.size < wr.heap.size := (X.out.keep hb).lt
          by_cases hlt2 : q < k
          · have hql : q < b.outs.length := by have := H3.out.len; omega
            obtain ⟨mb, mo, rfl, hbl, e0, e1⟩ := (H3.out.below hb).at_ q hlt2
            clear hb ha
            have HN := Lib.hid (all_next (flOut D n) _ q hql)
            have HF := Lib.hid (all_not (flOut D n) _ q hql)
            generalize (b.outs.getD q (0, 0)) = p at *
            obtain ⟨x, y⟩ := p
            by_cases hx : x < 1
            · have hd : decide (x < 1) = true := decide_eq_true hx
              have HG : Hid (r = false) := Lib.hid (by rw [← HS.out, HF.out (by unfold flOut; rw [decide_eq_false (by omega)]; rfl)]; rfl)
              go_wp2
              go_ret
              exact ⟨by rw [HG.out]; rfl, below_then HB.out (below_then HV.out (below_one _ _))⟩
            · have hd : decide (x < 1) = false := decide_eq_false hx
              by_cases hx2 : (D : Int) < x
              · have hd2 : decide ((D : Int) < x) = true := decide_eq_true hx2
                have HG : Hid (r = false) := Lib.hid (by rw [← HS.out, HF.out (by unfold flOut; rw [decide_eq_false (by omega)]; rfl)]; rfl)
                go_wp2
                go_ret
                exact ⟨by rw [HG.out]; rfl, below_then HB.out (below_then HV.out (below_one _ _))⟩
              · have hd2 : decide ((D : Int) < x) = false := decide_eq_false hx2
                cases hy : flThere n y
                · have HG : Hid (r = false) := Lib.hid (by rw [← HS.out, HF.out (by unfold flOut; rw [hy]; simp)]; rfl)
                  have HY := Lib.hid hy
                  clear hy
                  go_wp2_with (go_at_call 41; refine (there_is _ _ _ _ _ HY.out _).mono ?_; rintro e w3 ⟨rfl, rfl⟩)
                  go_ret
                  exact ⟨by rw [HG.out]; rfl, below_then HB.out (below_then HV.out (below_one _ _))⟩
                · have HG : Hid ((b.outs.take (q + 1)).all (flOut D n) = true) := Lib.hid (by rw [HN.out, HA.out]; unfold flOut; rw [hy, decide_eq_true (by omega)]; rfl)
                  have HY := Lib.hid hy
                  clear hy
                  go_wp2_with (go_at_call 41; refine (there_is _ _ _ _ _ HY.out _).mono ?_; rintro e w3 ⟨rfl, rfl⟩)
                  go_roundw
                  case rel => exact ⟨q + 1, by omega, by go_num, HG.out, below_then HV.out (below_one _ _)⟩
                  case measure => simp [intOf]; omega
          · obtain rfl : q = k := by omega
            have HG : Hid (r = true) := Lib.hid (by rw [← HS.out, ← HA.out, List.take_of_length_le (by have := H3.out.len; omega)]; simp)
            clear hb ha
            go_wp2
            go_ret
            exact ⟨by rw [HG.out]; rfl, below_then HB.out HV.out⟩

set_option maxHeartbeats 400000 in
theorem sound_any (A B C : Option Addr) (n c m d k f : Nat) (b : Bd) (w : World) (hF : Few 100000 b) (h : Bl w A n c B m d C k f b) :
    Calls Try.prog 26 #[.agg #[.slice A n c, .slice B m d, .slice C k f]] w (BdPost w (flSnd b)) := by
  obtain ⟨hn, hm, hk⟩ := h.ns hF
  have HC := Lib.hid (fun W hb r hr => sane_any A B C n c m d k f b r hr W hm hk h.1.len (h.2.1.below hb) (h.2.2.below hb))
  have H := Lib.hid h
  clear h hF
  have X1 := Lib.hid ((Bx.new w 30 (.slice A n c) (.slice B m d) (.slice C k f)).alloc (.cells #[.slice none 0 0, .slice none 0 0, .slice none 0 0] 30))
  have X2 := Lib.hid (Bx.new2 w (.cells #[.slice A n c, .slice B m d, .slice C k f] 30) 30 (.slice none 0 0) (.slice none 0 0) (.slice none 0 0))
  cases hs : flSane b
  · have HS := Lib.hid hs
    clear hs
    go_enter Try.func26, Try.ntmps26
    go_wp2_with (go_at_call 21; refine (HC.out _ (below_two _ _ _) _ HS.out).mono ?_; rintro e w1 ⟨rfl, hb⟩; have HB := Lib.hid (below_then (below_two _ _ _) hb); have Y2 := Lib.hid (X2.out.keep hb); clear hb; have d0 := Y2.out.c0; have d1 := Y2.out.c1; have d2 := Y2.out.c2; have f0 := Y2.out.f0; have f1 := Y2.out.f1; have f2 := Y2.out.f2)
    refine bodyPost_ret (v := .agg #[.slice none 0 0, .slice none 0 0, .slice none 0 0]) (by simp [results, Try.results26, go_sem, d0, d1, d2]) rfl ⟨_, _, _, _, _, _, _, _, _, rfl, ?_, ?_⟩
    · unfold flSnd
      rw [HS.out]
      exact Bl.nil
    · exact below_set3 HB.out (by simp) _ _ _
  · have HS := Lib.hid hs
    clear hs
    go_enter Try.func26, Try.ntmps26
    go_wp2_with (go_at_call 21; refine (HC.out _ (below_two _ _ _) _ HS.out).mono ?_; rintro e w1 ⟨rfl, hb⟩; have HB := Lib.hid (below_then (below_two _ _ _) hb); have Y1 := Lib.hid (X1.out.keep hb); have Y2 := Lib.hid (X2.out.keep hb); clear hb; have c0 := Y1.out.c0; have c1 := Y1.out.c1; have c2 := Y1.out.c2; have d0 := Y2.out.c0; have d1 := Y2.out.c1; have d2 := Y2.out.c2; have f0 := Y2.out.f0; have f1 := Y2.out.f1; have f2 := Y2.out.f2)
    refine bodyPost_ret (v := .agg #[.slice A n c, .slice B m d, .slice C k f]) (by simp [results, Try.results26, go_sem, d0, d1, d2]) rfl ⟨_, _, _, _, _, _, _, _, _, rfl, ?_, ?_⟩
    · unfold flSnd
      rw [HS.out]
      exact (H.out.below HB.out).set3 Y2.out
    · exact below_set3 HB.out (by simp) _ _ _
end Go.Proofs.Ytkcpmjccggfpiaa
