/-
  What the words LEAVE and REPEAT do to any thread that is sane.
-/
import Derived.Test.YtkcpmjccggfpiaaFlowWords
namespace Go.Proofs.Ytkcpmjccggfpiaa
open Go.RowKit

theorem lay_two (b : Bd) (x : List (Int × Int)) : ((layB b x).code.length : Int) - 1 = ((layB b x).code.length - 1 : Int) := rfl
set_option maxHeartbeats 1000000 in
theorem doLeave_any (A B C : Option Addr) (n c m d k f : Nat) (b : Bd) (w : World) (hF : Few 30000 b) (hS : flSane b = true) (h : Bl w A n c B m d C k f b) :
    Calls Try.prog 56 #[.agg #[.slice A n c, .slice B m d, .slice C k f]] w (BtPost w (wdB b .leave) (wdE b .leave)) := by
  have HF := Lib.hid hF
  have HS := Lib.hid hS
  clear hS
  obtain ⟨hn, hm, hk⟩ := h.ns hF
  have LC := Lib.hid h.1.len
  have LM := Lib.hid h.2.1.len
  have LO := Lib.hid h.2.2.len
  have H := Lib.hid h
  clear h hF
  have X1 := Lib.hid ((Bx.new w 30 (.slice A n c) (.slice B m d) (.slice C k f)).alloc (.cells #[.slice none 0 0, .slice none 0 0, .slice none 0 0] 30))
  have X2 := Lib.hid (Bx.new2 w (.cells #[.slice A n c, .slice B m d, .slice C k f] 30) 30 (.slice none 0 0) (.slice none 0 0) (.slice none 0 0))
  have HB := Lib.hid (below_two w (.cells #[.slice A n c, .slice B m d, .slice C k f] 30) (.cells #[.slice none 0 0, .slice none 0 0, .slice none 0 0] 30))
  go_enter Try.func56, Try.ntmps56
  go_upto_region 1 with (fail)
  generalize (w.alloc (.cells #[.slice A n c, .slice B m d, .slice C k f] 30)).alloc (.cells #[.slice none 0 0, .slice none 0 0, .slice none 0 0] 30) = W at *
  have hg1 : w.heap.size < W.heap.size := X1.out.lt
  have hg2 : w.heap.size + 1 < W.heap.size := X2.out.lt
  have HL := Lib.hid (H.out.below HB.out)
  have a0 := X1.out.c0; have a1 := X1.out.c1; have a2 := X1.out.c2; have af0 := X1.out.f0; have af1 := X1.out.f1; have af2 := X1.out.f2
  have z0 := X2.out.c0; have z1 := X2.out.c1; have z2 := X2.out.c2; have zf0 := X2.out.f0; have zf1 := X2.out.f1; have zf2 := X2.out.f2
  cases hD : (flDeep b.marks == 0)
  · have HD := Lib.hid hD
    clear hD
    have hnz : ((flDeep b.marks : Int) == 0) = false := by have := HD.out; simp at this ⊢; exact this
    go_upto_region 4 with (first
      | (go_at_call 40; refine (deep_any _ _ _ _ _ _ _ _ _ b.marks _ (by omega) HL.out.pm).mono ?_; rintro e w0 ⟨rfl, hb0⟩; have HB0 := Lib.hid hb0; clear hb0; have K1 := Lib.hid (X1.out.keep HB0.out); have K2 := Lib.hid (X2.out.keep HB0.out); clear a0 a1 a2 af0 af1 af2 z0 z1 z2 zf0 zf1 zf2; have a0 := K1.out.c0; have a1 := K1.out.c1; have a2 := K1.out.c2; have af0 := K1.out.f0; have af1 := K1.out.f1; have af2 := K1.out.f2; have z0 := K2.out.c0; have z1 := K2.out.c1; have z2 := K2.out.c2; have zf0 := K2.out.f0; have zf1 := K2.out.f1; have zf2 := K2.out.f2)
      | (go_at_call 27; refine (lay_any _ _ _ _ _ _ _ _ _ b _ _ _ [(9, 0), (1, 0)] _ (HF.out.mono (by omega)) (by omega) ((HL.out.below HB0.out).alloc _) (Prs.new2 _ _ 9 0 1 0)).mono ?_; rintro e w1 ⟨A1, n1, c1, B1, m1, d1, C1, k1, f1, rfl, h1, hb1⟩; have HB1 := Lib.hid (below_new hb1); have H1 := Lib.hid h1; clear h1 hb1; have Y1 := Lib.hid (K1.out.keep HB1.out); have Y2 := Lib.hid (K2.out.keep HB1.out); clear a0 a1 a2 af0 af1 af2 z0 z1 z2 zf0 zf1 zf2; have a0 := Y1.out.c0; have a1 := Y1.out.c1; have a2 := Y1.out.c2; have af0 := Y1.out.f0; have af1 := Y1.out.f1; have af2 := Y1.out.f2; have z0 := Y2.out.c0; have z1 := Y2.out.c1; have z2 := Y2.out.c2; have zf0 := Y2.out.f0; have zf1 := Y2.out.f1; have zf2 := Y2.out.f2; have hY1 := Y1.out.lt; have hY2 := Y2.out.lt))
    have Q1 := Lib.hid (Y1.out.set3 (.slice A1 n1 c1) (.slice B1 m1 d1) (.slice C1 k1 f1))
    have Q2 := Lib.hid (Y2.out.other3 (g' := w.heap.size) (by simp) (.slice A1 n1 c1) (.slice B1 m1 d1) (.slice C1 k1 f1))
    have QB := Lib.hid (below_set3 (g := w.heap.size) (below_then HB.out (below_then HB0.out HB1.out)) (Nat.le_refl _) (.slice A1 n1 c1) (.slice B1 m1 d1) (.slice C1 k1 f1))
    have HQ := Lib.hid (H1.out.set3 Y1.out (B1 := A1) (p1 := n1) (e1 := c1) (B2 := B1) (p2 := m1) (e2 := d1) (B3 := C1) (p3 := k1) (e3 := f1))
    generalize (((w1.setCell ⟨w.heap.size, 0, none⟩ (.slice A1 n1 c1)).setCell ⟨w.heap.size, 1, none⟩ (.slice B1 m1 d1)).setCell ⟨w.heap.size, 2, none⟩ (.slice C1 k1 f1)) = W1 at *
    clear a0 a1 a2 af0 af1 af2 z0 z1 z2 zf0 zf1 zf2
    have a0 := Q1.out.c0; have a1 := Q1.out.c1; have a2 := Q1.out.c2; have af0 := Q1.out.f0; have af1 := Q1.out.f1; have af2 := Q1.out.f2
    have z0 := Q2.out.c0; have z1 := Q2.out.c1; have z2 := Q2.out.c2; have zf0 := Q2.out.f0; have zf1 := Q2.out.f1; have zf2 := Q2.out.f2
    have hQ1 := Q1.out.lt; have hQ2 := Q2.out.lt
    have hsub : wrap64 ((n1 : Int) - 1) = (n1 : Int) - 1 := by
      have h1 := H1.out.pc.len
      have h2 := lay_len b [(9, 0), (1, 0)]
      have h3 := (HF.out.lay (x := [(9, 0), (1, 0)]) (by simp)).1
      unfold wrap64
      omega
    go_wp2_with (go_at_call 69; refine (out_any _ _ _ _ _ _ _ _ _ (layB b [(9, 0), (1, 0)]) ((n1 : Int) - 1) _ ((HF.out.lay (by simp)).mono (by omega)) HQ.out).mono ?_; rintro e w2 ⟨A2, n2, c2, B2, m2, d2, C2, k2, f2, rfl, h2, hb2⟩; have HB2 := Lib.hid (hb2); have H2 := Lib.hid h2; clear h2 hb2; have T1 := Lib.hid (Q1.out.keep HB2.out); have T2 := Lib.hid (Q2.out.keep HB2.out); clear a0 a1 a2 af0 af1 af2 z0 z1 z2 zf0 zf1 zf2; have a0 := T1.out.c0; have a1 := T1.out.c1; have a2 := T1.out.c2; have af0 := T1.out.f0; have af1 := T1.out.f1; have af2 := T1.out.f2; have z0 := T2.out.c0; have z1 := T2.out.c1; have z2 := T2.out.c2; have zf0 := T2.out.f0; have zf1 := T2.out.f1; have zf2 := T2.out.f2; have hT1 := T1.out.lt; have hT2 := T2.out.lt)
    refine bodyPost_ret (v := .tuple #[.agg #[.slice A2 n2 c2, .slice B2 m2 d2, .slice C2 k2 f2], .int .i64 (layE b 2)]) (by simp [results, Try.results56, go_sem, z0, z1, z2] <;> rfl) rfl (bt_fin (H2.out.set3 T2.out) (below_set3 (below_then QB.out HB2.out) (by simp) _ _ _) (by have h0 := HD.out; simp at h0; simp only [wdB]; rw [if_neg h0, H1.out.pc.len]) (by have h0 := HD.out; simp at h0; simp only [wdE]; rw [if_neg h0]))
  · have HD := Lib.hid hD
    clear hD
    have hnz : ((flDeep b.marks : Int) == 0) = true := by have := HD.out; simp at this ⊢; exact this
    go_wp2_with (go_at_call 40; refine (deep_any _ _ _ _ _ _ _ _ _ b.marks _ (by omega) HL.out.pm).mono ?_; rintro e w0 ⟨rfl, hb0⟩; have HB0 := Lib.hid hb0; clear hb0; have K1 := Lib.hid (X1.out.keep HB0.out); have K2 := Lib.hid (X2.out.keep HB0.out); clear a0 a1 a2 af0 af1 af2 z0 z1 z2 zf0 zf1 zf2; have a0 := K1.out.c0; have a1 := K1.out.c1; have a2 := K1.out.c2; have af0 := K1.out.f0; have af1 := K1.out.f1; have af2 := K1.out.f2; have z0 := K2.out.c0; have z1 := K2.out.c1; have z2 := K2.out.c2; have zf0 := K2.out.f0; have zf1 := K2.out.f1; have zf2 := K2.out.f2)
    refine bodyPost_ret (v := .tuple #[.agg #[.slice A n c, .slice B m d, .slice C k f], .int .i64 (-22)]) (by simp [results, Try.results56, go_sem, z0, z1, z2] <;> rfl) rfl (bt_fin ((HL.out.below HB0.out).set3 K2.out) (below_set3 (below_then HB.out HB0.out) (by simp) _ _ _) (by have h0 := HD.out; simp at h0; simp only [wdB]; rw [if_pos h0]) (by have h0 := HD.out; simp at h0; simp only [wdE]; rw [if_pos h0]))

theorem sane_orig2 (b : Bd) (hs : flSane b = true) (h : topK (takeB b) = 1) : flThere b.code.length (topA (takeB b)) = true := by
  have hm := top_mem (takeB b) (by omega)
  have hm2 : (topK (takeB b), topA (takeB b)) ∈ b.marks := (List.dropLast_sublist _).subset hm
  unfold flSane at hs
  simp only [Bool.and_eq_true, List.all_eq_true] at hs
  have := hs.1.2 _ hm2
  unfold flMark at this
  simp [h] at this
  exact this
set_option maxHeartbeats 1000000 in
theorem doRepeat_any (A B C : Option Addr) (n c m d k f : Nat) (b : Bd) (w : World) (hF : Few 30000 b) (hS : flSane b = true) (h : Bl w A n c B m d C k f b) :
    Calls Try.prog 51 #[.agg #[.slice A n c, .slice B m d, .slice C k f]] w (BtPost w (wdB b .repeat_) (wdE b .repeat_)) := by
  have HF := Lib.hid hF
  have HS := Lib.hid hS
  clear hS
  obtain ⟨hn, hm, hk⟩ := h.ns hF
  have LC := Lib.hid h.1.len
  have LM := Lib.hid h.2.1.len
  have LO := Lib.hid h.2.2.len
  have H := Lib.hid h
  clear h hF
  have X1 := Lib.hid ((Bx.new w 30 (.slice A n c) (.slice B m d) (.slice C k f)).alloc (.cells #[.slice none 0 0, .slice none 0 0, .slice none 0 0] 30))
  have X2 := Lib.hid (Bx.new2 w (.cells #[.slice A n c, .slice B m d, .slice C k f] 30) 30 (.slice none 0 0) (.slice none 0 0) (.slice none 0 0))
  have HB := Lib.hid (below_two w (.cells #[.slice A n c, .slice B m d, .slice C k f] 30) (.cells #[.slice none 0 0, .slice none 0 0, .slice none 0 0] 30))
  go_enter Try.func51, Try.ntmps51
  go_upto_region 1 with (fail)
  generalize (w.alloc (.cells #[.slice A n c, .slice B m d, .slice C k f] 30)).alloc (.cells #[.slice none 0 0, .slice none 0 0, .slice none 0 0] 30) = W at *
  have hg1 : w.heap.size < W.heap.size := X1.out.lt
  have hg2 : w.heap.size + 1 < W.heap.size := X2.out.lt
  have HL := Lib.hid (H.out.below HB.out)
  have a0 := X1.out.c0; have a1 := X1.out.c1; have a2 := X1.out.c2; have af0 := X1.out.f0; have af1 := X1.out.f1; have af2 := X1.out.f2
  have z0 := X2.out.c0; have z1 := X2.out.c1; have z2 := X2.out.c2; have zf0 := X2.out.f0; have zf1 := X2.out.f1; have zf2 := X2.out.f2
  by_cases ht : topK b = 2
  · have HK := Lib.hid ht
    clear ht
    go_upto_region 2 with ((go_at_call 64; refine (take_yes _ _ _ _ _ _ _ _ _ b 2 _ (HF.out.mono (by omega)) HK.out (by decide) HL.out).mono ?_; rintro e w1 ⟨A1, n1, c1, B1, m1, d1, C1, k1, f1, rfl, h1, hb1⟩; have HB1 := Lib.hid (hb1); have H1 := Lib.hid h1; clear h1 hb1; have Y1 := Lib.hid (X1.out.keep HB1.out); have Y2 := Lib.hid (X2.out.keep HB1.out); clear a0 a1 a2 af0 af1 af2 z0 z1 z2 zf0 zf1 zf2; have a0 := Y1.out.c0; have a1 := Y1.out.c1; have a2 := Y1.out.c2; have af0 := Y1.out.f0; have af1 := Y1.out.f1; have af2 := Y1.out.f2; have z0 := Y2.out.c0; have z1 := Y2.out.c1; have z2 := Y2.out.c2; have zf0 := Y2.out.f0; have zf1 := Y2.out.f1; have zf2 := Y2.out.f2; have hY1 := Y1.out.lt; have hY2 := Y2.out.lt; have U1 := Lib.hid (Y1.out.set3 (.slice A1 n1 c1) (.slice B1 m1 d1) (.slice C1 k1 f1)); have U2 := Lib.hid (Y2.out.other3 (g' := w.heap.size) (by simp) (.slice A1 n1 c1) (.slice B1 m1 d1) (.slice C1 k1 f1)); have UB := Lib.hid (below_set3 (g := w.heap.size) (below_then HB.out HB1.out) (Nat.le_refl _) (.slice A1 n1 c1) (.slice B1 m1 d1) (.slice C1 k1 f1))))
    have V1 := Lib.hid (U1.out.alloc (.cells #[.int .i64 2, .int .i64 (topA b)] 62))
    have V2 := Lib.hid (U2.out.alloc (.cells #[.int .i64 2, .int .i64 (topA b)] 62))
    have VP := Lib.hid (Px.new_set3 w1 w.heap.size 62 (.int .i64 2) (.int .i64 (topA b)) (.slice A1 n1 c1) (.slice B1 m1 d1) (.slice C1 k1 f1))
    have VB := Lib.hid (UB.out.alloc UB.out.size (.cells #[.int .i64 2, .int .i64 (topA b)] 62))
    have HV := Lib.hid ((H1.out.set3 Y1.out (B1 := A1) (p1 := n1) (e1 := c1) (B2 := B1) (p2 := m1) (e2 := d1) (B3 := C1) (p3 := k1) (e3 := f1)).alloc (.cells #[.int .i64 2, .int .i64 (topA b)] 62))
    have hP1 : w1.heap.size < ((((w1.setCell ⟨w.heap.size, 0, none⟩ (.slice A1 n1 c1)).setCell ⟨w.heap.size, 1, none⟩ (.slice B1 m1 d1)).setCell ⟨w.heap.size, 2, none⟩ (.slice C1 k1 f1)).alloc (.cells #[.int .i64 2, .int .i64 (topA b)] 62)).heap.size := VP.out.lt
    generalize (((w1.setCell ⟨w.heap.size, 0, none⟩ (.slice A1 n1 c1)).setCell ⟨w.heap.size, 1, none⟩ (.slice B1 m1 d1)).setCell ⟨w.heap.size, 2, none⟩ (.slice C1 k1 f1)).alloc (.cells #[.int .i64 2, .int .i64 (topA b)] 62) = W1 at *
    have hd11 : ¬ w1.heap.size = w.heap.size := by omega
    have hd21 : ¬ w1.heap.size = w.heap.size + 1 := by omega
    clear a0 a1 a2 af0 af1 af2 z0 z1 z2 zf0 zf1 zf2
    have a0 := V1.out.c0; have a1 := V1.out.c1; have a2 := V1.out.c2; have af0 := V1.out.f0; have af1 := V1.out.f1; have af2 := V1.out.f2
    have z0 := V2.out.c0; have z1 := V2.out.c1; have z2 := V2.out.c2; have zf0 := V2.out.f0; have zf1 := V2.out.f1; have zf2 := V2.out.f2
    have p10 := VP.out.c0; have p11 := VP.out.c1; have hV1 := V1.out.lt; have hV2 := V2.out.lt
    by_cases ht2 : topK (takeB b) = 1
    · have HK2 := Lib.hid ht2
      clear ht2
      go_upto_region 5 with ((go_at_call 64; refine (take_yes _ _ _ _ _ _ _ _ _ (takeB b) 1 _ (HF.out.take.mono (by omega)) HK2.out (by decide) HV.out).mono ?_; rintro e w2 ⟨A2, n2, c2, B2, m2, d2, C2, k2, f2, rfl, h2, hb2⟩; have HB2 := Lib.hid (hb2); have H2 := Lib.hid h2; clear h2 hb2; have Z1 := Lib.hid (V1.out.keep HB2.out); have Z2 := Lib.hid (V2.out.keep HB2.out); clear a0 a1 a2 af0 af1 af2 z0 z1 z2 zf0 zf1 zf2; have a0 := Z1.out.c0; have a1 := Z1.out.c1; have a2 := Z1.out.c2; have af0 := Z1.out.f0; have af1 := Z1.out.f1; have af2 := Z1.out.f2; have z0 := Z2.out.c0; have z1 := Z2.out.c1; have z2 := Z2.out.c2; have zf0 := Z2.out.f0; have zf1 := Z2.out.f1; have zf2 := Z2.out.f2; have hZ1 := Z1.out.lt; have hZ2 := Z2.out.lt; have PK := Lib.hid (VP.out.keep HB2.out); have pk1 := PK.out.c1; have S1 := Lib.hid (Z1.out.set3 (.slice A2 n2 c2) (.slice B2 m2 d2) (.slice C2 k2 f2)); have S2 := Lib.hid (Z2.out.other3 (g' := w.heap.size) (by simp) (.slice A2 n2 c2) (.slice B2 m2 d2) (.slice C2 k2 f2)); have SB := Lib.hid (below_set3 (g := w.heap.size) (below_then VB.out HB2.out) (Nat.le_refl _) (.slice A2 n2 c2) (.slice B2 m2 d2) (.slice C2 k2 f2))))
      have PV := Lib.hid ((PK.out.other3 (g' := w.heap.size) hd11 (.slice A2 n2 c2) (.slice B2 m2 d2) (.slice C2 k2 f2)).alloc (.cells #[.int .i64 1, .int .i64 (topA (takeB b))] 62))
      have Q1 := Lib.hid (S1.out.alloc (.cells #[.int .i64 1, .int .i64 (topA (takeB b))] 62))
      have Q2 := Lib.hid (S2.out.alloc (.cells #[.int .i64 1, .int .i64 (topA (takeB b))] 62))
      have QP := Lib.hid (Px.new_set3 w2 w.heap.size 62 (.int .i64 1) (.int .i64 (topA (takeB b))) (.slice A2 n2 c2) (.slice B2 m2 d2) (.slice C2 k2 f2))
      have QB := Lib.hid (SB.out.alloc SB.out.size (.cells #[.int .i64 1, .int .i64 (topA (takeB b))] 62))
      have HQ := Lib.hid ((H2.out.set3 Z1.out (B1 := A2) (p1 := n2) (e1 := c2) (B2 := B2) (p2 := m2) (e2 := d2) (B3 := C2) (p3 := k2) (e3 := f2)).alloc (.cells #[.int .i64 1, .int .i64 (topA (takeB b))] 62))
      have hP2 : w2.heap.size < ((((w2.setCell ⟨w.heap.size, 0, none⟩ (.slice A2 n2 c2)).setCell ⟨w.heap.size, 1, none⟩ (.slice B2 m2 d2)).setCell ⟨w.heap.size, 2, none⟩ (.slice C2 k2 f2)).alloc (.cells #[.int .i64 1, .int .i64 (topA (takeB b))] 62)).heap.size := QP.out.lt
      generalize (((w2.setCell ⟨w.heap.size, 0, none⟩ (.slice A2 n2 c2)).setCell ⟨w.heap.size, 1, none⟩ (.slice B2 m2 d2)).setCell ⟨w.heap.size, 2, none⟩ (.slice C2 k2 f2)).alloc (.cells #[.int .i64 1, .int .i64 (topA (takeB b))] 62) = W2 at *
      have hd12 : ¬ w2.heap.size = w.heap.size := by omega
      have hd22 : ¬ w2.heap.size = w.heap.size + 1 := by omega
      clear a0 a1 a2 af0 af1 af2 z0 z1 z2 zf0 zf1 zf2
      have a0 := Q1.out.c0; have a1 := Q1.out.c1; have a2 := Q1.out.c2; have af0 := Q1.out.f0; have af1 := Q1.out.f1; have af2 := Q1.out.f2
      have z0 := Q2.out.c0; have z1 := Q2.out.c1; have z2 := Q2.out.c2; have zf0 := Q2.out.f0; have zf1 := Q2.out.f1; have zf2 := Q2.out.f2
      have p20 := QP.out.c0; have p21 := QP.out.c1; have hQ1 := Q1.out.lt; have hQ2 := Q2.out.lt
      have pv1 := PV.out.c1
      have hpv := PV.out.lt
      go_upto_region 8 with (go_at_call 27; refine (lay_any _ _ _ _ _ _ _ _ _ (takeB (takeB b)) _ _ _ [(1, topA b)] _ (HF.out.take.take.mono (by omega)) (by omega) (HQ.out.alloc _) (Prs.new1 _ _ 1 (topA b))).mono ?_; rintro e w3 ⟨A3, n3, c3, B3, m3, d3, C3, k3, f3, rfl, h3, hb3⟩; have HB3 := Lib.hid (below_new hb3); have H3 := Lib.hid h3; clear h3 hb3; have I1 := Lib.hid (Q1.out.keep HB3.out); have I2 := Lib.hid (Q2.out.keep HB3.out); clear a0 a1 a2 af0 af1 af2 z0 z1 z2 zf0 zf1 zf2; have a0 := I1.out.c0; have a1 := I1.out.c1; have a2 := I1.out.c2; have af0 := I1.out.f0; have af1 := I1.out.f1; have af2 := I1.out.f2; have z0 := I2.out.c0; have z1 := I2.out.c1; have z2 := I2.out.c2; have zf0 := I2.out.f0; have zf1 := I2.out.f1; have zf2 := I2.out.f2; have hI1 := I1.out.lt; have hI2 := I2.out.lt)
      have J1 := Lib.hid (I1.out.set3 (.slice A3 n3 c3) (.slice B3 m3 d3) (.slice C3 k3 f3))
      have J2 := Lib.hid (I2.out.other3 (g' := w.heap.size) (by simp) (.slice A3 n3 c3) (.slice B3 m3 d3) (.slice C3 k3 f3))
      have JB := Lib.hid (below_set3 (g := w.heap.size) (below_then QB.out HB3.out) (Nat.le_refl _) (.slice A3 n3 c3) (.slice B3 m3 d3) (.slice C3 k3 f3))
      have HJ := Lib.hid (H3.out.set3 I1.out (B1 := A3) (p1 := n3) (e1 := c3) (B2 := B3) (p2 := m3) (e2 := d3) (B3 := C3) (p3 := k3) (e3 := f3))
      have JP := Lib.hid ((QP.out.keep HB3.out).other3 (g' := w.heap.size) hd12 (.slice A3 n3 c3) (.slice B3 m3 d3) (.slice C3 k3 f3))
      generalize (((w3.setCell ⟨w.heap.size, 0, none⟩ (.slice A3 n3 c3)).setCell ⟨w.heap.size, 1, none⟩ (.slice B3 m3 d3)).setCell ⟨w.heap.size, 2, none⟩ (.slice C3 k3 f3)) = W3 at *
      clear a0 a1 a2 af0 af1 af2 z0 z1 z2 zf0 zf1 zf2
      have a0 := J1.out.c0; have a1 := J1.out.c1; have a2 := J1.out.c2; have af0 := J1.out.f0; have af1 := J1.out.f1; have af2 := J1.out.f2
      have z0 := J2.out.c0; have z1 := J2.out.c1; have z2 := J2.out.c2; have zf0 := J2.out.f0; have zf1 := J2.out.f1; have zf2 := J2.out.f2
      have hJ1 := J1.out.lt; have hJ2 := J2.out.lt
      have cJP := JP.out.c1
      go_wp2_with (go_at_call 65; refine (resolve_any _ _ _ _ _ _ _ _ _ (layB (takeB (takeB b)) [(1, topA b)]) _ _ _ [topA (takeB b)] _ ((HF.out.take.take.lay (by simp)).mono (by omega)) (by omega) (HJ.out.alloc _) (Ints.new1 _ _ _) (by intro a ha; simp at ha; subst ha; exact flThere_mono (sane_orig2 b HS.out HK2.out) (lay_len (takeB (takeB b)) _))).mono ?_; rintro e w4 ⟨A4, n4, c4, B4, m4, d4, C4, k4, f4, rfl, h4, hb4⟩; have HB4 := Lib.hid (below_new hb4); have H4 := Lib.hid h4; clear h4 hb4; have T1 := Lib.hid (J1.out.keep HB4.out); have T2 := Lib.hid (J2.out.keep HB4.out); clear a0 a1 a2 af0 af1 af2 z0 z1 z2 zf0 zf1 zf2; have a0 := T1.out.c0; have a1 := T1.out.c1; have a2 := T1.out.c2; have af0 := T1.out.f0; have af1 := T1.out.f1; have af2 := T1.out.f2; have z0 := T2.out.c0; have z1 := T2.out.c1; have z2 := T2.out.c2; have zf0 := T2.out.f0; have zf1 := T2.out.f1; have zf2 := T2.out.f2; have hT1 := T1.out.lt; have hT2 := T2.out.lt)
      refine bodyPost_ret (v := .tuple #[.agg #[.slice A4 n4 c4, .slice B4 m4 d4, .slice C4 k4 f4], .int .i64 (layE (takeB (takeB b)) 1)]) (by simp [results, Try.results51, go_sem, z0, z1, z2] <;> rfl) rfl (bt_fin (H4.out.set3 T2.out) (below_set3 (below_then JB.out HB4.out) (by simp) _ _ _) (by simp only [wdB]; rw [if_pos HK.out, if_pos HK2.out]) (by simp only [wdE]; rw [if_pos HK.out, if_pos HK2.out]; rfl))
    · have HK2 := Lib.hid ht2
      clear ht2
      go_wp2_with ((go_at_call 64; refine (take_no _ _ _ _ _ _ _ _ _ (takeB b) 1 _ (HF.out.take.mono (by omega)) HK2.out HV.out).mono ?_; rintro e w2 ⟨A2, n2, c2, B2, m2, d2, C2, k2, f2, rfl, h2, hb2⟩; have HB2 := Lib.hid (hb2); have H2 := Lib.hid h2; clear h2 hb2; have Z1 := Lib.hid (V1.out.keep HB2.out); have Z2 := Lib.hid (V2.out.keep HB2.out); clear a0 a1 a2 af0 af1 af2 z0 z1 z2 zf0 zf1 zf2; have a0 := Z1.out.c0; have a1 := Z1.out.c1; have a2 := Z1.out.c2; have af0 := Z1.out.f0; have af1 := Z1.out.f1; have af2 := Z1.out.f2; have z0 := Z2.out.c0; have z1 := Z2.out.c1; have z2 := Z2.out.c2; have zf0 := Z2.out.f0; have zf1 := Z2.out.f1; have zf2 := Z2.out.f2; have hZ1 := Z1.out.lt; have hZ2 := Z2.out.lt; have S1 := Lib.hid (Z1.out.set3 (.slice A2 n2 c2) (.slice B2 m2 d2) (.slice C2 k2 f2)); have S2 := Lib.hid (Z2.out.other3 (g' := w.heap.size) (by simp) (.slice A2 n2 c2) (.slice B2 m2 d2) (.slice C2 k2 f2)); have SB := Lib.hid (below_set3 (g := w.heap.size) (below_then VB.out HB2.out) (Nat.le_refl _) (.slice A2 n2 c2) (.slice B2 m2 d2) (.slice C2 k2 f2))))
      refine bodyPost_ret (v := .tuple #[.agg #[.slice A2 n2 c2, .slice B2 m2 d2, .slice C2 k2 f2], .int .i64 (-22)]) (by simp [results, Try.results51, go_sem, z0, z1, z2, hZ2] <;> rfl) rfl (bt_fin (((H2.out.set3 Z1.out (B1 := A2) (p1 := n2) (e1 := c2) (B2 := B2) (p2 := m2) (e2 := d2) (B3 := C2) (p3 := k2) (e3 := f2)).set3 S2.out).alloc _) ((below_set3 (g := w.heap.size + 1) SB.out (by omega) _ _ _).alloc (by have := SB.out.size; simpa [World.setCell] using this) _) (by simp only [wdB]; rw [if_pos HK.out, if_neg HK2.out]) (by simp only [wdE]; rw [if_pos HK.out, if_neg HK2.out]))
  · have HK := Lib.hid ht
    clear ht
    go_wp2_with (go_at_call 64; refine (take_no _ _ _ _ _ _ _ _ _ b 2 _ (HF.out.mono (by omega)) HK.out HL.out).mono ?_; rintro e w1 ⟨A1, n1, c1, B1, m1, d1, C1, k1, f1, rfl, h1, hb1⟩; have HB1 := Lib.hid hb1; have H1 := Lib.hid h1; clear h1 hb1; have Y1 := Lib.hid (X1.out.keep HB1.out); have Y2 := Lib.hid (X2.out.keep HB1.out); clear a0 a1 a2 af0 af1 af2 z0 z1 z2 zf0 zf1 zf2; have a0 := Y1.out.c0; have a1 := Y1.out.c1; have a2 := Y1.out.c2; have af0 := Y1.out.f0; have af1 := Y1.out.f1; have af2 := Y1.out.f2; have z0 := Y2.out.c0; have z1 := Y2.out.c1; have z2 := Y2.out.c2; have zf0 := Y2.out.f0; have zf1 := Y2.out.f1; have zf2 := Y2.out.f2; have hY1 := Y1.out.lt; have hY2 := Y2.out.lt; have U1 := Lib.hid (Y1.out.set3 (.slice A1 n1 c1) (.slice B1 m1 d1) (.slice C1 k1 f1)); have U2 := Lib.hid (Y2.out.other3 (g' := w.heap.size) (by simp) (.slice A1 n1 c1) (.slice B1 m1 d1) (.slice C1 k1 f1)); have UB := Lib.hid (below_set3 (g := w.heap.size) (below_then HB.out HB1.out) (Nat.le_refl _) (.slice A1 n1 c1) (.slice B1 m1 d1) (.slice C1 k1 f1)))
    refine bodyPost_ret (v := .tuple #[.agg #[.slice A1 n1 c1, .slice B1 m1 d1, .slice C1 k1 f1], .int .i64 (-22)]) (by simp [results, Try.results51, go_sem, z0, z1, z2, hY2] <;> rfl) rfl (bt_fin (((H1.out.set3 Y1.out (B1 := A1) (p1 := n1) (e1 := c1) (B2 := B1) (p2 := m1) (e2 := d1) (B3 := C1) (p3 := k1) (e3 := f1)).set3 U2.out).alloc _) ((below_set3 (g := w.heap.size + 1) UB.out (by omega) _ _ _).alloc (by have := UB.out.size; simpa [World.setCell] using this) _) (by simp only [wdB]; rw [if_neg HK.out]) (by simp only [wdE]; rw [if_neg HK.out]))
end Go.Proofs.Ytkcpmjccggfpiaa
