/-
  What the document's own calls answer: own, Emit, one.
-/
import Derived.Test.YtkcpmjccggfpiaaFlowRefB
namespace Go.Proofs.Ytkcpmjccggfpiaa
open Go.RowKit

theorem below_al {W w : World} (h : Below W.heap.size W w) (o : Obj) : Below W.heap.size W (w.alloc o) := h.alloc h.size o
set_option maxHeartbeats 4000000 in
theorem rown_any (A B C : Option Addr) (n c m d k f : Nat) (b : Bd) (w : World) (hF : Few 50000 b) (h : Bl w A n c B m d C k f b) :
    Calls Try.prog 28 #[.agg #[.slice A n c, .slice B m d, .slice C k f]] w (BdPost w (flSnd b)) := by
  have KS := Lib.hid (fun (r : Bool) (hr : flSane b = r) (w' : World) (h' : Bl w' A n c B m d C k f b) => rsane_any A B C n c m d k f b r hr w' hF h')
  obtain ⟨hn, hm, hk⟩ := h.ns hF
  have LC := Lib.hid h.1.len
  have LM := Lib.hid h.2.1.len
  have LO := Lib.hid h.2.2.len
  have H := Lib.hid h
  clear h hF
  have X1 := Lib.hid ((Bx.new w 25 (.slice A n c) (.slice B m d) (.slice C k f)).alloc (.cells #[.slice none 0 0, .slice none 0 0, .slice none 0 0] 25))
  have X2 := Lib.hid (Bx.new2 w (.cells #[.slice A n c, .slice B m d, .slice C k f] 25) 25 (.slice none 0 0) (.slice none 0 0) (.slice none 0 0))
  have HB := Lib.hid (below_two w (.cells #[.slice A n c, .slice B m d, .slice C k f] 25) (.cells #[.slice none 0 0, .slice none 0 0, .slice none 0 0] 25))
  go_enter Try.func28, Try.ntmps28
  go_upto_region 1 with (fail)
  generalize (w.alloc (.cells #[.slice A n c, .slice B m d, .slice C k f] 25)).alloc (.cells #[.slice none 0 0, .slice none 0 0, .slice none 0 0] 25) = W at *
  have hg1 : w.heap.size < W.heap.size := X1.out.lt
  have hg2 : w.heap.size + 1 < W.heap.size := X2.out.lt
  have HL := Lib.hid (H.out.below HB.out)
  have a0 := X1.out.c0; have a1 := X1.out.c1; have a2 := X1.out.c2; have af0 := X1.out.f0; have af1 := X1.out.f1; have af2 := X1.out.f2
  have z0 := X2.out.c0; have z1 := X2.out.c1; have z2 := X2.out.c2; have zf0 := X2.out.f0; have zf1 := X2.out.f1; have zf2 := X2.out.f2
  cases hs : flSane b
  · have HS := Lib.hid hs
    clear hs
    go_wp2_with (go_at_call 22; refine (KS.out _ HS.out _ HL.out).mono ?_; rintro e w1 ⟨rfl, hb1⟩; have HU := Lib.hid hb1; clear hb1; have U2 := Lib.hid (X2.out.keep HU.out); clear z0 z1 z2 zf0 zf1 zf2; have z0 := U2.out.c0; have z1 := U2.out.c1; have z2 := U2.out.c2; have zf0 := U2.out.f0; have zf1 := U2.out.f1; have zf2 := U2.out.f2; have hu2 := U2.out.lt)
    refine bodyPost_ret (v := .agg #[.slice none 0 0, .slice none 0 0, .slice none 0 0]) (by simp [results, Try.results28, go_sem, z0, z1, z2] <;> rfl) rfl (bd_fin (b' := flSnd b) (by unfold flSnd; rw [HS.out]; exact Bl.nil) (below_set3 (below_then HB.out HU.out) (by simp) _ _ _) rfl)
  · have HS := Lib.hid hs
    clear hs
    go_upto_region 3 with ((go_at_call 22; refine (KS.out _ HS.out _ HL.out).mono ?_; rintro e w1 ⟨rfl, hb1⟩; have HC := Lib.hid hb1; clear hb1; have U1 := Lib.hid (X1.out.keep HC.out); have U2 := Lib.hid (X2.out.keep HC.out); clear a0 a1 a2 af0 af1 af2 z0 z1 z2 zf0 zf1 zf2; have a0 := U1.out.c0; have a1 := U1.out.c1; have a2 := U1.out.c2; have af0 := U1.out.f0; have af1 := U1.out.f1; have af2 := U1.out.f2; have z0 := U2.out.c0; have z1 := U2.out.c1; have z2 := U2.out.c2; have zf0 := U2.out.f0; have zf1 := U2.out.f1; have zf2 := U2.out.f2; have hu1 := U1.out.lt; have hu2 := U2.out.lt))
    have HL1 := Lib.hid (HL.out.below HC.out)
    have SK : Hid (∀ w', Below w1.heap.size w1 w' → w'.cell? ⟨w.heap.size, 0, none⟩ = some (.slice A n c) ∧ w'.cell? ⟨w.heap.size, 1, none⟩ = some (.slice B m d) ∧ w'.cell? ⟨w.heap.size, 2, none⟩ = some (.slice C k f)) := Lib.hid fun w' h => ⟨(U1.out.keep h).c0, (U1.out.keep h).c1, (U1.out.keep h).c2⟩
    have HU : Hid (Below w1.heap.size w1 w1) := Lib.hid (Below.refl _ _)
    go_region_held3 (fun w' => w'.cell? ⟨w.heap.size, 0, none⟩ = some (.slice A n c) ∧ w'.cell? ⟨w.heap.size, 1, none⟩ = some (.slice B m d) ∧ w'.cell? ⟨w.heap.size, 2, none⟩ = some (.slice C k f)) (first | assumption | (with_reducible exact ⟨(V1.out.other3 (g' := w.heap.size + 1) (by simp) (.slice A3 n c3) (.slice A4 m c4) (.slice A5 k c5)).c0, (V1.out.other3 (g' := w.heap.size + 1) (by simp) (.slice A3 n c3) (.slice A4 m c4) (.slice A5 k c5)).c1, (V1.out.other3 (g' := w.heap.size + 1) (by simp) (.slice A3 n c3) (.slice A4 m c4) (.slice A5 k c5)).c2⟩) | exact SK.out _ (by repeat first | exact HU.out | apply Below.drew | apply below_al))
      (first
        | (refine step_app0P ptI rfl (.tmp 7) (.tmp 9) rfl rfl rfl (HL1.out.pc.below (by repeat first | exact HU.out | apply Below.drew | apply below_al)) (by omega) ?_; intro A3 c3 w3 s3 b3; have HU := Lib.hid (below_then (show Below w1.heap.size w1 _ by repeat first | exact HU.out | apply Below.drew | apply below_al) b3); have R3 := Lib.hid s3; clear s3 b3)
        | (refine step_app0P ptM rfl (.tmp 11) (.tmp 13) rfl rfl rfl (HL1.out.pm.below (by repeat first | exact HU.out | apply Below.drew | apply below_al)) (by omega) ?_; intro A4 c4 w4 s4 b4; have HU := Lib.hid (below_then (show Below w1.heap.size w1 _ by repeat first | exact HU.out | apply Below.drew | apply below_al) b4); have R4 := Lib.hid s4; have R3 := Lib.hid (Prs.below (by repeat first | exact R3.out | apply Prs.drew | apply Prs.alloc) b4); clear s4 b4)
        | (refine step_app0P ptM rfl (.tmp 15) (.tmp 17) rfl rfl rfl (HL1.out.po.below (by repeat first | exact HU.out | apply Below.drew | apply below_al)) (by omega) ?_; intro A5 c5 w5 s5 b5; have HU := Lib.hid (below_then (show Below w1.heap.size w1 _ by repeat first | exact HU.out | apply Below.drew | apply below_al) b5); have R5 := Lib.hid s5; have R4 := Lib.hid (Prs.below (by repeat first | exact R4.out | apply Prs.drew | apply Prs.alloc) b5); have R3 := Lib.hid (Prs.below (by repeat first | exact R3.out | apply Prs.drew | apply Prs.alloc) b5); have V1 := Lib.hid (U1.out.keep HU.out); have V2 := Lib.hid (U2.out.keep HU.out); clear s5 b5; clear z0 z1 z2 zf0 zf1 zf2; have z0 := V2.out.c0; have z1 := V2.out.c1; have z2 := V2.out.c2; have zf0 := V2.out.f0; have zf1 := V2.out.f1; have zf2 := V2.out.f2; have hv2 := V2.out.lt))
    all_goals
      go_wp2
      refine bodyPost_ret (v := .agg #[.slice A3 n c3, .slice A4 m c4, .slice A5 k c5]) (by simp [results, Try.results28, go_sem, z0, z1, z2] <;> rfl) rfl (bd_fin (b' := b) (Bl.set3 ⟨R3.out, R4.out, R5.out⟩ V2.out) (below_set3 (below_then HB.out (below_then HC.out HU.out)) (by simp) _ _ _) (by unfold flSnd; rw [HS.out]; rfl))
set_option maxHeartbeats 2000000 in
theorem remit_any (A B C : Option Addr) (n c m d k f : Nat) (b : Bd) (Y : Option Addr) (p q : Nat) (x : List (Int × Int)) (w : World) (hF : Few 30000 b) (hp : p ≤ 10000) (h : Bl w A n c B m d C k f b) (hx : Prs w Y p q x) :
    Calls Try.prog 13 #[.agg #[.slice A n c, .slice B m d, .slice C k f], .slice Y p q] w (BtPost w (layB (flSnd b) x) (layE (flSnd b) x.length)) := by
  have HF := Lib.hid hF
  have HX := Lib.hid hx
  have LX := Lib.hid hx.len
  clear hx
  obtain ⟨hn, hm, hk⟩ := h.ns hF
  have LC := Lib.hid h.1.len
  have LM := Lib.hid h.2.1.len
  have LO := Lib.hid h.2.2.len
  have H := Lib.hid h
  clear h hF
  have X1 := Lib.hid ((Bx.new w 25 (.slice A n c) (.slice B m d) (.slice C k f)).alloc (.cells #[.slice none 0 0, .slice none 0 0, .slice none 0 0] 25))
  have X2 := Lib.hid (Bx.new2 w (.cells #[.slice A n c, .slice B m d, .slice C k f] 25) 25 (.slice none 0 0) (.slice none 0 0) (.slice none 0 0))
  have HB := Lib.hid (below_two w (.cells #[.slice A n c, .slice B m d, .slice C k f] 25) (.cells #[.slice none 0 0, .slice none 0 0, .slice none 0 0] 25))
  go_enter Try.func13, Try.ntmps13
  go_upto_region 1 with (fail)
  generalize (w.alloc (.cells #[.slice A n c, .slice B m d, .slice C k f] 25)).alloc (.cells #[.slice none 0 0, .slice none 0 0, .slice none 0 0] 25) = W at *
  have hg1 : w.heap.size < W.heap.size := X1.out.lt
  have hg2 : w.heap.size + 1 < W.heap.size := X2.out.lt
  have HL := Lib.hid (H.out.below HB.out)
  have a0 := X1.out.c0; have a1 := X1.out.c1; have a2 := X1.out.c2; have af0 := X1.out.f0; have af1 := X1.out.f1; have af2 := X1.out.f2
  have z0 := X2.out.c0; have z1 := X2.out.c1; have z2 := X2.out.c2; have zf0 := X2.out.f0; have zf1 := X2.out.f1; have zf2 := X2.out.f2
  go_upto_region 2 with (go_at_call 28; refine (rown_any _ _ _ _ _ _ _ _ _ b _ (HF.out.mono (by omega)) HL.out).mono ?_; rintro e w1 ⟨A1, n1, c1, B1, m1, d1, C1, k1, f1, rfl, h1, hb1⟩; have HB1 := Lib.hid (hb1); have H1 := Lib.hid h1; clear h1 hb1; have Y1 := Lib.hid (X1.out.keep HB1.out); have Y2 := Lib.hid (X2.out.keep HB1.out); clear a0 a1 a2 af0 af1 af2 z0 z1 z2 zf0 zf1 zf2; have a0 := Y1.out.c0; have a1 := Y1.out.c1; have a2 := Y1.out.c2; have af0 := Y1.out.f0; have af1 := Y1.out.f1; have af2 := Y1.out.f2; have z0 := Y2.out.c0; have z1 := Y2.out.c1; have z2 := Y2.out.c2; have zf0 := Y2.out.f0; have zf1 := Y2.out.f1; have zf2 := Y2.out.f2; have hY1 := Y1.out.lt; have hY2 := Y2.out.lt)
  have Q1 := Lib.hid (Y1.out.set3 (.slice A1 n1 c1) (.slice B1 m1 d1) (.slice C1 k1 f1))
  have Q2 := Lib.hid (Y2.out.other3 (g' := w.heap.size) (by simp) (.slice A1 n1 c1) (.slice B1 m1 d1) (.slice C1 k1 f1))
  have QB := Lib.hid (below_set3 (g := w.heap.size) (below_then HB.out HB1.out) (Nat.le_refl _) (.slice A1 n1 c1) (.slice B1 m1 d1) (.slice C1 k1 f1))
  have HQ := Lib.hid (H1.out.set3 Y1.out (B1 := A1) (p1 := n1) (e1 := c1) (B2 := B1) (p2 := m1) (e2 := d1) (B3 := C1) (p3 := k1) (e3 := f1))
  generalize (((w1.setCell ⟨w.heap.size, 0, none⟩ (.slice A1 n1 c1)).setCell ⟨w.heap.size, 1, none⟩ (.slice B1 m1 d1)).setCell ⟨w.heap.size, 2, none⟩ (.slice C1 k1 f1)) = W1 at *
  clear a0 a1 a2 af0 af1 af2 z0 z1 z2 zf0 zf1 zf2
  have a0 := Q1.out.c0; have a1 := Q1.out.c1; have a2 := Q1.out.c2; have af0 := Q1.out.f0; have af1 := Q1.out.f1; have af2 := Q1.out.f2
  have z0 := Q2.out.c0; have z1 := Q2.out.c1; have z2 := Q2.out.c2; have zf0 := Q2.out.f0; have zf1 := Q2.out.f1; have zf2 := Q2.out.f2
  have hQ1 := Q1.out.lt; have hQ2 := Q2.out.lt
  have HFs := Lib.hid HF.out.snd'
  generalize flSnd b = b' at *
  have N1 := Lib.hid HQ.out.pc.len
  have hn1 : n1 ≤ 30000 := by rw [← N1.out]; exact HFs.out.1
  have HXq := Lib.hid (HX.out.below QB.out)
  by_cases hc : 4096 < n1 + p
  · have ht : (4096 : Int) < (n1 : Int) + (p : Int) := by omega
    go_wp2
    refine bodyPost_ret (v := .tuple #[.agg #[.slice A1 n1 c1, .slice B1 m1 d1, .slice C1 k1 f1], .int .i64 (-8)]) (by simp [results, Try.results13, go_sem, z0, z1, z2] <;> rfl) rfl (bt_fin (HQ.out.set3 Q2.out) (below_set3 QB.out (by simp) _ _ _) (by unfold layB; rw [N1.out, LX.out, if_pos hc]) (by unfold layE; rw [N1.out, LX.out, if_pos hc]))
  · have ht : ¬ (4096 : Int) < (n1 : Int) + (p : Int) := by omega
    go_upto_region 5 with ((at_builtin; refine wpList_app ptI (W := W1) rfl (.tmp 17) (.tmp 19) rfl rfl rfl (OwnP.made _ _) (HQ.out.pc.alloc _) (by omega) ?_; intro A3 c3 w3 hw3 _; have HW3 := Lib.hid (own_nil' hw3); clear hw3; have Z1 := Lib.hid (Q1.out.keep HW3.out.below); have Z2 := Lib.hid (Q2.out.keep HW3.out.below); clear a0 a1 a2 af0 af1 af2 z0 z1 z2 zf0 zf1 zf2; have a0 := Z1.out.c0; have a1 := Z1.out.c1; have a2 := Z1.out.c2; have af0 := Z1.out.f0; have af1 := Z1.out.f1; have af2 := Z1.out.f2; have z0 := Z2.out.c0; have z1 := Z2.out.c1; have z2 := Z2.out.c2; have zf0 := Z2.out.f0; have zf1 := Z2.out.f1; have zf2 := Z2.out.f2))
    go_upto_region 6 with ((at_builtin; refine wpList_app ptI (W := W1) rfl (.tmp 21) (.tmp 22) rfl rfl rfl HW3.out (HXq.out.below HW3.out.below) (by omega) ?_; intro A4 c4 w4 hw4 _; have HW4 := Lib.hid hw4; clear hw4; have V1 := Lib.hid (Q1.out.keep HW4.out.below); have V2 := Lib.hid (Q2.out.keep HW4.out.below); clear a0 a1 a2 af0 af1 af2 z0 z1 z2 zf0 zf1 zf2; have a0 := V1.out.c0; have a1 := V1.out.c1; have a2 := V1.out.c2; have af0 := V1.out.f0; have af1 := V1.out.f1; have af2 := V1.out.f2; have z0 := V2.out.c0; have z1 := V2.out.c1; have z2 := V2.out.c2; have zf0 := V2.out.f0; have zf1 := V2.out.f1; have zf2 := V2.out.f2))
    have hv2 := V2.out.lt
    go_wp2
    have hl := HQ.out.below HW4.out.below
    refine bodyPost_ret (v := .tuple #[.agg #[.slice A4 (n1+p) c4, .slice B1 m1 d1, .slice C1 k1 f1], .int .i64 0]) (by simp [results, Try.results13, go_sem, z0, z1, z2] <;> rfl) rfl (bt_fin (b' := ⟨b'.code ++ x, b'.marks, b'.outs⟩) (Bl.set3 ⟨HW4.out.prs, hl.pm, hl.po⟩ V2.out) (below_set3 (below_then QB.out HW4.out.below) (by simp) _ _ _) (by unfold layB; rw [N1.out, LX.out, if_neg hc]) (by unfold layE; rw [N1.out, LX.out, if_neg hc]))
set_option maxHeartbeats 1000000 in
theorem rone_any (A B C : Option Addr) (n c m d k f : Nat) (b : Bd) (o a : Int) (w : World) (hF : Few 30000 b) (h : Bl w A n c B m d C k f b) :
    Calls Try.prog 37 #[.agg #[.slice A n c, .slice B m d, .slice C k f], .int .i64 o, .int .i64 a] w (BtPost w (layB (flSnd b) [(o, a)]) (layE (flSnd b) 1)) := by
  have HF := Lib.hid hF
  obtain ⟨hn, hm, hk⟩ := h.ns hF
  have LC := Lib.hid h.1.len
  have LM := Lib.hid h.2.1.len
  have LO := Lib.hid h.2.2.len
  have H := Lib.hid h
  clear h hF
  have X1 := Lib.hid ((Bx.new w 25 (.slice A n c) (.slice B m d) (.slice C k f)).alloc (.cells #[.slice none 0 0, .slice none 0 0, .slice none 0 0] 25))
  have X2 := Lib.hid (Bx.new2 w (.cells #[.slice A n c, .slice B m d, .slice C k f] 25) 25 (.slice none 0 0) (.slice none 0 0) (.slice none 0 0))
  have HB := Lib.hid (below_two w (.cells #[.slice A n c, .slice B m d, .slice C k f] 25) (.cells #[.slice none 0 0, .slice none 0 0, .slice none 0 0] 25))
  go_enter Try.func37, Try.ntmps37
  go_upto_region 1 with (fail)
  generalize (w.alloc (.cells #[.slice A n c, .slice B m d, .slice C k f] 25)).alloc (.cells #[.slice none 0 0, .slice none 0 0, .slice none 0 0] 25) = W at *
  have hg1 : w.heap.size < W.heap.size := X1.out.lt
  have hg2 : w.heap.size + 1 < W.heap.size := X2.out.lt
  have HL := Lib.hid (H.out.below HB.out)
  have a0 := X1.out.c0; have a1 := X1.out.c1; have a2 := X1.out.c2; have af0 := X1.out.f0; have af1 := X1.out.f1; have af2 := X1.out.f2
  have z0 := X2.out.c0; have z1 := X2.out.c1; have z2 := X2.out.c2; have zf0 := X2.out.f0; have zf1 := X2.out.f1; have zf2 := X2.out.f2
  go_wp2_with (go_at_call 13; refine (remit_any _ _ _ _ _ _ _ _ _ b _ _ _ [(o, a)] _ HF.out (by omega) (HL.out.alloc _) (Prs.new1 _ _ o a)).mono ?_; rintro e w1 ⟨A1, n1, c1, B1, m1, d1, C1, k1, f1, rfl, h1, hb1⟩; have HB1 := Lib.hid (below_new hb1); have H1 := Lib.hid h1; clear h1 hb1; have Y1 := Lib.hid (X1.out.keep HB1.out); have Y2 := Lib.hid (X2.out.keep HB1.out); clear a0 a1 a2 af0 af1 af2 z0 z1 z2 zf0 zf1 zf2; have a0 := Y1.out.c0; have a1 := Y1.out.c1; have a2 := Y1.out.c2; have af0 := Y1.out.f0; have af1 := Y1.out.f1; have af2 := Y1.out.f2; have z0 := Y2.out.c0; have z1 := Y2.out.c1; have z2 := Y2.out.c2; have zf0 := Y2.out.f0; have zf1 := Y2.out.f1; have zf2 := Y2.out.f2; have hY1 := Y1.out.lt; have hY2 := Y2.out.lt)
  refine bodyPost_ret (v := .tuple #[.agg #[.slice A1 n1 c1, .slice B1 m1 d1, .slice C1 k1 f1], .int .i64 (layE (flSnd b) 1)]) (by simp [results, Try.results37, go_sem, z0, z1, z2] <;> rfl) rfl (bt_fin (H1.out.set3 Y2.out) (below_set3 (below_then HB.out HB1.out) (by simp) _ _ _) rfl rfl)
end Go.Proofs.Ytkcpmjccggfpiaa
