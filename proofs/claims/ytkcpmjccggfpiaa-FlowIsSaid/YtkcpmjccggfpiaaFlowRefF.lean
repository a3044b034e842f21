/-
  What the document's own calls answer: the words that take an origin, word by word.
-/
import Derived.Test.YtkcpmjccggfpiaaFlowRefE
namespace Go.Proofs.Ytkcpmjccggfpiaa
open Go.RowKit

theorem rtop0_yes (A B C : Option Addr) (n c m d k f : Nat) (b : Bd) (u : Int) (w : World) (hF : Few 50000 b) (hu : topK b = u) (h0 : u ≠ 0) (h : Bl w A n c B m d C k f b) :
    Calls Try.prog 59 #[.agg #[.slice A n c, .slice B m d, .slice C k f], .int .i64 0, .int .i64 u] w fun e w' => e = .returned (.tuple #[.agg #[.int .i64 u, .int .i64 (topA b)], .bool true]) ∧ Below w.heap.size w w' := by
  have hm : b.marks.length = (b.marks.length - 1) + 1 + 0 := by
    have : b.marks.length ≠ 0 := fun e => h0 (by rw [← hu]; exact top_none b e)
    omega
  have ht := top_get b (b.marks.length - 1) (by omega)
  have h2 := rtop_yes A B C n c m d k f b 0 u w hF (b.marks.length - 1) hm (by rw [ht]; exact hu) h
  rw [ht] at h2
  exact h2
theorem rtop0_no (A B C : Option Addr) (n c m d k f : Nat) (b : Bd) (u : Int) (w : World) (hF : Few 50000 b) (hu : topK b ≠ u) (h : Bl w A n c B m d C k f b) :
    Calls Try.prog 59 #[.agg #[.slice A n c, .slice B m d, .slice C k f], .int .i64 0, .int .i64 u] w fun e w' => e = .returned (.tuple #[.agg #[.int .i64 0, .int .i64 0], .bool false]) ∧ Below w.heap.size w w' :=
  rtop_no A B C n c m d k f b 0 u w hF (by omega) (fun q hq => by rw [top_get b q (by omega)]; exact hu) h
theorem rless1 (A B C : Option Addr) (n c m d k f : Nat) (b : Bd) (q : Nat) (w : World) (hF : Few 50000 b) (hq : b.marks.length = q + 1) (h : Bl w A n c B m d C k f b) :
    Calls Try.prog 61 #[.agg #[.slice A n c, .slice B m d, .slice C k f], .int .i64 1] w (BdPost w ⟨b.code, b.marks.take q, b.outs⟩) := rless_any A B C n c m d k f b 1 q w hF hq (by omega) h
theorem rless2 (A B C : Option Addr) (n c m d k f : Nat) (b : Bd) (q : Nat) (w : World) (hF : Few 50000 b) (hq : b.marks.length = q + 2) (h : Bl w A n c B m d C k f b) :
    Calls Try.prog 61 #[.agg #[.slice A n c, .slice B m d, .slice C k f], .int .i64 2] w (BdPost w ⟨b.code, b.marks.take q, b.outs⟩) := rless_any A B C n c m d k f b 2 q w hF hq (by omega) h
/-- A place that an origin on top names is there. -/
theorem top_place {b : Bd} (hs : flSane b = true) (hk : topK b = 1) : ∃ r : Nat, topA b = (r : Int) ∧ r < b.code.length := by
  have h := top_mark hs (by rw [hk]; decide)
  rw [hk] at h
  have h2 := of_decide_eq_true (show decide (0 ≤ topA b ∧ topA b < (b.code.length : Int)) = true from mark_orig h)
  exact ⟨(topA b).toNat, by omega, by omega⟩
theorem marks_split {b : Bd} (hk : topK b ≠ 0) : ∃ q, b.marks.length = q + 1 ∧ b.marks.take q = b.marks.dropLast := by
  have hm : b.marks.length ≠ 0 := fun e => hk (top_none b e)
  refine ⟨b.marks.length - 1, by omega, ?_⟩
  rw [List.dropLast_eq_take]
set_option maxHeartbeats 2000000 in
theorem rthen__any (A B C : Option Addr) (n c m d k f : Nat) (b : Bd) (w : World) (hF : Few 1000 b) (hs : flSane b = true) (h : Bl w A n c B m d C k f b) :
    Calls Try.prog 33 #[.agg #[.slice A n c, .slice B m d, .slice C k f], .string ⟨#[84, 72, 69, 78]⟩] w (BtPost w (wdN b .then_) (wdE b .then_)) := by
  have HF := Lib.hid hF
  have HS := Lib.hid hs
  clear hs
  obtain ⟨hn, hm, hk⟩ := h.ns hF
  have LC := Lib.hid h.1.len
  have LM := Lib.hid h.2.1.len
  have LO := Lib.hid h.2.2.len
  have H := Lib.hid h
  clear h hF
  have X1 := Lib.hid ((Bx.new w 25 (.slice A n c) (.slice B m d) (.slice C k f)).alloc (.cells #[.slice none 0 0, .slice none 0 0, .slice none 0 0] 25))
  have X2 := Lib.hid (Bx.new2 w (.cells #[.slice A n c, .slice B m d, .slice C k f] 25) 25 (.slice none 0 0) (.slice none 0 0) (.slice none 0 0))
  have HB := Lib.hid (below_two w (.cells #[.slice A n c, .slice B m d, .slice C k f] 25) (.cells #[.slice none 0 0, .slice none 0 0, .slice none 0 0] 25))
  go_enter Try.func33, Try.ntmps33
  go_upto_region 1 with (fail)
  generalize (w.alloc (.cells #[.slice A n c, .slice B m d, .slice C k f] 25)).alloc (.cells #[.slice none 0 0, .slice none 0 0, .slice none 0 0] 25) = W at *
  have hg1 : w.heap.size < W.heap.size := X1.out.lt
  have hg2 : w.heap.size + 1 < W.heap.size := X2.out.lt
  have HL := Lib.hid (H.out.below HB.out)
  have a0 := X1.out.c0; have a1 := X1.out.c1; have a2 := X1.out.c2; have af0 := X1.out.f0; have af1 := X1.out.f1; have af2 := X1.out.f2
  have z0 := X2.out.c0; have z1 := X2.out.c1; have z2 := X2.out.c2; have zf0 := X2.out.f0; have zf1 := X2.out.f1; have zf2 := X2.out.f2
  have HU0 := Lib.hid (Below.refl W.heap.size W)
  by_cases hk : topK b = 1
  · skip
    obtain ⟨r, hr, hrl⟩ := top_place HS.out hk
    obtain ⟨q, hq, htk⟩ := marks_split (b := b) (by rw [hk]; decide)
    have hT := rtop0_yes A B C n c m d k f b 1 W (HF.out.mono (by omega)) hk (by decide) HL.out
    rw [hr] at hT
    have HE : Hid (wdE b .then_ = 0) := Lib.hid (by show (if topK b = 1 then (0 : Int) else -22) = 0; rw [if_pos hk])
    have HN : Hid (wdN b .then_ = resB ⟨b.code, b.marks.take q, b.outs⟩ [(r : Int)]) := Lib.hid (by rw [wdN_of HE.out]; simp only [wdB, if_pos hk]; rw [hr]; unfold takeB; rw [htk])
    have FC : Hid (Few 1000 ⟨b.code, b.marks.take q, b.outs⟩) := Lib.hid ⟨HF.out.1, by have := HF.out.2.1; simp; omega, HF.out.2.2⟩
    have HT := Lib.hid hT
    clear hT hk hr htk
    go_upto_region 2 with ((go_at_call 59; refine (HT.out).mono ?_; rintro e w1 ⟨rfl, hb1⟩; have HC1 := Lib.hid (below_then hb1 (below_one w1 (.cells #[.int .i64 1, .int .i64 (r : Int)] 57))); have P6 := Lib.hid (Px.new w1 57 (.int .i64 1) (.int .i64 (r : Int))); have hw1 := hb1.size; clear hb1))
    generalize w1.alloc (.cells #[.int .i64 1, .int .i64 (r : Int)] 57) = W1 at *
    have HU1 := Lib.hid (below_then HU0.out HC1.out)
    have Y1 := Lib.hid (X1.out.keep HC1.out)
    have Y2 := Lib.hid (X2.out.keep HC1.out)
    clear a0 a1 a2 af0 af1 af2 z0 z1 z2 zf0 zf1 zf2
    have a0 := Y1.out.c0; have a1 := Y1.out.c1; have a2 := Y1.out.c2; have af0 := Y1.out.f0; have af1 := Y1.out.f1; have af2 := Y1.out.f2
    have z0 := Y2.out.c0; have z1 := Y2.out.c1; have z2 := Y2.out.c2; have zf0 := Y2.out.f0; have zf1 := Y2.out.f1; have zf2 := Y2.out.f2
    have p0 := P6.out.c0
    have p1 := P6.out.c1
    have hY1 := Y1.out.lt
    have hY2 := Y2.out.lt
    have hP6 := P6.out.lt
    have HL1 := Lib.hid (HL.out.below HU1.out)
    have SK : Hid (∀ w', Below W1.heap.size W1 w' → w'.cell? ⟨w.heap.size, 0, none⟩ = some (.slice A n c) ∧ w'.cell? ⟨w.heap.size, 1, none⟩ = some (.slice B m d) ∧ w'.cell? ⟨w.heap.size, 2, none⟩ = some (.slice C k f) ∧ w'.cell? ⟨w1.heap.size, 1, none⟩ = some (.int .i64 (r : Int))) := Lib.hid fun w' h => ⟨(Y1.out.keep h).c0, (Y1.out.keep h).c1, (Y1.out.keep h).c2, (P6.out.keep h).c1⟩
    have HV : Hid (Below W1.heap.size W1 W1.drew) := Lib.hid (Below.refl _ _).drew
    have hn1 : w1.heap.size ≠ w.heap.size + 1 := by omega
    go_upto_region 5 with (fail)
    go_region_held3 (fun w' => w'.cell? ⟨w.heap.size, 0, none⟩ = some (.slice A n c) ∧ w'.cell? ⟨w.heap.size, 1, none⟩ = some (.slice B m d) ∧ w'.cell? ⟨w.heap.size, 2, none⟩ = some (.slice C k f) ∧ w'.cell? ⟨w1.heap.size, 1, none⟩ = some (.int .i64 (r : Int))) (first | assumption | (with_reducible exact ⟨(V1.out.other3 (g' := w.heap.size + 1) (by simp) (.slice A4 n4 c4) (.slice B4 m4 d4) (.slice C4 k4 f4)).c0, (V1.out.other3 (g' := w.heap.size + 1) (by simp) (.slice A4 n4 c4) (.slice B4 m4 d4) (.slice C4 k4 f4)).c1, (V1.out.other3 (g' := w.heap.size + 1) (by simp) (.slice A4 n4 c4) (.slice B4 m4 d4) (.slice C4 k4 f4)).c2, (V6.out.other3 (g' := w.heap.size + 1) hn1 (.slice A4 n4 c4) (.slice B4 m4 d4) (.slice C4 k4 f4)).c1⟩) | exact SK.out _ HV.out)
      (first
        | (go_at_call 61; (with_reducible refine (rless1 _ _ _ _ _ _ _ _ _ b q _ (HF.out.mono (by omega)) hq (HL1.out.below HV.out)).mono ?_); rintro e w3 ⟨A3, n3, c3, B3, m3, d3, C3, k3, f3, rfl, h3, hb3⟩; have HV := Lib.hid (below_then HV.out hb3); have H3 := Lib.hid h3; clear h3 hb3)
        | (go_at_call 60; (with_reducible refine (rresolve_any _ _ _ _ _ _ _ _ _ _ r _ (FC.out.mono (by omega)) hrl H3.out).mono ?_); rintro e w4 ⟨A4, n4, c4, B4, m4, d4, C4, k4, f4, rfl, h4, hb4⟩; have HV := Lib.hid (below_then HV.out hb4); have H4 := Lib.hid h4; clear h4 hb4; have V1 := Lib.hid (Y1.out.keep HV.out); have V2 := Lib.hid (Y2.out.keep HV.out); have V6 := Lib.hid (P6.out.keep HV.out); clear z0 z1 z2 zf0 zf1 zf2; have z0 := V2.out.c0; have z1 := V2.out.c1; have z2 := V2.out.c2; have zf0 := V2.out.f0; have zf1 := V2.out.f1; have zf2 := V2.out.f2; have hv2 := V2.out.lt))
    go_wp2
    refine bodyPost_ret (v := .tuple #[.agg #[.slice A4 n4 c4, .slice B4 m4 d4, .slice C4 k4 f4], .int .i64 0]) (by simp [results, Try.results33, go_sem, z0, z1, z2] <;> rfl) rfl (bt_fin (H4.out.set3 V2.out) (below_set3 (below_then HB.out (below_then HU1.out HV.out)) (by simp) _ _ _) HN.out.symm HE.out.symm)
  · skip
    have hT := rtop0_no A B C n c m d k f b 1 W (HF.out.mono (by omega)) hk HL.out
    have HE : Hid (wdE b .then_ = -22) := Lib.hid (by show (if topK b = 1 then _ else (-22 : Int)) = -22; rw [if_neg hk])
    have HT := Lib.hid hT
    clear hT hk
    go_upto_region 2 with ((go_at_call 59; refine (HT.out).mono ?_; rintro e w1 ⟨rfl, hb1⟩; have HC1 := Lib.hid (below_then hb1 (below_one w1 (.cells #[.int .i64 0, .int .i64 0] 57))); have P6 := Lib.hid (Px.new w1 57 (.int .i64 0) (.int .i64 0)); have hw1 := hb1.size; clear hb1))
    generalize w1.alloc (.cells #[.int .i64 0, .int .i64 0] 57) = W1 at *
    have HU1 := Lib.hid (below_then HU0.out HC1.out)
    have Y1 := Lib.hid (X1.out.keep HC1.out)
    have Y2 := Lib.hid (X2.out.keep HC1.out)
    clear a0 a1 a2 af0 af1 af2 z0 z1 z2 zf0 zf1 zf2
    have a0 := Y1.out.c0; have a1 := Y1.out.c1; have a2 := Y1.out.c2; have af0 := Y1.out.f0; have af1 := Y1.out.f1; have af2 := Y1.out.f2
    have z0 := Y2.out.c0; have z1 := Y2.out.c1; have z2 := Y2.out.c2; have zf0 := Y2.out.f0; have zf1 := Y2.out.f1; have zf2 := Y2.out.f2
    have p0 := P6.out.c0
    have p1 := P6.out.c1
    have hY1 := Y1.out.lt
    have hY2 := Y2.out.lt
    have hP6 := P6.out.lt
    go_wp2
    refine bodyPost_ret (v := .tuple #[.agg #[.slice A n c, .slice B m d, .slice C k f], .int .i64 (-22)]) (by simp [results, Try.results33, go_sem, z0, z1, z2] <;> rfl) rfl (bt_fin (b' := b) ((HL.out.below HU1.out).set3 Y2.out) (below_set3 (below_then HB.out HU1.out) (by simp) _ _ _) (wdN_not HE.out).symm HE.out.symm)
set_option maxHeartbeats 2000000 in
theorem relse__any (A B C : Option Addr) (n c m d k f : Nat) (b : Bd) (w : World) (hF : Few 1000 b) (hs : flSane b = true) (h : Bl w A n c B m d C k f b) :
    Calls Try.prog 33 #[.agg #[.slice A n c, .slice B m d, .slice C k f], .string ⟨#[69, 76, 83, 69]⟩] w (BtPost w (wdN b .else_) (wdE b .else_)) := by
  have HF := Lib.hid hF
  have HS := Lib.hid hs
  clear hs
  obtain ⟨hn, hm, hk⟩ := h.ns hF
  have LC := Lib.hid h.1.len
  have LM := Lib.hid h.2.1.len
  have LO := Lib.hid h.2.2.len
  have H := Lib.hid h
  clear h hF
  have X1 := Lib.hid ((Bx.new w 25 (.slice A n c) (.slice B m d) (.slice C k f)).alloc (.cells #[.slice none 0 0, .slice none 0 0, .slice none 0 0] 25))
  have X2 := Lib.hid (Bx.new2 w (.cells #[.slice A n c, .slice B m d, .slice C k f] 25) 25 (.slice none 0 0) (.slice none 0 0) (.slice none 0 0))
  have HB := Lib.hid (below_two w (.cells #[.slice A n c, .slice B m d, .slice C k f] 25) (.cells #[.slice none 0 0, .slice none 0 0, .slice none 0 0] 25))
  go_enter Try.func33, Try.ntmps33
  go_upto_region 1 with (fail)
  generalize (w.alloc (.cells #[.slice A n c, .slice B m d, .slice C k f] 25)).alloc (.cells #[.slice none 0 0, .slice none 0 0, .slice none 0 0] 25) = W at *
  have hg1 : w.heap.size < W.heap.size := X1.out.lt
  have hg2 : w.heap.size + 1 < W.heap.size := X2.out.lt
  have HL := Lib.hid (H.out.below HB.out)
  have a0 := X1.out.c0; have a1 := X1.out.c1; have a2 := X1.out.c2; have af0 := X1.out.f0; have af1 := X1.out.f1; have af2 := X1.out.f2
  have z0 := X2.out.c0; have z1 := X2.out.c1; have z2 := X2.out.c2; have zf0 := X2.out.f0; have zf1 := X2.out.f1; have zf2 := X2.out.f2
  have HU0 := Lib.hid (Below.refl W.heap.size W)
  by_cases hk : topK b = 1
  · skip
    obtain ⟨r, hr, hrl⟩ := top_place HS.out hk
    obtain ⟨q, hq, htk⟩ := marks_split (b := b) (by rw [hk]; decide)
    have hT := rtop0_yes A B C n c m d k f b 1 W (HF.out.mono (by omega)) hk (by decide) HL.out
    rw [hr] at hT
    have HE : Hid (wdE b .else_ = 0) := Lib.hid (by show (if topK b = 1 then layE b 1 else -22) = 0; rw [if_pos hk]; exact layE_of (by have := HF.out.1; omega))
    have hl1 : layE (takeB b) 1 = 0 := layE_of (by have := HF.out.1; simp [takeB]; omega)
    have HN : Hid (wdN b .else_ = markB (resB ⟨b.code ++ [(1, 0)], b.marks.take q, b.outs⟩ [(r : Int)]) 1 (n : Int)) := Lib.hid (by rw [wdN_of HE.out]; simp only [wdB, if_pos hk, aheadB]; rw [hr, lay1 hl1]; unfold takeB markB resB; rw [htk, LC.out])
    have FC : Hid (Few 1002 ⟨b.code ++ [(1, 0)], b.marks.take q, b.outs⟩) := Lib.hid ⟨by have := HF.out.1; simp; omega, by have := HF.out.2.1; simp; omega, by have := HF.out.2.2; simp; omega⟩
    have hrl2 : r < (b.code ++ [((1 : Int), (0 : Int))]).length := by simp; omega
    have FB := Lib.hid (HF.out.code [(1, 0)] (by simp))
    have FR : Hid (Few 50000 (resB ⟨b.code ++ [(1, 0)], b.marks.take q, b.outs⟩ [(r : Int)])) := Lib.hid ⟨by unfold resB; rw [flRes_length]; have := FC.out.1; simp at this ⊢; omega, by have := FC.out.2.1; simp [resB] at this ⊢; omega, by have := FC.out.2.2; simp [resB] at this ⊢; omega⟩
    have HT := Lib.hid hT
    clear hT hk hr htk
    go_upto_region 2 with ((go_at_call 59; refine (HT.out).mono ?_; rintro e w1 ⟨rfl, hb1⟩; have HC1 := Lib.hid (below_then hb1 (below_one w1 (.cells #[.int .i64 1, .int .i64 (r : Int)] 57))); have P6 := Lib.hid (Px.new w1 57 (.int .i64 1) (.int .i64 (r : Int))); have hw1 := hb1.size; clear hb1))
    generalize w1.alloc (.cells #[.int .i64 1, .int .i64 (r : Int)] 57) = W1 at *
    have HU1 := Lib.hid (below_then HU0.out HC1.out)
    have Y1 := Lib.hid (X1.out.keep HC1.out)
    have Y2 := Lib.hid (X2.out.keep HC1.out)
    clear a0 a1 a2 af0 af1 af2 z0 z1 z2 zf0 zf1 zf2
    have a0 := Y1.out.c0; have a1 := Y1.out.c1; have a2 := Y1.out.c2; have af0 := Y1.out.f0; have af1 := Y1.out.f1; have af2 := Y1.out.f2
    have z0 := Y2.out.c0; have z1 := Y2.out.c1; have z2 := Y2.out.c2; have zf0 := Y2.out.f0; have zf1 := Y2.out.f1; have zf2 := Y2.out.f2
    have p0 := P6.out.c0
    have p1 := P6.out.c1
    have hY1 := Y1.out.lt
    have hY2 := Y2.out.lt
    have hP6 := P6.out.lt
    have HL1 := Lib.hid (HL.out.below HU1.out)
    go_upto_region 7 with ((go_at_call 37; refine (rone_of _ _ _ _ _ _ _ _ _ b 1 0 _ (HF.out.mono (by omega)) HS.out HL1.out).mono ?_; rintro e w2 ⟨A2, n2, c2, B2, m2, d2, C2, k2, f2, rfl, h2, hb2⟩; have hw2 := hb2.size; have HC2 := Lib.hid (below_then hb2 (below_one w2 (.cells #[.slice A2 n2 c2, .slice B2 m2 d2, .slice C2 k2 f2] 25))); have H2 := Lib.hid (h2.alloc (.cells #[.slice A2 n2 c2, .slice B2 m2 d2, .slice C2 k2 f2] 25)); have X8 := Lib.hid (Bx.new w2 25 (.slice A2 n2 c2) (.slice B2 m2 d2) (.slice C2 k2 f2)); clear h2 hb2))
    generalize w2.alloc (.cells #[.slice A2 n2 c2, .slice B2 m2 d2, .slice C2 k2 f2] 25) = W2 at *
    have HU2 := Lib.hid (below_then HU1.out HC2.out)
    have Z1 := Lib.hid (Y1.out.keep HC2.out)
    have Z2 := Lib.hid (Y2.out.keep HC2.out)
    clear a0 a1 a2 af0 af1 af2 z0 z1 z2 zf0 zf1 zf2
    have a0 := Z1.out.c0; have a1 := Z1.out.c1; have a2 := Z1.out.c2; have af0 := Z1.out.f0; have af1 := Z1.out.f1; have af2 := Z1.out.f2
    have hZ1 := Z1.out.lt
    have z0 := Z2.out.c0; have z1 := Z2.out.c1; have z2 := Z2.out.c2; have zf0 := Z2.out.f0; have zf1 := Z2.out.f1; have zf2 := Z2.out.f2
    have hZ2 := Z2.out.lt
    have x0 := X8.out.c0; have x1 := X8.out.c1; have x2 := X8.out.c2; have xf0 := X8.out.f0; have xf1 := X8.out.f1; have xf2 := X8.out.f2
    have hX8 := X8.out.lt
    have Q6 := Lib.hid (P6.out.keep HC2.out)
    clear p0 p1
    have p0 := Q6.out.c0
    have p1 := Q6.out.c1
    have SK : Hid (∀ w', Below W2.heap.size W2 w' → (w'.cell? ⟨w.heap.size, 0, none⟩ = some (.slice A n c) ∧ w'.cell? ⟨w.heap.size, 1, none⟩ = some (.slice B m d) ∧ w'.cell? ⟨w.heap.size, 2, none⟩ = some (.slice C k f)) ∧ (w'.cell? ⟨w2.heap.size, 0, none⟩ = some (.slice A2 n2 c2) ∧ w'.cell? ⟨w2.heap.size, 1, none⟩ = some (.slice B2 m2 d2) ∧ w'.cell? ⟨w2.heap.size, 2, none⟩ = some (.slice C2 k2 f2)) ∧ w'.cell? ⟨w1.heap.size, 1, none⟩ = some (.int .i64 (r : Int))) := Lib.hid fun w' h => ⟨⟨(Z1.out.keep h).c0, (Z1.out.keep h).c1, (Z1.out.keep h).c2⟩, ⟨(X8.out.keep h).c0, (X8.out.keep h).c1, (X8.out.keep h).c2⟩, (Q6.out.keep h).c1⟩
    have HV : Hid (Below W2.heap.size W2 W2.drew) := Lib.hid (Below.refl _ _).drew
    have hn1 : w1.heap.size ≠ w.heap.size + 1 := by omega
    have hn2 : w2.heap.size ≠ w.heap.size + 1 := by have := HU1.out.size; omega
    go_upto_region 9 with (fail)
    go_region_held3 (fun w' => (w'.cell? ⟨w.heap.size, 0, none⟩ = some (.slice A n c) ∧ w'.cell? ⟨w.heap.size, 1, none⟩ = some (.slice B m d) ∧ w'.cell? ⟨w.heap.size, 2, none⟩ = some (.slice C k f)) ∧ (w'.cell? ⟨w2.heap.size, 0, none⟩ = some (.slice A2 n2 c2) ∧ w'.cell? ⟨w2.heap.size, 1, none⟩ = some (.slice B2 m2 d2) ∧ w'.cell? ⟨w2.heap.size, 2, none⟩ = some (.slice C2 k2 f2)) ∧ w'.cell? ⟨w1.heap.size, 1, none⟩ = some (.int .i64 (r : Int))) (first | assumption | (with_reducible exact ⟨⟨(V1.out.other3 (g' := w.heap.size + 1) (by simp) (.slice A5 n5 c5) (.slice B5 m5 d5) (.slice C5 k5 f5)).c0, (V1.out.other3 (g' := w.heap.size + 1) (by simp) (.slice A5 n5 c5) (.slice B5 m5 d5) (.slice C5 k5 f5)).c1, (V1.out.other3 (g' := w.heap.size + 1) (by simp) (.slice A5 n5 c5) (.slice B5 m5 d5) (.slice C5 k5 f5)).c2⟩, ⟨(V8.out.other3 (g' := w.heap.size + 1) hn2 (.slice A5 n5 c5) (.slice B5 m5 d5) (.slice C5 k5 f5)).c0, (V8.out.other3 (g' := w.heap.size + 1) hn2 (.slice A5 n5 c5) (.slice B5 m5 d5) (.slice C5 k5 f5)).c1, (V8.out.other3 (g' := w.heap.size + 1) hn2 (.slice A5 n5 c5) (.slice B5 m5 d5) (.slice C5 k5 f5)).c2⟩, (V6.out.other3 (g' := w.heap.size + 1) hn1 (.slice A5 n5 c5) (.slice B5 m5 d5) (.slice C5 k5 f5)).c1⟩) | exact SK.out _ HV.out)
      (first
        | (go_at_call 61; (with_reducible refine (rless1 _ _ _ _ _ _ _ _ _ _ q _ (FB.out.mono (by omega)) hq (H2.out.below HV.out)).mono ?_); rintro e w3 ⟨A3, n3, c3, B3, m3, d3, C3, k3, f3, rfl, h3, hb3⟩; have HV := Lib.hid (below_then HV.out hb3); have H3 := Lib.hid h3; clear h3 hb3)
        | (go_at_call 60; (with_reducible refine (rresolve_any _ _ _ _ _ _ _ _ _ _ r _ (FC.out.mono (by omega)) hrl2 H3.out).mono ?_); rintro e w4 ⟨A4, n4, c4, B4, m4, d4, C4, k4, f4, rfl, h4, hb4⟩; have HV := Lib.hid (below_then HV.out hb4); have H4 := Lib.hid h4; clear h4 hb4)
        | (go_at_call 57; (with_reducible refine (rmore_any _ _ _ _ _ _ _ _ _ _ 1 (n : Int) _ FR.out H4.out).mono ?_); rintro e w5 ⟨A5, n5, c5, B5, m5, d5, C5, k5, f5, rfl, h5, hb5⟩; have HV := Lib.hid (below_then HV.out hb5); have H5 := Lib.hid h5; clear h5 hb5; have V1 := Lib.hid (Z1.out.keep HV.out); have V2 := Lib.hid (Z2.out.keep HV.out); have V8 := Lib.hid (X8.out.keep HV.out); have V6 := Lib.hid (Q6.out.keep HV.out); clear z0 z1 z2 zf0 zf1 zf2; have z0 := V2.out.c0; have z1 := V2.out.c1; have z2 := V2.out.c2; have zf0 := V2.out.f0; have zf1 := V2.out.f1; have zf2 := V2.out.f2; have hv2 := V2.out.lt))
    go_wp2
    refine bodyPost_ret (v := .tuple #[.agg #[.slice A5 n5 c5, .slice B5 m5 d5, .slice C5 k5 f5], .int .i64 0]) (by simp [results, Try.results33, go_sem, z0, z1, z2] <;> rfl) rfl (bt_fin (H5.out.set3 V2.out) (below_set3 (below_then HB.out (below_then HU2.out HV.out)) (by simp) _ _ _) HN.out.symm HE.out.symm)
  · skip
    have hT := rtop0_no A B C n c m d k f b 1 W (HF.out.mono (by omega)) hk HL.out
    have HE : Hid (wdE b .else_ = -22) := Lib.hid (by show (if topK b = 1 then _ else (-22 : Int)) = -22; rw [if_neg hk])
    have HT := Lib.hid hT
    clear hT hk
    go_upto_region 2 with ((go_at_call 59; refine (HT.out).mono ?_; rintro e w1 ⟨rfl, hb1⟩; have HC1 := Lib.hid (below_then hb1 (below_one w1 (.cells #[.int .i64 0, .int .i64 0] 57))); have P6 := Lib.hid (Px.new w1 57 (.int .i64 0) (.int .i64 0)); have hw1 := hb1.size; clear hb1))
    generalize w1.alloc (.cells #[.int .i64 0, .int .i64 0] 57) = W1 at *
    have HU1 := Lib.hid (below_then HU0.out HC1.out)
    have Y1 := Lib.hid (X1.out.keep HC1.out)
    have Y2 := Lib.hid (X2.out.keep HC1.out)
    clear a0 a1 a2 af0 af1 af2 z0 z1 z2 zf0 zf1 zf2
    have a0 := Y1.out.c0; have a1 := Y1.out.c1; have a2 := Y1.out.c2; have af0 := Y1.out.f0; have af1 := Y1.out.f1; have af2 := Y1.out.f2
    have z0 := Y2.out.c0; have z1 := Y2.out.c1; have z2 := Y2.out.c2; have zf0 := Y2.out.f0; have zf1 := Y2.out.f1; have zf2 := Y2.out.f2
    have p0 := P6.out.c0
    have p1 := P6.out.c1
    have hY1 := Y1.out.lt
    have hY2 := Y2.out.lt
    have hP6 := P6.out.lt
    go_wp2
    refine bodyPost_ret (v := .tuple #[.agg #[.slice A n c, .slice B m d, .slice C k f], .int .i64 (-22)]) (by simp [results, Try.results33, go_sem, z0, z1, z2] <;> rfl) rfl (bt_fin (b' := b) ((HL.out.below HU1.out).set3 Y2.out) (below_set3 (below_then HB.out HU1.out) (by simp) _ _ _) (wdN_not HE.out).symm HE.out.symm)
end Go.Proofs.Ytkcpmjccggfpiaa
