/-
  What the words of package flow do to any thread that is sane: IF, ELSE, THEN, BEGIN, AGAIN, UNTIL, WHILE, DO, ?DO, LEAVE.
-/
import Derived.Test.YtkcpmjccggfpiaaFlowDo
namespace Go.Proofs.Ytkcpmjccggfpiaa
open Go.RowKit

theorem flThere_mono {n n' : Nat} {a : Int} (h : flThere n a = true) (hn : n ≤ n') : flThere n' a = true := by
  unfold flThere at *
  have := of_decide_eq_true h
  exact decide_eq_true (by omega)
theorem top_mem (b : Bd) (h : topK b ≠ 0) : (topK b, topA b) ∈ b.marks := by
  unfold topK topA at *
  cases hl : b.marks.getLast? with
  | none => rw [List.getLastD_eq_getLast?, hl] at h; exact absurd rfl h
  | some x => rw [List.getLastD_eq_getLast?, hl]; exact List.mem_of_getLast? hl
theorem sane_top (b : Bd) (hs : flSane b = true) (h : topK b ≠ 0) : flMark b.code.length (topK b, topA b) = true := by
  unfold flSane at hs
  simp only [Bool.and_eq_true, List.all_eq_true] at hs
  exact hs.1.2 _ (top_mem b h)
theorem sane_orig (b : Bd) (hs : flSane b = true) (h : topK b = 1) : flThere b.code.length (topA b) = true := by
  have := sane_top b hs (by omega)
  unfold flMark at this
  simp [h] at this
  exact this
theorem lay_len (b : Bd) (x : List (Int × Int)) : b.code.length ≤ (layB b x).code.length := by
  unfold layB
  split <;> simp
theorem ahead_len (b : Bd) (o : Int) : b.code.length ≤ (aheadB b o).code.length := lay_len b _

set_option maxHeartbeats 1000000 in
theorem doIf_any (A B C : Option Addr) (n c m d k f : Nat) (b : Bd) (w : World) (hF : Few 30000 b) (hS : flSane b = true) (h : Bl w A n c B m d C k f b) :
    Calls Try.prog 44 #[.agg #[.slice A n c, .slice B m d, .slice C k f]] w (BtPost w (wdB b .if_) (wdE b .if_)) := by
  have HF := Lib.hid hF
  have HS := Lib.hid hS
  clear hS
  obtain ⟨hn, hm, hk⟩ := h.ns hF
  have LC := Lib.hid h.1.len
  have LM := Lib.hid h.2.1.len
  have LO := Lib.hid h.2.2.len
  have H := Lib.hid h
  clear h hF
  have X1 := Lib.hid ((Bx.new w 30 (.slice A n c) (.slice B m d) (.slice C k f)).alloc (.cells #[.slice none 0 0, .slice none 0 0, .slice none 0 0] 30))
  have X2 := Lib.hid (Bx.new2 w (.cells #[.slice A n c, .slice B m d, .slice C k f] 30) 30 (.slice none 0 0) (.slice none 0 0) (.slice none 0 0))
  have HB := Lib.hid (below_two w (.cells #[.slice A n c, .slice B m d, .slice C k f] 30) (.cells #[.slice none 0 0, .slice none 0 0, .slice none 0 0] 30))
  go_enter Try.func44, Try.ntmps44
  go_upto_region 1 with (fail)
  generalize (w.alloc (.cells #[.slice A n c, .slice B m d, .slice C k f] 30)).alloc (.cells #[.slice none 0 0, .slice none 0 0, .slice none 0 0] 30) = W at *
  have hg1 : w.heap.size < W.heap.size := X1.out.lt
  have hg2 : w.heap.size + 1 < W.heap.size := X2.out.lt
  have HL := Lib.hid (H.out.below HB.out)
  have a0 := X1.out.c0; have a1 := X1.out.c1; have a2 := X1.out.c2; have af0 := X1.out.f0; have af1 := X1.out.f1; have af2 := X1.out.f2
  have z0 := X2.out.c0; have z1 := X2.out.c1; have z2 := X2.out.c2; have zf0 := X2.out.f0; have zf1 := X2.out.f1; have zf2 := X2.out.f2
  go_wp2_with (go_at_call 63; refine (ahead_any _ _ _ _ _ _ _ _ _ b 2 _ (HF.out.mono (by omega)) HL.out).mono ?_; rintro e w1 ⟨A1, n1, c1, B1, m1, d1, C1, k1, f1, rfl, h1, hb1⟩; have HB1 := Lib.hid (hb1); have H1 := Lib.hid h1; clear h1 hb1; have Y1 := Lib.hid (X1.out.keep HB1.out); have Y2 := Lib.hid (X2.out.keep HB1.out); clear a0 a1 a2 af0 af1 af2 z0 z1 z2 zf0 zf1 zf2; have a0 := Y1.out.c0; have a1 := Y1.out.c1; have a2 := Y1.out.c2; have af0 := Y1.out.f0; have af1 := Y1.out.f1; have af2 := Y1.out.f2; have z0 := Y2.out.c0; have z1 := Y2.out.c1; have z2 := Y2.out.c2; have zf0 := Y2.out.f0; have zf1 := Y2.out.f1; have zf2 := Y2.out.f2; have hY1 := Y1.out.lt; have hY2 := Y2.out.lt)
  refine bodyPost_ret (v := .tuple #[.agg #[.slice A1 n1 c1, .slice B1 m1 d1, .slice C1 k1 f1], .int .i64 (wdE b .if_)]) (by simp [results, Try.results44, go_sem, z0, z1, z2] <;> rfl) rfl (bt_fin (H1.out.set3 Y2.out) (below_set3 (below_then HB.out HB1.out) (by simp) _ _ _) rfl rfl)
set_option maxHeartbeats 1000000 in
theorem doDo_any (A B C : Option Addr) (n c m d k f : Nat) (b : Bd) (w : World) (hF : Few 30000 b) (hS : flSane b = true) (h : Bl w A n c B m d C k f b) :
    Calls Try.prog 52 #[.agg #[.slice A n c, .slice B m d, .slice C k f]] w (BtPost w (wdB b .do_) (wdE b .do_)) := by
  have HF := Lib.hid hF
  have HS := Lib.hid hS
  clear hS
  obtain ⟨hn, hm, hk⟩ := h.ns hF
  have LC := Lib.hid h.1.len
  have LM := Lib.hid h.2.1.len
  have LO := Lib.hid h.2.2.len
  have H := Lib.hid h
  clear h hF
  have X1 := Lib.hid ((Bx.new w 30 (.slice A n c) (.slice B m d) (.slice C k f)).alloc (.cells #[.slice none 0 0, .slice none 0 0, .slice none 0 0] 30))
  have X2 := Lib.hid (Bx.new2 w (.cells #[.slice A n c, .slice B m d, .slice C k f] 30) 30 (.slice none 0 0) (.slice none 0 0) (.slice none 0 0))
  have HB := Lib.hid (below_two w (.cells #[.slice A n c, .slice B m d, .slice C k f] 30) (.cells #[.slice none 0 0, .slice none 0 0, .slice none 0 0] 30))
  go_enter Try.func52, Try.ntmps52
  go_upto_region 1 with (fail)
  generalize (w.alloc (.cells #[.slice A n c, .slice B m d, .slice C k f] 30)).alloc (.cells #[.slice none 0 0, .slice none 0 0, .slice none 0 0] 30) = W at *
  have hg1 : w.heap.size < W.heap.size := X1.out.lt
  have hg2 : w.heap.size + 1 < W.heap.size := X2.out.lt
  have HL := Lib.hid (H.out.below HB.out)
  have a0 := X1.out.c0; have a1 := X1.out.c1; have a2 := X1.out.c2; have af0 := X1.out.f0; have af1 := X1.out.f1; have af2 := X1.out.f2
  have z0 := X2.out.c0; have z1 := X2.out.c1; have z2 := X2.out.c2; have zf0 := X2.out.f0; have zf1 := X2.out.f1; have zf2 := X2.out.f2
  go_wp2_with (go_at_call 68; refine (beginLoop_any _ _ _ _ _ _ _ _ _ b 5 _ (HF.out.mono (by omega)) HL.out).mono ?_; rintro e w1 ⟨A1, n1, c1, B1, m1, d1, C1, k1, f1, rfl, h1, hb1⟩; have HB1 := Lib.hid (hb1); have H1 := Lib.hid h1; clear h1 hb1; have Y1 := Lib.hid (X1.out.keep HB1.out); have Y2 := Lib.hid (X2.out.keep HB1.out); clear a0 a1 a2 af0 af1 af2 z0 z1 z2 zf0 zf1 zf2; have a0 := Y1.out.c0; have a1 := Y1.out.c1; have a2 := Y1.out.c2; have af0 := Y1.out.f0; have af1 := Y1.out.f1; have af2 := Y1.out.f2; have z0 := Y2.out.c0; have z1 := Y2.out.c1; have z2 := Y2.out.c2; have zf0 := Y2.out.f0; have zf1 := Y2.out.f1; have zf2 := Y2.out.f2; have hY1 := Y1.out.lt; have hY2 := Y2.out.lt)
  refine bodyPost_ret (v := .tuple #[.agg #[.slice A1 n1 c1, .slice B1 m1 d1, .slice C1 k1 f1], .int .i64 (wdE b .do_)]) (by simp [results, Try.results52, go_sem, z0, z1, z2] <;> rfl) rfl (bt_fin (H1.out.set3 Y2.out) (below_set3 (below_then HB.out HB1.out) (by simp) _ _ _) rfl rfl)
set_option maxHeartbeats 1000000 in
theorem doAgain_any (A B C : Option Addr) (n c m d k f : Nat) (b : Bd) (w : World) (hF : Few 30000 b) (hS : flSane b = true) (h : Bl w A n c B m d C k f b) :
    Calls Try.prog 48 #[.agg #[.slice A n c, .slice B m d, .slice C k f]] w (BtPost w (wdB b .again) (wdE b .again)) := by
  have HF := Lib.hid hF
  have HS := Lib.hid hS
  clear hS
  obtain ⟨hn, hm, hk⟩ := h.ns hF
  have LC := Lib.hid h.1.len
  have LM := Lib.hid h.2.1.len
  have LO := Lib.hid h.2.2.len
  have H := Lib.hid h
  clear h hF
  have X1 := Lib.hid ((Bx.new w 30 (.slice A n c) (.slice B m d) (.slice C k f)).alloc (.cells #[.slice none 0 0, .slice none 0 0, .slice none 0 0] 30))
  have X2 := Lib.hid (Bx.new2 w (.cells #[.slice A n c, .slice B m d, .slice C k f] 30) 30 (.slice none 0 0) (.slice none 0 0) (.slice none 0 0))
  have HB := Lib.hid (below_two w (.cells #[.slice A n c, .slice B m d, .slice C k f] 30) (.cells #[.slice none 0 0, .slice none 0 0, .slice none 0 0] 30))
  go_enter Try.func48, Try.ntmps48
  go_upto_region 1 with (fail)
  generalize (w.alloc (.cells #[.slice A n c, .slice B m d, .slice C k f] 30)).alloc (.cells #[.slice none 0 0, .slice none 0 0, .slice none 0 0] 30) = W at *
  have hg1 : w.heap.size < W.heap.size := X1.out.lt
  have hg2 : w.heap.size + 1 < W.heap.size := X2.out.lt
  have HL := Lib.hid (H.out.below HB.out)
  have a0 := X1.out.c0; have a1 := X1.out.c1; have a2 := X1.out.c2; have af0 := X1.out.f0; have af1 := X1.out.f1; have af2 := X1.out.f2
  have z0 := X2.out.c0; have z1 := X2.out.c1; have z2 := X2.out.c2; have zf0 := X2.out.f0; have zf1 := X2.out.f1; have zf2 := X2.out.f2
  go_wp2_with (go_at_call 67; refine (back_any _ _ _ _ _ _ _ _ _ b 2 1 _ (HF.out.mono (by omega)) (by decide) HL.out).mono ?_; rintro e w1 ⟨A1, n1, c1, B1, m1, d1, C1, k1, f1, rfl, h1, hb1⟩; have HB1 := Lib.hid (hb1); have H1 := Lib.hid h1; clear h1 hb1; have Y1 := Lib.hid (X1.out.keep HB1.out); have Y2 := Lib.hid (X2.out.keep HB1.out); clear a0 a1 a2 af0 af1 af2 z0 z1 z2 zf0 zf1 zf2; have a0 := Y1.out.c0; have a1 := Y1.out.c1; have a2 := Y1.out.c2; have af0 := Y1.out.f0; have af1 := Y1.out.f1; have af2 := Y1.out.f2; have z0 := Y2.out.c0; have z1 := Y2.out.c1; have z2 := Y2.out.c2; have zf0 := Y2.out.f0; have zf1 := Y2.out.f1; have zf2 := Y2.out.f2; have hY1 := Y1.out.lt; have hY2 := Y2.out.lt)
  refine bodyPost_ret (v := .tuple #[.agg #[.slice A1 n1 c1, .slice B1 m1 d1, .slice C1 k1 f1], .int .i64 (wdE b .again)]) (by simp [results, Try.results48, go_sem, z0, z1, z2] <;> rfl) rfl (bt_fin (H1.out.set3 Y2.out) (below_set3 (below_then HB.out HB1.out) (by simp) _ _ _) rfl rfl)
set_option maxHeartbeats 1000000 in
theorem doUntil_any (A B C : Option Addr) (n c m d k f : Nat) (b : Bd) (w : World) (hF : Few 30000 b) (hS : flSane b = true) (h : Bl w A n c B m d C k f b) :
    Calls Try.prog 49 #[.agg #[.slice A n c, .slice B m d, .slice C k f]] w (BtPost w (wdB b .until_) (wdE b .until_)) := by
  have HF := Lib.hid hF
  have HS := Lib.hid hS
  clear hS
  obtain ⟨hn, hm, hk⟩ := h.ns hF
  have LC := Lib.hid h.1.len
  have LM := Lib.hid h.2.1.len
  have LO := Lib.hid h.2.2.len
  have H := Lib.hid h
  clear h hF
  have X1 := Lib.hid ((Bx.new w 30 (.slice A n c) (.slice B m d) (.slice C k f)).alloc (.cells #[.slice none 0 0, .slice none 0 0, .slice none 0 0] 30))
  have X2 := Lib.hid (Bx.new2 w (.cells #[.slice A n c, .slice B m d, .slice C k f] 30) 30 (.slice none 0 0) (.slice none 0 0) (.slice none 0 0))
  have HB := Lib.hid (below_two w (.cells #[.slice A n c, .slice B m d, .slice C k f] 30) (.cells #[.slice none 0 0, .slice none 0 0, .slice none 0 0] 30))
  go_enter Try.func49, Try.ntmps49
  go_upto_region 1 with (fail)
  generalize (w.alloc (.cells #[.slice A n c, .slice B m d, .slice C k f] 30)).alloc (.cells #[.slice none 0 0, .slice none 0 0, .slice none 0 0] 30) = W at *
  have hg1 : w.heap.size < W.heap.size := X1.out.lt
  have hg2 : w.heap.size + 1 < W.heap.size := X2.out.lt
  have HL := Lib.hid (H.out.below HB.out)
  have a0 := X1.out.c0; have a1 := X1.out.c1; have a2 := X1.out.c2; have af0 := X1.out.f0; have af1 := X1.out.f1; have af2 := X1.out.f2
  have z0 := X2.out.c0; have z1 := X2.out.c1; have z2 := X2.out.c2; have zf0 := X2.out.f0; have zf1 := X2.out.f1; have zf2 := X2.out.f2
  go_wp2_with (go_at_call 67; refine (back_any _ _ _ _ _ _ _ _ _ b 2 2 _ (HF.out.mono (by omega)) (by decide) HL.out).mono ?_; rintro e w1 ⟨A1, n1, c1, B1, m1, d1, C1, k1, f1, rfl, h1, hb1⟩; have HB1 := Lib.hid (hb1); have H1 := Lib.hid h1; clear h1 hb1; have Y1 := Lib.hid (X1.out.keep HB1.out); have Y2 := Lib.hid (X2.out.keep HB1.out); clear a0 a1 a2 af0 af1 af2 z0 z1 z2 zf0 zf1 zf2; have a0 := Y1.out.c0; have a1 := Y1.out.c1; have a2 := Y1.out.c2; have af0 := Y1.out.f0; have af1 := Y1.out.f1; have af2 := Y1.out.f2; have z0 := Y2.out.c0; have z1 := Y2.out.c1; have z2 := Y2.out.c2; have zf0 := Y2.out.f0; have zf1 := Y2.out.f1; have zf2 := Y2.out.f2; have hY1 := Y1.out.lt; have hY2 := Y2.out.lt)
  refine bodyPost_ret (v := .tuple #[.agg #[.slice A1 n1 c1, .slice B1 m1 d1, .slice C1 k1 f1], .int .i64 (wdE b .until_)]) (by simp [results, Try.results49, go_sem, z0, z1, z2] <;> rfl) rfl (bt_fin (H1.out.set3 Y2.out) (below_set3 (below_then HB.out HB1.out) (by simp) _ _ _) rfl rfl)

set_option maxHeartbeats 1000000 in
theorem doBegin_any (A B C : Option Addr) (n c m d k f : Nat) (b : Bd) (w : World) (hF : Few 30000 b) (hS : flSane b = true) (h : Bl w A n c B m d C k f b) :
    Calls Try.prog 47 #[.agg #[.slice A n c, .slice B m d, .slice C k f]] w (BtPost w (wdB b .begin_) (wdE b .begin_)) := by
  have HF := Lib.hid hF
  have HS := Lib.hid hS
  clear hS
  obtain ⟨hn, hm, hk⟩ := h.ns hF
  have LC := Lib.hid h.1.len
  have LM := Lib.hid h.2.1.len
  have LO := Lib.hid h.2.2.len
  have H := Lib.hid h
  clear h hF
  have X1 := Lib.hid ((Bx.new w 30 (.slice A n c) (.slice B m d) (.slice C k f)).alloc (.cells #[.slice none 0 0, .slice none 0 0, .slice none 0 0] 30))
  have X2 := Lib.hid (Bx.new2 w (.cells #[.slice A n c, .slice B m d, .slice C k f] 30) 30 (.slice none 0 0) (.slice none 0 0) (.slice none 0 0))
  have HB := Lib.hid (below_two w (.cells #[.slice A n c, .slice B m d, .slice C k f] 30) (.cells #[.slice none 0 0, .slice none 0 0, .slice none 0 0] 30))
  go_enter Try.func47, Try.ntmps47
  go_upto_region 1 with (fail)
  generalize (w.alloc (.cells #[.slice A n c, .slice B m d, .slice C k f] 30)).alloc (.cells #[.slice none 0 0, .slice none 0 0, .slice none 0 0] 30) = W at *
  have hg1 : w.heap.size < W.heap.size := X1.out.lt
  have hg2 : w.heap.size + 1 < W.heap.size := X2.out.lt
  have HL := Lib.hid (H.out.below HB.out)
  have a0 := X1.out.c0; have a1 := X1.out.c1; have a2 := X1.out.c2; have af0 := X1.out.f0; have af1 := X1.out.f1; have af2 := X1.out.f2
  have z0 := X2.out.c0; have z1 := X2.out.c1; have z2 := X2.out.c2; have zf0 := X2.out.f0; have zf1 := X2.out.f1; have zf2 := X2.out.f2
  go_wp2_with (go_at_call 66; refine (mark_any _ _ _ _ _ _ _ _ _ b 2 (n : Int) _ (HF.out.mono (by omega)) HL.out).mono ?_; rintro e w1 ⟨A1, n1, c1, B1, m1, d1, C1, k1, f1, rfl, h1, hb1⟩; have HB1 := Lib.hid (hb1); have H1 := Lib.hid h1; clear h1 hb1; have Y1 := Lib.hid (X1.out.keep HB1.out); have Y2 := Lib.hid (X2.out.keep HB1.out); clear a0 a1 a2 af0 af1 af2 z0 z1 z2 zf0 zf1 zf2; have a0 := Y1.out.c0; have a1 := Y1.out.c1; have a2 := Y1.out.c2; have af0 := Y1.out.f0; have af1 := Y1.out.f1; have af2 := Y1.out.f2; have z0 := Y2.out.c0; have z1 := Y2.out.c1; have z2 := Y2.out.c2; have zf0 := Y2.out.f0; have zf1 := Y2.out.f1; have zf2 := Y2.out.f2; have hY1 := Y1.out.lt; have hY2 := Y2.out.lt)
  refine bodyPost_ret (v := .tuple #[.agg #[.slice A1 n1 c1, .slice B1 m1 d1, .slice C1 k1 f1], .int .i64 0]) (by simp [results, Try.results47, go_sem, z0, z1, z2] <;> rfl) rfl (bt_fin (H1.out.set3 Y2.out) (below_set3 (below_then HB.out HB1.out) (by simp) _ _ _) (by unfold wdB; rw [LC.out]) rfl)

set_option maxHeartbeats 1000000 in
theorem doThen_any (A B C : Option Addr) (n c m d k f : Nat) (b : Bd) (w : World) (hF : Few 30000 b) (hS : flSane b = true) (h : Bl w A n c B m d C k f b) :
    Calls Try.prog 46 #[.agg #[.slice A n c, .slice B m d, .slice C k f]] w (BtPost w (wdB b .then_) (wdE b .then_)) := by
  have HF := Lib.hid hF
  have HS := Lib.hid hS
  clear hS
  obtain ⟨hn, hm, hk⟩ := h.ns hF
  have LC := Lib.hid h.1.len
  have LM := Lib.hid h.2.1.len
  have LO := Lib.hid h.2.2.len
  have H := Lib.hid h
  clear h hF
  have X1 := Lib.hid ((Bx.new w 30 (.slice A n c) (.slice B m d) (.slice C k f)).alloc (.cells #[.slice none 0 0, .slice none 0 0, .slice none 0 0] 30))
  have X2 := Lib.hid (Bx.new2 w (.cells #[.slice A n c, .slice B m d, .slice C k f] 30) 30 (.slice none 0 0) (.slice none 0 0) (.slice none 0 0))
  have HB := Lib.hid (below_two w (.cells #[.slice A n c, .slice B m d, .slice C k f] 30) (.cells #[.slice none 0 0, .slice none 0 0, .slice none 0 0] 30))
  go_enter Try.func46, Try.ntmps46
  go_upto_region 1 with (fail)
  generalize (w.alloc (.cells #[.slice A n c, .slice B m d, .slice C k f] 30)).alloc (.cells #[.slice none 0 0, .slice none 0 0, .slice none 0 0] 30) = W at *
  have hg1 : w.heap.size < W.heap.size := X1.out.lt
  have hg2 : w.heap.size + 1 < W.heap.size := X2.out.lt
  have HL := Lib.hid (H.out.below HB.out)
  have a0 := X1.out.c0; have a1 := X1.out.c1; have a2 := X1.out.c2; have af0 := X1.out.f0; have af1 := X1.out.f1; have af2 := X1.out.f2
  have z0 := X2.out.c0; have z1 := X2.out.c1; have z2 := X2.out.c2; have zf0 := X2.out.f0; have zf1 := X2.out.f1; have zf2 := X2.out.f2
  by_cases ht : topK b = 1
  · have HK := Lib.hid ht
    clear ht
    go_upto_region 2 with ((go_at_call 64; refine (take_yes _ _ _ _ _ _ _ _ _ b 1 _ (HF.out.mono (by omega)) HK.out (by decide) HL.out).mono ?_; rintro e w1 ⟨A1, n1, c1, B1, m1, d1, C1, k1, f1, rfl, h1, hb1⟩; have HB1 := Lib.hid (hb1); have H1 := Lib.hid h1; clear h1 hb1; have Y1 := Lib.hid (X1.out.keep HB1.out); have Y2 := Lib.hid (X2.out.keep HB1.out); clear a0 a1 a2 af0 af1 af2 z0 z1 z2 zf0 zf1 zf2; have a0 := Y1.out.c0; have a1 := Y1.out.c1; have a2 := Y1.out.c2; have af0 := Y1.out.f0; have af1 := Y1.out.f1; have af2 := Y1.out.f2; have z0 := Y2.out.c0; have z1 := Y2.out.c1; have z2 := Y2.out.c2; have zf0 := Y2.out.f0; have zf1 := Y2.out.f1; have zf2 := Y2.out.f2; have hY1 := Y1.out.lt; have hY2 := Y2.out.lt; have U1 := Lib.hid (Y1.out.set3 (.slice A1 n1 c1) (.slice B1 m1 d1) (.slice C1 k1 f1)); have U2 := Lib.hid (Y2.out.other3 (g' := w.heap.size) (by simp) (.slice A1 n1 c1) (.slice B1 m1 d1) (.slice C1 k1 f1)); have UB := Lib.hid (below_set3 (g := w.heap.size) (below_then HB.out HB1.out) (Nat.le_refl _) (.slice A1 n1 c1) (.slice B1 m1 d1) (.slice C1 k1 f1))))
    have V1 := Lib.hid (U1.out.alloc (.cells #[.int .i64 1, .int .i64 (topA b)] 62))
    have V2 := Lib.hid (U2.out.alloc (.cells #[.int .i64 1, .int .i64 (topA b)] 62))
    have VP := Lib.hid (Px.new_set3 w1 w.heap.size 62 (.int .i64 1) (.int .i64 (topA b)) (.slice A1 n1 c1) (.slice B1 m1 d1) (.slice C1 k1 f1))
    have VB := Lib.hid (UB.out.alloc UB.out.size (.cells #[.int .i64 1, .int .i64 (topA b)] 62))
    have HV := Lib.hid ((H1.out.set3 Y1.out (B1 := A1) (p1 := n1) (e1 := c1) (B2 := B1) (p2 := m1) (e2 := d1) (B3 := C1) (p3 := k1) (e3 := f1)).alloc (.cells #[.int .i64 1, .int .i64 (topA b)] 62))
    have hP1 : w1.heap.size < ((((w1.setCell ⟨w.heap.size, 0, none⟩ (.slice A1 n1 c1)).setCell ⟨w.heap.size, 1, none⟩ (.slice B1 m1 d1)).setCell ⟨w.heap.size, 2, none⟩ (.slice C1 k1 f1)).alloc (.cells #[.int .i64 1, .int .i64 (topA b)] 62)).heap.size := VP.out.lt
    generalize (((w1.setCell ⟨w.heap.size, 0, none⟩ (.slice A1 n1 c1)).setCell ⟨w.heap.size, 1, none⟩ (.slice B1 m1 d1)).setCell ⟨w.heap.size, 2, none⟩ (.slice C1 k1 f1)).alloc (.cells #[.int .i64 1, .int .i64 (topA b)] 62) = W1 at *
    have hd11 : ¬ w1.heap.size = w.heap.size := by omega
    have hd21 : ¬ w1.heap.size = w.heap.size + 1 := by omega
    clear a0 a1 a2 af0 af1 af2 z0 z1 z2 zf0 zf1 zf2
    have a0 := V1.out.c0; have a1 := V1.out.c1; have a2 := V1.out.c2; have af0 := V1.out.f0; have af1 := V1.out.f1; have af2 := V1.out.f2
    have z0 := V2.out.c0; have z1 := V2.out.c1; have z2 := V2.out.c2; have zf0 := V2.out.f0; have zf1 := V2.out.f1; have zf2 := V2.out.f2
    have p10 := VP.out.c0; have p11 := VP.out.c1; have hV1 := V1.out.lt; have hV2 := V2.out.lt
    go_wp2_with (go_at_call 65; refine (resolve_any _ _ _ _ _ _ _ _ _ (takeB b) _ _ _ [topA b] _ (HF.out.take.mono (by omega)) (by omega) (HV.out.alloc _) (Ints.new1 _ _ _) (by intro a ha; simp at ha; subst ha; exact sane_orig b HS.out HK.out)).mono ?_; rintro e w2 ⟨A2, n2, c2, B2, m2, d2, C2, k2, f2, rfl, h2, hb2⟩; have HB2 := Lib.hid (below_new hb2); have H2 := Lib.hid h2; clear h2 hb2; have Z1 := Lib.hid (V1.out.keep HB2.out); have Z2 := Lib.hid (V2.out.keep HB2.out); clear a0 a1 a2 af0 af1 af2 z0 z1 z2 zf0 zf1 zf2; have a0 := Z1.out.c0; have a1 := Z1.out.c1; have a2 := Z1.out.c2; have af0 := Z1.out.f0; have af1 := Z1.out.f1; have af2 := Z1.out.f2; have z0 := Z2.out.c0; have z1 := Z2.out.c1; have z2 := Z2.out.c2; have zf0 := Z2.out.f0; have zf1 := Z2.out.f1; have zf2 := Z2.out.f2; have hZ1 := Z1.out.lt; have hZ2 := Z2.out.lt)
    refine bodyPost_ret (v := .tuple #[.agg #[.slice A2 n2 c2, .slice B2 m2 d2, .slice C2 k2 f2], .int .i64 0]) (by simp [results, Try.results46, go_sem, z0, z1, z2] <;> rfl) rfl (bt_fin (H2.out.set3 Z2.out) (below_set3 (below_then VB.out HB2.out) (by simp) _ _ _) (by simp only [wdB]; rw [if_pos HK.out]) (by simp only [wdE]; rw [if_pos HK.out]))
  · have HK := Lib.hid ht
    clear ht
    go_wp2_with (go_at_call 64; refine (take_no _ _ _ _ _ _ _ _ _ b 1 _ (HF.out.mono (by omega)) HK.out HL.out).mono ?_; rintro e w1 ⟨A1, n1, c1, B1, m1, d1, C1, k1, f1, rfl, h1, hb1⟩; have HB1 := Lib.hid hb1; have H1 := Lib.hid h1; clear h1 hb1; have Y1 := Lib.hid (X1.out.keep HB1.out); have Y2 := Lib.hid (X2.out.keep HB1.out); clear a0 a1 a2 af0 af1 af2 z0 z1 z2 zf0 zf1 zf2; have a0 := Y1.out.c0; have a1 := Y1.out.c1; have a2 := Y1.out.c2; have af0 := Y1.out.f0; have af1 := Y1.out.f1; have af2 := Y1.out.f2; have z0 := Y2.out.c0; have z1 := Y2.out.c1; have z2 := Y2.out.c2; have zf0 := Y2.out.f0; have zf1 := Y2.out.f1; have zf2 := Y2.out.f2; have hY1 := Y1.out.lt; have hY2 := Y2.out.lt; have U1 := Lib.hid (Y1.out.set3 (.slice A1 n1 c1) (.slice B1 m1 d1) (.slice C1 k1 f1)); have U2 := Lib.hid (Y2.out.other3 (g' := w.heap.size) (by simp) (.slice A1 n1 c1) (.slice B1 m1 d1) (.slice C1 k1 f1)); have UB := Lib.hid (below_set3 (g := w.heap.size) (below_then HB.out HB1.out) (Nat.le_refl _) (.slice A1 n1 c1) (.slice B1 m1 d1) (.slice C1 k1 f1)))
    refine bodyPost_ret (v := .tuple #[.agg #[.slice A1 n1 c1, .slice B1 m1 d1, .slice C1 k1 f1], .int .i64 (-22)]) (by simp [results, Try.results46, go_sem, z0, z1, z2, hY2] <;> rfl) rfl (bt_fin (((H1.out.set3 Y1.out (B1 := A1) (p1 := n1) (e1 := c1) (B2 := B1) (p2 := m1) (e2 := d1) (B3 := C1) (p3 := k1) (e3 := f1)).set3 U2.out).alloc _) ((below_set3 (g := w.heap.size + 1) UB.out (by omega) _ _ _).alloc (by have := UB.out.size; simpa [World.setCell] using this) _) (by simp only [wdB]; rw [if_neg HK.out]) (by simp only [wdE]; rw [if_neg HK.out]))

set_option maxHeartbeats 1000000 in
theorem doElse_any (A B C : Option Addr) (n c m d k f : Nat) (b : Bd) (w : World) (hF : Few 30000 b) (hS : flSane b = true) (h : Bl w A n c B m d C k f b) :
    Calls Try.prog 45 #[.agg #[.slice A n c, .slice B m d, .slice C k f]] w (BtPost w (wdB b .else_) (wdE b .else_)) := by
  have HF := Lib.hid hF
  have HS := Lib.hid hS
  clear hS
  obtain ⟨hn, hm, hk⟩ := h.ns hF
  have LC := Lib.hid h.1.len
  have LM := Lib.hid h.2.1.len
  have LO := Lib.hid h.2.2.len
  have H := Lib.hid h
  clear h hF
  have X1 := Lib.hid ((Bx.new w 30 (.slice A n c) (.slice B m d) (.slice C k f)).alloc (.cells #[.slice none 0 0, .slice none 0 0, .slice none 0 0] 30))
  have X2 := Lib.hid (Bx.new2 w (.cells #[.slice A n c, .slice B m d, .slice C k f] 30) 30 (.slice none 0 0) (.slice none 0 0) (.slice none 0 0))
  have HB := Lib.hid (below_two w (.cells #[.slice A n c, .slice B m d, .slice C k f] 30) (.cells #[.slice none 0 0, .slice none 0 0, .slice none 0 0] 30))
  go_enter Try.func45, Try.ntmps45
  go_upto_region 1 with (fail)
  generalize (w.alloc (.cells #[.slice A n c, .slice B m d, .slice C k f] 30)).alloc (.cells #[.slice none 0 0, .slice none 0 0, .slice none 0 0] 30) = W at *
  have hg1 : w.heap.size < W.heap.size := X1.out.lt
  have hg2 : w.heap.size + 1 < W.heap.size := X2.out.lt
  have HL := Lib.hid (H.out.below HB.out)
  have a0 := X1.out.c0; have a1 := X1.out.c1; have a2 := X1.out.c2; have af0 := X1.out.f0; have af1 := X1.out.f1; have af2 := X1.out.f2
  have z0 := X2.out.c0; have z1 := X2.out.c1; have z2 := X2.out.c2; have zf0 := X2.out.f0; have zf1 := X2.out.f1; have zf2 := X2.out.f2
  by_cases ht : topK b = 1
  · have HK := Lib.hid ht
    clear ht
    go_upto_region 2 with ((go_at_call 64; refine (take_yes _ _ _ _ _ _ _ _ _ b 1 _ (HF.out.mono (by omega)) HK.out (by decide) HL.out).mono ?_; rintro e w1 ⟨A1, n1, c1, B1, m1, d1, C1, k1, f1, rfl, h1, hb1⟩; have HB1 := Lib.hid (hb1); have H1 := Lib.hid h1; clear h1 hb1; have Y1 := Lib.hid (X1.out.keep HB1.out); have Y2 := Lib.hid (X2.out.keep HB1.out); clear a0 a1 a2 af0 af1 af2 z0 z1 z2 zf0 zf1 zf2; have a0 := Y1.out.c0; have a1 := Y1.out.c1; have a2 := Y1.out.c2; have af0 := Y1.out.f0; have af1 := Y1.out.f1; have af2 := Y1.out.f2; have z0 := Y2.out.c0; have z1 := Y2.out.c1; have z2 := Y2.out.c2; have zf0 := Y2.out.f0; have zf1 := Y2.out.f1; have zf2 := Y2.out.f2; have hY1 := Y1.out.lt; have hY2 := Y2.out.lt; have U1 := Lib.hid (Y1.out.set3 (.slice A1 n1 c1) (.slice B1 m1 d1) (.slice C1 k1 f1)); have U2 := Lib.hid (Y2.out.other3 (g' := w.heap.size) (by simp) (.slice A1 n1 c1) (.slice B1 m1 d1) (.slice C1 k1 f1)); have UB := Lib.hid (below_set3 (g := w.heap.size) (below_then HB.out HB1.out) (Nat.le_refl _) (.slice A1 n1 c1) (.slice B1 m1 d1) (.slice C1 k1 f1))))
    have V1 := Lib.hid (U1.out.alloc (.cells #[.int .i64 1, .int .i64 (topA b)] 62))
    have V2 := Lib.hid (U2.out.alloc (.cells #[.int .i64 1, .int .i64 (topA b)] 62))
    have VP := Lib.hid (Px.new_set3 w1 w.heap.size 62 (.int .i64 1) (.int .i64 (topA b)) (.slice A1 n1 c1) (.slice B1 m1 d1) (.slice C1 k1 f1))
    have VB := Lib.hid (UB.out.alloc UB.out.size (.cells #[.int .i64 1, .int .i64 (topA b)] 62))
    have HV := Lib.hid ((H1.out.set3 Y1.out (B1 := A1) (p1 := n1) (e1 := c1) (B2 := B1) (p2 := m1) (e2 := d1) (B3 := C1) (p3 := k1) (e3 := f1)).alloc (.cells #[.int .i64 1, .int .i64 (topA b)] 62))
    have hP1 : w1.heap.size < ((((w1.setCell ⟨w.heap.size, 0, none⟩ (.slice A1 n1 c1)).setCell ⟨w.heap.size, 1, none⟩ (.slice B1 m1 d1)).setCell ⟨w.heap.size, 2, none⟩ (.slice C1 k1 f1)).alloc (.cells #[.int .i64 1, .int .i64 (topA b)] 62)).heap.size := VP.out.lt
    generalize (((w1.setCell ⟨w.heap.size, 0, none⟩ (.slice A1 n1 c1)).setCell ⟨w.heap.size, 1, none⟩ (.slice B1 m1 d1)).setCell ⟨w.heap.size, 2, none⟩ (.slice C1 k1 f1)).alloc (.cells #[.int .i64 1, .int .i64 (topA b)] 62) = W1 at *
    have hd11 : ¬ w1.heap.size = w.heap.size := by omega
    have hd21 : ¬ w1.heap.size = w.heap.size + 1 := by omega
    clear a0 a1 a2 af0 af1 af2 z0 z1 z2 zf0 zf1 zf2
    have a0 := V1.out.c0; have a1 := V1.out.c1; have a2 := V1.out.c2; have af0 := V1.out.f0; have af1 := V1.out.f1; have af2 := V1.out.f2
    have z0 := V2.out.c0; have z1 := V2.out.c1; have z2 := V2.out.c2; have zf0 := V2.out.f0; have zf1 := V2.out.f1; have zf2 := V2.out.f2
    have p10 := VP.out.c0; have p11 := VP.out.c1; have hV1 := V1.out.lt; have hV2 := V2.out.lt
    go_upto_region 5 with (go_at_call 63; refine (ahead_any _ _ _ _ _ _ _ _ _ (takeB b) 1 _ (HF.out.take.mono (by omega)) HV.out).mono ?_; rintro e w2 ⟨A2, n2, c2, B2, m2, d2, C2, k2, f2, rfl, h2, hb2⟩; have HB2 := Lib.hid (hb2); have H2 := Lib.hid h2; clear h2 hb2; have Z1 := Lib.hid (V1.out.keep HB2.out); have Z2 := Lib.hid (V2.out.keep HB2.out); clear a0 a1 a2 af0 af1 af2 z0 z1 z2 zf0 zf1 zf2; have a0 := Z1.out.c0; have a1 := Z1.out.c1; have a2 := Z1.out.c2; have af0 := Z1.out.f0; have af1 := Z1.out.f1; have af2 := Z1.out.f2; have z0 := Z2.out.c0; have z1 := Z2.out.c1; have z2 := Z2.out.c2; have zf0 := Z2.out.f0; have zf1 := Z2.out.f1; have zf2 := Z2.out.f2; have hZ1 := Z1.out.lt; have hZ2 := Z2.out.lt)
    have Q1 := Lib.hid (Z1.out.set3 (.slice A2 n2 c2) (.slice B2 m2 d2) (.slice C2 k2 f2))
    have Q2 := Lib.hid (Z2.out.other3 (g' := w.heap.size) (by simp) (.slice A2 n2 c2) (.slice B2 m2 d2) (.slice C2 k2 f2))
    have QB := Lib.hid (below_set3 (g := w.heap.size) (below_then VB.out HB2.out) (Nat.le_refl _) (.slice A2 n2 c2) (.slice B2 m2 d2) (.slice C2 k2 f2))
    have HQ := Lib.hid (H2.out.set3 Z1.out (B1 := A2) (p1 := n2) (e1 := c2) (B2 := B2) (p2 := m2) (e2 := d2) (B3 := C2) (p3 := k2) (e3 := f2))
    have QP := Lib.hid ((VP.out.keep HB2.out).other3 (g' := w.heap.size) hd11 (.slice A2 n2 c2) (.slice B2 m2 d2) (.slice C2 k2 f2))
    generalize (((w2.setCell ⟨w.heap.size, 0, none⟩ (.slice A2 n2 c2)).setCell ⟨w.heap.size, 1, none⟩ (.slice B2 m2 d2)).setCell ⟨w.heap.size, 2, none⟩ (.slice C2 k2 f2)) = W2 at *
    clear a0 a1 a2 af0 af1 af2 z0 z1 z2 zf0 zf1 zf2
    have a0 := Q1.out.c0; have a1 := Q1.out.c1; have a2 := Q1.out.c2; have af0 := Q1.out.f0; have af1 := Q1.out.f1; have af2 := Q1.out.f2
    have z0 := Q2.out.c0; have z1 := Q2.out.c1; have z2 := Q2.out.c2; have zf0 := Q2.out.f0; have zf1 := Q2.out.f1; have zf2 := Q2.out.f2
    have hQ1 := Q1.out.lt; have hQ2 := Q2.out.lt
    have cQP := QP.out.c1
    go_wp2_with (go_at_call 65; refine (resolve_any _ _ _ _ _ _ _ _ _ (aheadB (takeB b) 1) _ _ _ [topA b] _ ((HF.out.take.ahead 1).mono (by omega)) (by omega) (HQ.out.alloc _) (Ints.new1 _ _ _) (by intro a ha; simp at ha; subst ha; exact flThere_mono (sane_orig b HS.out HK.out) (ahead_len (takeB b) 1))).mono ?_; rintro e w3 ⟨A3, n3, c3, B3, m3, d3, C3, k3, f3, rfl, h3, hb3⟩; have HB3 := Lib.hid (below_new hb3); have H3 := Lib.hid h3; clear h3 hb3; have T1 := Lib.hid (Q1.out.keep HB3.out); have T2 := Lib.hid (Q2.out.keep HB3.out); clear a0 a1 a2 af0 af1 af2 z0 z1 z2 zf0 zf1 zf2; have a0 := T1.out.c0; have a1 := T1.out.c1; have a2 := T1.out.c2; have af0 := T1.out.f0; have af1 := T1.out.f1; have af2 := T1.out.f2; have z0 := T2.out.c0; have z1 := T2.out.c1; have z2 := T2.out.c2; have zf0 := T2.out.f0; have zf1 := T2.out.f1; have zf2 := T2.out.f2; have hT1 := T1.out.lt; have hT2 := T2.out.lt)
    refine bodyPost_ret (v := .tuple #[.agg #[.slice A3 n3 c3, .slice B3 m3 d3, .slice C3 k3 f3], .int .i64 (layE (takeB b) 1)]) (by simp [results, Try.results45, go_sem, z0, z1, z2] <;> rfl) rfl (bt_fin (H3.out.set3 T2.out) (below_set3 (below_then QB.out HB3.out) (by simp) _ _ _) (by simp only [wdB]; rw [if_pos HK.out]) (by simp only [wdE]; rw [if_pos HK.out]; rfl))
  · have HK := Lib.hid ht
    clear ht
    go_wp2_with (go_at_call 64; refine (take_no _ _ _ _ _ _ _ _ _ b 1 _ (HF.out.mono (by omega)) HK.out HL.out).mono ?_; rintro e w1 ⟨A1, n1, c1, B1, m1, d1, C1, k1, f1, rfl, h1, hb1⟩; have HB1 := Lib.hid hb1; have H1 := Lib.hid h1; clear h1 hb1; have Y1 := Lib.hid (X1.out.keep HB1.out); have Y2 := Lib.hid (X2.out.keep HB1.out); clear a0 a1 a2 af0 af1 af2 z0 z1 z2 zf0 zf1 zf2; have a0 := Y1.out.c0; have a1 := Y1.out.c1; have a2 := Y1.out.c2; have af0 := Y1.out.f0; have af1 := Y1.out.f1; have af2 := Y1.out.f2; have z0 := Y2.out.c0; have z1 := Y2.out.c1; have z2 := Y2.out.c2; have zf0 := Y2.out.f0; have zf1 := Y2.out.f1; have zf2 := Y2.out.f2; have hY1 := Y1.out.lt; have hY2 := Y2.out.lt; have U1 := Lib.hid (Y1.out.set3 (.slice A1 n1 c1) (.slice B1 m1 d1) (.slice C1 k1 f1)); have U2 := Lib.hid (Y2.out.other3 (g' := w.heap.size) (by simp) (.slice A1 n1 c1) (.slice B1 m1 d1) (.slice C1 k1 f1)); have UB := Lib.hid (below_set3 (g := w.heap.size) (below_then HB.out HB1.out) (Nat.le_refl _) (.slice A1 n1 c1) (.slice B1 m1 d1) (.slice C1 k1 f1)))
    refine bodyPost_ret (v := .tuple #[.agg #[.slice A1 n1 c1, .slice B1 m1 d1, .slice C1 k1 f1], .int .i64 (-22)]) (by simp [results, Try.results45, go_sem, z0, z1, z2, hY2] <;> rfl) rfl (bt_fin (((H1.out.set3 Y1.out (B1 := A1) (p1 := n1) (e1 := c1) (B2 := B1) (p2 := m1) (e2 := d1) (B3 := C1) (p3 := k1) (e3 := f1)).set3 U2.out).alloc _) ((below_set3 (g := w.heap.size + 1) UB.out (by omega) _ _ _).alloc (by have := UB.out.size; simpa [World.setCell] using this) _) (by simp only [wdB]; rw [if_neg HK.out]) (by simp only [wdE]; rw [if_neg HK.out]))

set_option maxHeartbeats 1000000 in
theorem doWhile_any (A B C : Option Addr) (n c m d k f : Nat) (b : Bd) (w : World) (hF : Few 30000 b) (hS : flSane b = true) (h : Bl w A n c B m d C k f b) :
    Calls Try.prog 50 #[.agg #[.slice A n c, .slice B m d, .slice C k f]] w (BtPost w (wdB b .while_) (wdE b .while_)) := by
  have HF := Lib.hid hF
  have HS := Lib.hid hS
  clear hS
  obtain ⟨hn, hm, hk⟩ := h.ns hF
  have LC := Lib.hid h.1.len
  have LM := Lib.hid h.2.1.len
  have LO := Lib.hid h.2.2.len
  have H := Lib.hid h
  clear h hF
  have X1 := Lib.hid ((Bx.new w 30 (.slice A n c) (.slice B m d) (.slice C k f)).alloc (.cells #[.slice none 0 0, .slice none 0 0, .slice none 0 0] 30))
  have X2 := Lib.hid (Bx.new2 w (.cells #[.slice A n c, .slice B m d, .slice C k f] 30) 30 (.slice none 0 0) (.slice none 0 0) (.slice none 0 0))
  have HB := Lib.hid (below_two w (.cells #[.slice A n c, .slice B m d, .slice C k f] 30) (.cells #[.slice none 0 0, .slice none 0 0, .slice none 0 0] 30))
  go_enter Try.func50, Try.ntmps50
  go_upto_region 1 with (fail)
  generalize (w.alloc (.cells #[.slice A n c, .slice B m d, .slice C k f] 30)).alloc (.cells #[.slice none 0 0, .slice none 0 0, .slice none 0 0] 30) = W at *
  have hg1 : w.heap.size < W.heap.size := X1.out.lt
  have hg2 : w.heap.size + 1 < W.heap.size := X2.out.lt
  have HL := Lib.hid (H.out.below HB.out)
  have a0 := X1.out.c0; have a1 := X1.out.c1; have a2 := X1.out.c2; have af0 := X1.out.f0; have af1 := X1.out.f1; have af2 := X1.out.f2
  have z0 := X2.out.c0; have z1 := X2.out.c1; have z2 := X2.out.c2; have zf0 := X2.out.f0; have zf1 := X2.out.f1; have zf2 := X2.out.f2
  by_cases ht : topK b = 2
  · have HK := Lib.hid ht
    clear ht
    go_upto_region 2 with ((go_at_call 64; refine (take_yes _ _ _ _ _ _ _ _ _ b 2 _ (HF.out.mono (by omega)) HK.out (by decide) HL.out).mono ?_; rintro e w1 ⟨A1, n1, c1, B1, m1, d1, C1, k1, f1, rfl, h1, hb1⟩; have HB1 := Lib.hid (hb1); have H1 := Lib.hid h1; clear h1 hb1; have Y1 := Lib.hid (X1.out.keep HB1.out); have Y2 := Lib.hid (X2.out.keep HB1.out); clear a0 a1 a2 af0 af1 af2 z0 z1 z2 zf0 zf1 zf2; have a0 := Y1.out.c0; have a1 := Y1.out.c1; have a2 := Y1.out.c2; have af0 := Y1.out.f0; have af1 := Y1.out.f1; have af2 := Y1.out.f2; have z0 := Y2.out.c0; have z1 := Y2.out.c1; have z2 := Y2.out.c2; have zf0 := Y2.out.f0; have zf1 := Y2.out.f1; have zf2 := Y2.out.f2; have hY1 := Y1.out.lt; have hY2 := Y2.out.lt; have U1 := Lib.hid (Y1.out.set3 (.slice A1 n1 c1) (.slice B1 m1 d1) (.slice C1 k1 f1)); have U2 := Lib.hid (Y2.out.other3 (g' := w.heap.size) (by simp) (.slice A1 n1 c1) (.slice B1 m1 d1) (.slice C1 k1 f1)); have UB := Lib.hid (below_set3 (g := w.heap.size) (below_then HB.out HB1.out) (Nat.le_refl _) (.slice A1 n1 c1) (.slice B1 m1 d1) (.slice C1 k1 f1))))
    have V1 := Lib.hid (U1.out.alloc (.cells #[.int .i64 2, .int .i64 (topA b)] 62))
    have V2 := Lib.hid (U2.out.alloc (.cells #[.int .i64 2, .int .i64 (topA b)] 62))
    have VP := Lib.hid (Px.new_set3 w1 w.heap.size 62 (.int .i64 2) (.int .i64 (topA b)) (.slice A1 n1 c1) (.slice B1 m1 d1) (.slice C1 k1 f1))
    have VB := Lib.hid (UB.out.alloc UB.out.size (.cells #[.int .i64 2, .int .i64 (topA b)] 62))
    have HV := Lib.hid ((H1.out.set3 Y1.out (B1 := A1) (p1 := n1) (e1 := c1) (B2 := B1) (p2 := m1) (e2 := d1) (B3 := C1) (p3 := k1) (e3 := f1)).alloc (.cells #[.int .i64 2, .int .i64 (topA b)] 62))
    have hP1 : w1.heap.size < ((((w1.setCell ⟨w.heap.size, 0, none⟩ (.slice A1 n1 c1)).setCell ⟨w.heap.size, 1, none⟩ (.slice B1 m1 d1)).setCell ⟨w.heap.size, 2, none⟩ (.slice C1 k1 f1)).alloc (.cells #[.int .i64 2, .int .i64 (topA b)] 62)).heap.size := VP.out.lt
    generalize (((w1.setCell ⟨w.heap.size, 0, none⟩ (.slice A1 n1 c1)).setCell ⟨w.heap.size, 1, none⟩ (.slice B1 m1 d1)).setCell ⟨w.heap.size, 2, none⟩ (.slice C1 k1 f1)).alloc (.cells #[.int .i64 2, .int .i64 (topA b)] 62) = W1 at *
    have hd11 : ¬ w1.heap.size = w.heap.size := by omega
    have hd21 : ¬ w1.heap.size = w.heap.size + 1 := by omega
    clear a0 a1 a2 af0 af1 af2 z0 z1 z2 zf0 zf1 zf2
    have a0 := V1.out.c0; have a1 := V1.out.c1; have a2 := V1.out.c2; have af0 := V1.out.f0; have af1 := V1.out.f1; have af2 := V1.out.f2
    have z0 := V2.out.c0; have z1 := V2.out.c1; have z2 := V2.out.c2; have zf0 := V2.out.f0; have zf1 := V2.out.f1; have zf2 := V2.out.f2
    have p10 := VP.out.c0; have p11 := VP.out.c1; have hV1 := V1.out.lt; have hV2 := V2.out.lt
    go_upto_region 5 with (go_at_call 63; refine (ahead_any _ _ _ _ _ _ _ _ _ (takeB b) 2 _ (HF.out.take.mono (by omega)) HV.out).mono ?_; rintro e w2 ⟨A2, n2, c2, B2, m2, d2, C2, k2, f2, rfl, h2, hb2⟩; have HB2 := Lib.hid (hb2); have H2 := Lib.hid h2; clear h2 hb2; have Z1 := Lib.hid (V1.out.keep HB2.out); have Z2 := Lib.hid (V2.out.keep HB2.out); clear a0 a1 a2 af0 af1 af2 z0 z1 z2 zf0 zf1 zf2; have a0 := Z1.out.c0; have a1 := Z1.out.c1; have a2 := Z1.out.c2; have af0 := Z1.out.f0; have af1 := Z1.out.f1; have af2 := Z1.out.f2; have z0 := Z2.out.c0; have z1 := Z2.out.c1; have z2 := Z2.out.c2; have zf0 := Z2.out.f0; have zf1 := Z2.out.f1; have zf2 := Z2.out.f2; have hZ1 := Z1.out.lt; have hZ2 := Z2.out.lt)
    have Q1 := Lib.hid (Z1.out.set3 (.slice A2 n2 c2) (.slice B2 m2 d2) (.slice C2 k2 f2))
    have Q2 := Lib.hid (Z2.out.other3 (g' := w.heap.size) (by simp) (.slice A2 n2 c2) (.slice B2 m2 d2) (.slice C2 k2 f2))
    have QB := Lib.hid (below_set3 (g := w.heap.size) (below_then VB.out HB2.out) (Nat.le_refl _) (.slice A2 n2 c2) (.slice B2 m2 d2) (.slice C2 k2 f2))
    have HQ := Lib.hid (H2.out.set3 Z1.out (B1 := A2) (p1 := n2) (e1 := c2) (B2 := B2) (p2 := m2) (e2 := d2) (B3 := C2) (p3 := k2) (e3 := f2))
    have QP := Lib.hid ((VP.out.keep HB2.out).other3 (g' := w.heap.size) hd11 (.slice A2 n2 c2) (.slice B2 m2 d2) (.slice C2 k2 f2))
    generalize (((w2.setCell ⟨w.heap.size, 0, none⟩ (.slice A2 n2 c2)).setCell ⟨w.heap.size, 1, none⟩ (.slice B2 m2 d2)).setCell ⟨w.heap.size, 2, none⟩ (.slice C2 k2 f2)) = W2 at *
    clear a0 a1 a2 af0 af1 af2 z0 z1 z2 zf0 zf1 zf2
    have a0 := Q1.out.c0; have a1 := Q1.out.c1; have a2 := Q1.out.c2; have af0 := Q1.out.f0; have af1 := Q1.out.f1; have af2 := Q1.out.f2
    have z0 := Q2.out.c0; have z1 := Q2.out.c1; have z2 := Q2.out.c2; have zf0 := Q2.out.f0; have zf1 := Q2.out.f1; have zf2 := Q2.out.f2
    have hQ1 := Q1.out.lt; have hQ2 := Q2.out.lt
    have cQP := QP.out.c1
    go_wp2_with (go_at_call 66; refine (mark_any _ _ _ _ _ _ _ _ _ (aheadB (takeB b) 2) 2 (topA b) _ ((HF.out.take.ahead 2).mono (by omega)) HQ.out).mono ?_; rintro e w3 ⟨A3, n3, c3, B3, m3, d3, C3, k3, f3, rfl, h3, hb3⟩; have HB3 := Lib.hid (hb3); have H3 := Lib.hid h3; clear h3 hb3; have T1 := Lib.hid (Q1.out.keep HB3.out); have T2 := Lib.hid (Q2.out.keep HB3.out); clear a0 a1 a2 af0 af1 af2 z0 z1 z2 zf0 zf1 zf2; have a0 := T1.out.c0; have a1 := T1.out.c1; have a2 := T1.out.c2; have af0 := T1.out.f0; have af1 := T1.out.f1; have af2 := T1.out.f2; have z0 := T2.out.c0; have z1 := T2.out.c1; have z2 := T2.out.c2; have zf0 := T2.out.f0; have zf1 := T2.out.f1; have zf2 := T2.out.f2; have hT1 := T1.out.lt; have hT2 := T2.out.lt)
    refine bodyPost_ret (v := .tuple #[.agg #[.slice A3 n3 c3, .slice B3 m3 d3, .slice C3 k3 f3], .int .i64 (layE (takeB b) 1)]) (by simp [results, Try.results50, go_sem, z0, z1, z2] <;> rfl) rfl (bt_fin (H3.out.set3 T2.out) (below_set3 (below_then QB.out HB3.out) (by simp) _ _ _) (by simp only [wdB]; rw [if_pos HK.out]) (by simp only [wdE]; rw [if_pos HK.out]; rfl))
  · have HK := Lib.hid ht
    clear ht
    go_wp2_with (go_at_call 64; refine (take_no _ _ _ _ _ _ _ _ _ b 2 _ (HF.out.mono (by omega)) HK.out HL.out).mono ?_; rintro e w1 ⟨A1, n1, c1, B1, m1, d1, C1, k1, f1, rfl, h1, hb1⟩; have HB1 := Lib.hid hb1; have H1 := Lib.hid h1; clear h1 hb1; have Y1 := Lib.hid (X1.out.keep HB1.out); have Y2 := Lib.hid (X2.out.keep HB1.out); clear a0 a1 a2 af0 af1 af2 z0 z1 z2 zf0 zf1 zf2; have a0 := Y1.out.c0; have a1 := Y1.out.c1; have a2 := Y1.out.c2; have af0 := Y1.out.f0; have af1 := Y1.out.f1; have af2 := Y1.out.f2; have z0 := Y2.out.c0; have z1 := Y2.out.c1; have z2 := Y2.out.c2; have zf0 := Y2.out.f0; have zf1 := Y2.out.f1; have zf2 := Y2.out.f2; have hY1 := Y1.out.lt; have hY2 := Y2.out.lt; have U1 := Lib.hid (Y1.out.set3 (.slice A1 n1 c1) (.slice B1 m1 d1) (.slice C1 k1 f1)); have U2 := Lib.hid (Y2.out.other3 (g' := w.heap.size) (by simp) (.slice A1 n1 c1) (.slice B1 m1 d1) (.slice C1 k1 f1)); have UB := Lib.hid (below_set3 (g := w.heap.size) (below_then HB.out HB1.out) (Nat.le_refl _) (.slice A1 n1 c1) (.slice B1 m1 d1) (.slice C1 k1 f1)))
    refine bodyPost_ret (v := .tuple #[.agg #[.slice A1 n1 c1, .slice B1 m1 d1, .slice C1 k1 f1], .int .i64 (-22)]) (by simp [results, Try.results50, go_sem, z0, z1, z2, hY2] <;> rfl) rfl (bt_fin (((H1.out.set3 Y1.out (B1 := A1) (p1 := n1) (e1 := c1) (B2 := B1) (p2 := m1) (e2 := d1) (B3 := C1) (p3 := k1) (e3 := f1)).set3 U2.out).alloc _) ((below_set3 (g := w.heap.size + 1) UB.out (by omega) _ _ _).alloc (by have := UB.out.size; simpa [World.setCell] using this) _) (by simp only [wdB]; rw [if_neg HK.out]) (by simp only [wdE]; rw [if_neg HK.out]))

set_option maxHeartbeats 1000000 in
theorem doMayDo_any (A B C : Option Addr) (n c m d k f : Nat) (b : Bd) (w : World) (hF : Few 30000 b) (hS : flSane b = true) (h : Bl w A n c B m d C k f b) :
    Calls Try.prog 53 #[.agg #[.slice A n c, .slice B m d, .slice C k f]] w (BtPost w (wdB b .mayDo) (wdE b .mayDo)) := by
  have HF := Lib.hid hF
  have HS := Lib.hid hS
  clear hS
  obtain ⟨hn, hm, hk⟩ := h.ns hF
  have LC := Lib.hid h.1.len
  have LM := Lib.hid h.2.1.len
  have LO := Lib.hid h.2.2.len
  have H := Lib.hid h
  clear h hF
  have X1 := Lib.hid ((Bx.new w 30 (.slice A n c) (.slice B m d) (.slice C k f)).alloc (.cells #[.slice none 0 0, .slice none 0 0, .slice none 0 0] 30))
  have X2 := Lib.hid (Bx.new2 w (.cells #[.slice A n c, .slice B m d, .slice C k f] 30) 30 (.slice none 0 0) (.slice none 0 0) (.slice none 0 0))
  have HB := Lib.hid (below_two w (.cells #[.slice A n c, .slice B m d, .slice C k f] 30) (.cells #[.slice none 0 0, .slice none 0 0, .slice none 0 0] 30))
  go_enter Try.func53, Try.ntmps53
  go_upto_region 1 with (fail)
  generalize (w.alloc (.cells #[.slice A n c, .slice B m d, .slice C k f] 30)).alloc (.cells #[.slice none 0 0, .slice none 0 0, .slice none 0 0] 30) = W at *
  have hg1 : w.heap.size < W.heap.size := X1.out.lt
  have hg2 : w.heap.size + 1 < W.heap.size := X2.out.lt
  have HL := Lib.hid (H.out.below HB.out)
  have a0 := X1.out.c0; have a1 := X1.out.c1; have a2 := X1.out.c2; have af0 := X1.out.f0; have af1 := X1.out.f1; have af2 := X1.out.f2
  have z0 := X2.out.c0; have z1 := X2.out.c1; have z2 := X2.out.c2; have zf0 := X2.out.f0; have zf1 := X2.out.f1; have zf2 := X2.out.f2
  go_upto_region 3 with (go_at_call 68; refine (beginLoop_any _ _ _ _ _ _ _ _ _ b 6 _ (HF.out.mono (by omega)) HL.out).mono ?_; rintro e w1 ⟨A1, n1, c1, B1, m1, d1, C1, k1, f1, rfl, h1, hb1⟩; have HB1 := Lib.hid (hb1); have H1 := Lib.hid h1; clear h1 hb1; have Y1 := Lib.hid (X1.out.keep HB1.out); have Y2 := Lib.hid (X2.out.keep HB1.out); clear a0 a1 a2 af0 af1 af2 z0 z1 z2 zf0 zf1 zf2; have a0 := Y1.out.c0; have a1 := Y1.out.c1; have a2 := Y1.out.c2; have af0 := Y1.out.f0; have af1 := Y1.out.f1; have af2 := Y1.out.f2; have z0 := Y2.out.c0; have z1 := Y2.out.c1; have z2 := Y2.out.c2; have zf0 := Y2.out.f0; have zf1 := Y2.out.f1; have zf2 := Y2.out.f2; have hY1 := Y1.out.lt; have hY2 := Y2.out.lt)
  have Q1 := Lib.hid (Y1.out.set3 (.slice A1 n1 c1) (.slice B1 m1 d1) (.slice C1 k1 f1))
  have Q2 := Lib.hid (Y2.out.other3 (g' := w.heap.size) (by simp) (.slice A1 n1 c1) (.slice B1 m1 d1) (.slice C1 k1 f1))
  have QB := Lib.hid (below_set3 (g := w.heap.size) (below_then HB.out HB1.out) (Nat.le_refl _) (.slice A1 n1 c1) (.slice B1 m1 d1) (.slice C1 k1 f1))
  have HQ := Lib.hid (H1.out.set3 Y1.out (B1 := A1) (p1 := n1) (e1 := c1) (B2 := B1) (p2 := m1) (e2 := d1) (B3 := C1) (p3 := k1) (e3 := f1))
  generalize (((w1.setCell ⟨w.heap.size, 0, none⟩ (.slice A1 n1 c1)).setCell ⟨w.heap.size, 1, none⟩ (.slice B1 m1 d1)).setCell ⟨w.heap.size, 2, none⟩ (.slice C1 k1 f1)) = W1 at *
  clear a0 a1 a2 af0 af1 af2 z0 z1 z2 zf0 zf1 zf2
  have a0 := Q1.out.c0; have a1 := Q1.out.c1; have a2 := Q1.out.c2; have af0 := Q1.out.f0; have af1 := Q1.out.f1; have af2 := Q1.out.f2
  have z0 := Q2.out.c0; have z1 := Q2.out.c1; have z2 := Q2.out.c2; have zf0 := Q2.out.f0; have zf1 := Q2.out.f1; have zf2 := Q2.out.f2
  have hQ1 := Q1.out.lt; have hQ2 := Q2.out.lt
  go_wp2_with (go_at_call 69; refine (out_any _ _ _ _ _ _ _ _ _ (beginB b 6) (n : Int) _ ((HF.out.begin 6).mono (by omega)) HQ.out).mono ?_; rintro e w2 ⟨A2, n2, c2, B2, m2, d2, C2, k2, f2, rfl, h2, hb2⟩; have HB2 := Lib.hid (hb2); have H2 := Lib.hid h2; clear h2 hb2; have T1 := Lib.hid (Q1.out.keep HB2.out); have T2 := Lib.hid (Q2.out.keep HB2.out); clear a0 a1 a2 af0 af1 af2 z0 z1 z2 zf0 zf1 zf2; have a0 := T1.out.c0; have a1 := T1.out.c1; have a2 := T1.out.c2; have af0 := T1.out.f0; have af1 := T1.out.f1; have af2 := T1.out.f2; have z0 := T2.out.c0; have z1 := T2.out.c1; have z2 := T2.out.c2; have zf0 := T2.out.f0; have zf1 := T2.out.f1; have zf2 := T2.out.f2; have hT1 := T1.out.lt; have hT2 := T2.out.lt)
  refine bodyPost_ret (v := .tuple #[.agg #[.slice A2 n2 c2, .slice B2 m2 d2, .slice C2 k2 f2], .int .i64 (layE b 1)]) (by simp [results, Try.results53, go_sem, z0, z1, z2] <;> rfl) rfl (bt_fin (H2.out.set3 T2.out) (below_set3 (below_then QB.out HB2.out) (by simp) _ _ _) (by unfold wdB; rw [LC.out]) rfl)
end Go.Proofs.Ytkcpmjccggfpiaa
