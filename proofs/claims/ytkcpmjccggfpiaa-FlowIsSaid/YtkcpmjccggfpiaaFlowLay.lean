/-
  What package flow's own steps answer at any thread that is built: lay, mark, out.
-/
import Derived.Test.YtkcpmjccggfpiaaFlowSane
import Derived.Deep.Cut
namespace Go.Proofs.Ytkcpmjccggfpiaa
open Go.RowKit

set_option maxHeartbeats 1000000 in
theorem lay_any (A B C : Option Addr) (n c m d k f : Nat) (b : Bd) (Y : Option Addr) (p q : Nat) (x : List (Int × Int)) (w : World) (hF : Few 50000 b) (hp : p ≤ 10000) (h : Bl w A n c B m d C k f b) (hx : Prs w Y p q x) :
    Calls Try.prog 27 #[.agg #[.slice A n c, .slice B m d, .slice C k f], .slice Y p q] w (BtPost w (layB b x) (layE b x.length)) := by
  obtain ⟨hn, hm, hk⟩ := h.ns hF
  have LC := Lib.hid h.1.len
  have LM := Lib.hid h.2.1.len
  have LO := Lib.hid h.2.2.len
  have H := Lib.hid h
  have LX := Lib.hid hx.len
  have HX := Lib.hid hx
  clear h hF hx
  have X1 := Lib.hid ((Bx.new w 30 (.slice A n c) (.slice B m d) (.slice C k f)).alloc (.cells #[.slice none 0 0, .slice none 0 0, .slice none 0 0] 30))
  have X2 := Lib.hid (Bx.new2 w (.cells #[.slice A n c, .slice B m d, .slice C k f] 30) 30 (.slice none 0 0) (.slice none 0 0) (.slice none 0 0))
  have HB := Lib.hid (below_two w (.cells #[.slice A n c, .slice B m d, .slice C k f] 30) (.cells #[.slice none 0 0, .slice none 0 0, .slice none 0 0] 30))
  go_enter Try.func27, Try.ntmps27
  go_upto_region 1 with (fail)
  generalize (w.alloc (.cells #[.slice A n c, .slice B m d, .slice C k f] 30)).alloc (.cells #[.slice none 0 0, .slice none 0 0, .slice none 0 0] 30) = W at *
  have hg1 : w.heap.size < W.heap.size := X1.out.lt
  have hg2 : w.heap.size + 1 < W.heap.size := X2.out.lt
  have HL := Lib.hid (H.out.below HB.out)
  have a0 := X1.out.c0; have a1 := X1.out.c1; have a2 := X1.out.c2; have af0 := X1.out.f0; have af1 := X1.out.f1; have af2 := X1.out.f2
  have z0 := X2.out.c0; have z1 := X2.out.c1; have z2 := X2.out.c2; have zf0 := X2.out.f0; have zf1 := X2.out.f1; have zf2 := X2.out.f2
  by_cases hc : 4096 < n + p
  · have ht : (4096 : Int) < (n : Int) + (p : Int) := by omega
    go_wp2
    refine bodyPost_ret (v := .tuple #[.agg #[.slice A n c, .slice B m d, .slice C k f], .int .i64 (-8)]) (by simp [results, Try.results27, go_sem, z0, z1, z2]) rfl (bt_fin (HL.out.set3 X2.out) (below_set3 HB.out (by simp) _ _ _) (by unfold layB; rw [LC.out, LX.out, if_pos hc]) (by unfold layE; rw [LC.out, LX.out, if_pos hc]))
  · have ht : ¬ (4096 : Int) < (n : Int) + (p : Int) := by omega
    go_wp2_with (go_at_call 43; refine (concatI2 _ _ (heap_alloc_new _ _) (HL.out.pc.alloc _) ((HX.out.below HB.out).alloc _) (by omega)).mono ?_; rintro e w1 ⟨A1, c1, rfl, ho⟩; have HO := Lib.hid ho; have HB1 := Lib.hid (below_new ho.below); clear ho; have Y1 := Lib.hid (X1.out.keep HB1.out); have Y2 := Lib.hid (X2.out.keep HB1.out); clear a0 a1 a2 af0 af1 af2 z0 z1 z2 zf0 zf1 zf2; have a0 := Y1.out.c0; have a1 := Y1.out.c1; have a2 := Y1.out.c2; have af0 := Y1.out.f0; have af1 := Y1.out.f1; have af2 := Y1.out.f2; have z0 := Y2.out.c0; have z1 := Y2.out.c1; have z2 := Y2.out.c2; have zf0 := Y2.out.f0; have zf1 := Y2.out.f1; have zf2 := Y2.out.f2)
    have hl := (HL.out.below HB1.out)
    refine bodyPost_ret (v := .tuple #[.agg #[.slice A1 (n+p) c1, .slice B m d, .slice C k f], .int .i64 0]) (by simp [results, Try.results27, go_sem, z0, z1, z2]) rfl (bt_fin (b' := ⟨b.code ++ x, b.marks, b.outs⟩) (Bl.set3 (Bl.set_ (b := ⟨b.code ++ x, b.marks, b.outs⟩) ⟨HO.out.prs, hl.pm, hl.po⟩ Y1.out 0 _) (Y2.out.other (by simp) _)) (below_set3 ((below_then HB.out HB1.out).setCell (Nat.le_refl _) _) (by simp) _ _ _) (by unfold layB; rw [LC.out, LX.out, if_neg hc]) (by unfold layE; rw [LC.out, LX.out, if_neg hc]))

set_option maxHeartbeats 1000000 in
theorem mark_any (A B C : Option Addr) (n c m d k f : Nat) (b : Bd) (u v : Int) (w : World) (hF : Few 50000 b) (h : Bl w A n c B m d C k f b) :
    Calls Try.prog 66 #[.agg #[.slice A n c, .slice B m d, .slice C k f], .int .i64 u, .int .i64 v] w (BdPost w (markB b u v)) := by
  obtain ⟨hn, hm, hk⟩ := h.ns hF
  have LC := Lib.hid h.1.len
  have LM := Lib.hid h.2.1.len
  have LO := Lib.hid h.2.2.len
  have H := Lib.hid h
  clear h hF
  have X1 := Lib.hid ((Bx.new w 30 (.slice A n c) (.slice B m d) (.slice C k f)).alloc (.cells #[.slice none 0 0, .slice none 0 0, .slice none 0 0] 30))
  have X2 := Lib.hid (Bx.new2 w (.cells #[.slice A n c, .slice B m d, .slice C k f] 30) 30 (.slice none 0 0) (.slice none 0 0) (.slice none 0 0))
  have HB := Lib.hid (below_two w (.cells #[.slice A n c, .slice B m d, .slice C k f] 30) (.cells #[.slice none 0 0, .slice none 0 0, .slice none 0 0] 30))
  go_enter Try.func66, Try.ntmps66
  go_upto_region 1 with (fail)
  generalize (w.alloc (.cells #[.slice A n c, .slice B m d, .slice C k f] 30)).alloc (.cells #[.slice none 0 0, .slice none 0 0, .slice none 0 0] 30) = W at *
  have hg1 : w.heap.size < W.heap.size := X1.out.lt
  have hg2 : w.heap.size + 1 < W.heap.size := X2.out.lt
  have HL := Lib.hid (H.out.below HB.out)
  have a0 := X1.out.c0; have a1 := X1.out.c1; have a2 := X1.out.c2; have af0 := X1.out.f0; have af1 := X1.out.f1; have af2 := X1.out.f2
  have z0 := X2.out.c0; have z1 := X2.out.c1; have z2 := X2.out.c2; have zf0 := X2.out.f0; have zf1 := X2.out.f1; have zf2 := X2.out.f2
  go_wp2_with (go_at_call 73; refine (concatF2 _ _ (heap_new2 _ _ _) ((HL.out.pm.alloc _).alloc _) ((Prs.new1 _ _ u v).alloc _) (by omega)).mono ?_; rintro e w1 ⟨A1, c1, rfl, ho⟩; have HO := Lib.hid ho; have HB1 := Lib.hid (below_new (below_new ho.below)); clear ho; have Y1 := Lib.hid (X1.out.keep HB1.out); have Y2 := Lib.hid (X2.out.keep HB1.out); clear a0 a1 a2 af0 af1 af2 z0 z1 z2 zf0 zf1 zf2; have a0 := Y1.out.c0; have a1 := Y1.out.c1; have a2 := Y1.out.c2; have af0 := Y1.out.f0; have af1 := Y1.out.f1; have af2 := Y1.out.f2; have z0 := Y2.out.c0; have z1 := Y2.out.c1; have z2 := Y2.out.c2; have zf0 := Y2.out.f0; have zf1 := Y2.out.f1; have zf2 := Y2.out.f2)
  have hl := (HL.out.below HB1.out)
  refine bodyPost_ret (v := .agg #[.slice A n c, .slice A1 (m+1) c1, .slice C k f]) (by simp [results, Try.results66, go_sem, z0, z1, z2]) rfl (bd_fin (b' := ⟨b.code, b.marks ++ [(u, v)], b.outs⟩) (Bl.set3 (Bl.set_ (b := ⟨b.code, b.marks ++ [(u, v)], b.outs⟩) ⟨hl.pc, HO.out.prs, hl.po⟩ Y1.out 1 _) (Y2.out.other (by simp) _)) (below_set3 ((below_then HB.out HB1.out).setCell (Nat.le_refl _) _) (by simp) _ _ _) rfl)

set_option maxHeartbeats 1000000 in
theorem out_any (A B C : Option Addr) (n c m d k f : Nat) (b : Bd) (v : Int) (w : World) (hF : Few 50000 b) (h : Bl w A n c B m d C k f b) :
    Calls Try.prog 69 #[.agg #[.slice A n c, .slice B m d, .slice C k f], .int .i64 v] w (BdPost w (outB b v)) := by
  obtain ⟨hn, hm, hk⟩ := h.ns hF
  have LC := Lib.hid h.1.len
  have LM := Lib.hid h.2.1.len
  have LO := Lib.hid h.2.2.len
  have H := Lib.hid h
  clear h hF
  have X1 := Lib.hid ((Bx.new w 30 (.slice A n c) (.slice B m d) (.slice C k f)).alloc (.cells #[.slice none 0 0, .slice none 0 0, .slice none 0 0] 30))
  have X2 := Lib.hid (Bx.new2 w (.cells #[.slice A n c, .slice B m d, .slice C k f] 30) 30 (.slice none 0 0) (.slice none 0 0) (.slice none 0 0))
  have HB := Lib.hid (below_two w (.cells #[.slice A n c, .slice B m d, .slice C k f] 30) (.cells #[.slice none 0 0, .slice none 0 0, .slice none 0 0] 30))
  go_enter Try.func69, Try.ntmps69
  go_upto_region 1 with (fail)
  generalize (w.alloc (.cells #[.slice A n c, .slice B m d, .slice C k f] 30)).alloc (.cells #[.slice none 0 0, .slice none 0 0, .slice none 0 0] 30) = W at *
  have hg1 : w.heap.size < W.heap.size := X1.out.lt
  have hg2 : w.heap.size + 1 < W.heap.size := X2.out.lt
  have HL := Lib.hid (H.out.below HB.out)
  have a0 := X1.out.c0; have a1 := X1.out.c1; have a2 := X1.out.c2; have af0 := X1.out.f0; have af1 := X1.out.f1; have af2 := X1.out.f2
  have z0 := X2.out.c0; have z1 := X2.out.c1; have z2 := X2.out.c2; have zf0 := X2.out.f0; have zf1 := X2.out.f1; have zf2 := X2.out.f2
  go_wp2
  go_region_with (first
      | (go_at_call 40; (with_reducible refine (deep_any _ _ _ _ _ _ _ _ _ b.marks _ (by omega) (HL.out.pm.drew)).mono ?_); rintro e w1 ⟨rfl, hb1⟩; have HD := Lib.hid (below_then (below_drewN (Below.refl _ W) 1) hb1); have y0 := (X1.out.keep HD.out).c0; have y1 := (X1.out.keep HD.out).c1; have y2 := (X1.out.keep HD.out).c2; have hgw := (X1.out.keep HD.out).lt; clear hb1)
      | (go_at_call 73; (with_reducible refine (concatF2 _ _ (heap_new2 _ _ _) (((HL.out.po.below HD.out).alloc _).alloc _) ((Prs.new1 _ _ _ v).alloc _) (by omega)).mono ?_); rintro e w2 ⟨A1, c1, rfl, ho⟩; have HO := Lib.hid ho; have HB1 := Lib.hid (below_then HD.out (below_new (below_new ho.below))); clear ho; have Y1 := Lib.hid (X1.out.keep HB1.out); have Y2 := Lib.hid (X2.out.keep HB1.out); clear a0 a1 a2 af0 af1 af2 z0 z1 z2 zf0 zf1 zf2; have a0 := Y1.out.c0; have a1 := Y1.out.c1; have a2 := Y1.out.c2; have af0 := Y1.out.f0; have af1 := Y1.out.f1; have af2 := Y1.out.f2; have z0 := Y2.out.c0; have z1 := Y2.out.c1; have z2 := Y2.out.c2; have zf0 := Y2.out.f0; have zf1 := Y2.out.f1; have zf2 := Y2.out.f2))
  all_goals
    go_wp2
    have hl := (HL.out.below HB1.out)
    refine bodyPost_ret (v := .agg #[.slice A n c, .slice B m d, .slice A1 (k+1) c1]) (by simp [results, Try.results69, go_sem, z0, z1, z2]) rfl (bd_fin (b' := ⟨b.code, b.marks, b.outs ++ [((flDeep b.marks : Int), v)]⟩) (Bl.set3 (Bl.set_ (b := ⟨b.code, b.marks, b.outs ++ [((flDeep b.marks : Int), v)]⟩) ⟨hl.pc, hl.pm, HO.out.prs⟩ Y1.out 2 _) (Y2.out.other (by simp) _)) (below_set3 ((below_then HB.out HB1.out).setCell (Nat.le_refl _) _) (by simp) _ _ _) rfl)
end Go.Proofs.Ytkcpmjccggfpiaa
