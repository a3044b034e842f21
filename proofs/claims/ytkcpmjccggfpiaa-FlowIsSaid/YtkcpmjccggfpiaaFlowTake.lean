/-
  What package flow's own steps answer at any thread that is built: take.
-/
import Derived.Test.YtkcpmjccggfpiaaFlowLay
import Derived.RegionTactic
namespace Go.Proofs.Ytkcpmjccggfpiaa
open Go.RowKit

/-- A thread, a mark and a throw. -/
def TkPost (w : World) (b : Bd) (u v : Int) (t : Int) (e : Ending) (w' : World) : Prop := ∃ A n c B m d C k f, e = .returned (.tuple #[.agg #[.slice A n c, .slice B m d, .slice C k f], .agg #[.int .i64 u, .int .i64 v], .int .i64 t]) ∧ Bl w' A n c B m d C k f b ∧ Below w.heap.size w w'
theorem tk_fin {w W' : World} {A B C : Option Addr} {n c m d k f : Nat} {b b' : Bd} {u v t : Int} (h : Bl W' A n c B m d C k f b') (hB : Below w.heap.size w W') (e1 : b' = b) :
    TkPost w b u v t (.returned (.tuple #[.agg #[.slice A n c, .slice B m d, .slice C k f], .agg #[.int .i64 u, .int .i64 v], .int .i64 t])) W' := by
  subst e1
  exact ⟨_, _, _, _, _, _, _, _, _, rfl, h, hB⟩
theorem top_get (b : Bd) (m : Nat) (h : b.marks.length = m + 1) : b.marks.getD m (0, 0) = (topK b, topA b) := by
  unfold topK topA
  rw [List.getLastD_eq_getLast?, List.getLast?_eq_getElem?, h]
  simp [List.getD]
theorem top_none (b : Bd) (h : b.marks.length = 0) : topK b = 0 := by
  unfold topK
  rw [List.eq_nil_of_length_eq_zero h]
  rfl
theorem Px.new3 (w : World) (o o' : Obj) (t : TypeId) (x y : Value) : Px (((w.alloc o).alloc o').alloc (.cells #[x, y] t)) (w.heap.size + 1 + 1) t x y := by
  have h := Px.new ((w.alloc o).alloc o') t x y
  rw [World.size_alloc, World.size_alloc] at h
  exact h
theorem below_set2 {a w : World} {B : Nat} (h : Below B a w) {g : Nat} (hg : B ≤ g) (x' y' : Value) : Below B a ((w.setCell ⟨g, 0, none⟩ x').setCell ⟨g, 1, none⟩ y') := (h.setCell hg _).setCell hg _

set_option maxHeartbeats 1000000 in
theorem take_no (A B C : Option Addr) (n c m d k f : Nat) (b : Bd) (q : Int) (w : World) (hF : Few 50000 b) (hq : topK b ≠ q) (h : Bl w A n c B m d C k f b) :
    Calls Try.prog 64 #[.agg #[.slice A n c, .slice B m d, .slice C k f], .int .i64 q] w (TkPost w b 0 0 (-22)) := by
  obtain ⟨hn, hm, hk⟩ := h.ns hF
  have LC := Lib.hid h.1.len
  have LM := Lib.hid h.2.1.len
  have LO := Lib.hid h.2.2.len
  have H := Lib.hid h
  clear h hF
  have X1 := Lib.hid (((Bx.new w 30 (.slice A n c) (.slice B m d) (.slice C k f)).alloc (.cells #[.slice none 0 0, .slice none 0 0, .slice none 0 0] 30)).alloc (.cells #[.int .i64 0, .int .i64 0] 62))
  have X2 := Lib.hid ((Bx.new2 w (.cells #[.slice A n c, .slice B m d, .slice C k f] 30) 30 (.slice none 0 0) (.slice none 0 0) (.slice none 0 0)).alloc (.cells #[.int .i64 0, .int .i64 0] 62))
  have X3 := Lib.hid (Px.new3 w (.cells #[.slice A n c, .slice B m d, .slice C k f] 30) (.cells #[.slice none 0 0, .slice none 0 0, .slice none 0 0] 30) 62 (.int .i64 0) (.int .i64 0))
  have HB := Lib.hid ((below_two w (.cells #[.slice A n c, .slice B m d, .slice C k f] 30) (.cells #[.slice none 0 0, .slice none 0 0, .slice none 0 0] 30)).alloc (by simp; omega) (.cells #[.int .i64 0, .int .i64 0] 62))
  go_enter Try.func64, Try.ntmps64
  go_upto_region 1 with (fail)
  generalize ((w.alloc (.cells #[.slice A n c, .slice B m d, .slice C k f] 30)).alloc (.cells #[.slice none 0 0, .slice none 0 0, .slice none 0 0] 30)).alloc (.cells #[.int .i64 0, .int .i64 0] 62) = W at *
  have hg1 : w.heap.size < W.heap.size := X1.out.lt
  have hg2 : w.heap.size + 1 < W.heap.size := X2.out.lt
  have hg3 : w.heap.size + 1 + 1 < W.heap.size := X3.out.lt
  have HL := Lib.hid (H.out.below HB.out)
  have a0 := X1.out.c0; have a1 := X1.out.c1; have a2 := X1.out.c2; have af0 := X1.out.f0; have af1 := X1.out.f1; have af2 := X1.out.f2
  have z0 := X2.out.c0; have z1 := X2.out.c1; have z2 := X2.out.c2; have zf0 := X2.out.f0; have zf1 := X2.out.f1; have zf2 := X2.out.f2
  have p0 := X3.out.c0; have p1 := X3.out.c1; have pf0 := X3.out.f0; have pf1 := X3.out.f1
  rcases Nat.eq_zero_or_pos m with hm0 | hm0
  · subst hm0
    go_wp2
    refine bodyPost_ret (v := .tuple #[.agg #[.slice A n c, .slice B 0 d, .slice C k f], .agg #[.int .i64 0, .int .i64 0], .int .i64 (-22)]) (by simp [results, Try.results64, go_sem, z0, z1, z2, p0, p1]) rfl (tk_fin (H.out.below ?_) ?_ rfl)
    all_goals exact below_set2 (below_set3 (g := w.heap.size + 1) HB.out (by omega) _ _ _) (g := w.heap.size + 1 + 1) (by omega) _ _
  · obtain ⟨j, rfl⟩ : ∃ j, m = j + 1 := ⟨m - 1, by omega⟩
    obtain ⟨mb, mo, rfl, hbl, e0, e1⟩ := HL.out.pm.at_ j (by omega)
    have HT := Lib.hid (top_get b j LM.out)
    rw [HT.out] at e0 e1
    have hne : (topK b != q) = true := by simpa using hq
    generalize topK b = K at *
    generalize topA b = Z at *
    go_wp2
    refine bodyPost_ret (v := .tuple #[.agg #[.slice A n c, .slice (some ⟨mb, mo, none⟩) (j + 1) d, .slice C k f], .agg #[.int .i64 0, .int .i64 0], .int .i64 (-22)]) (by simp [results, Try.results64, go_sem, z0, z1, z2, p0, p1]) rfl (tk_fin (H.out.below ?_) ?_ rfl)
    all_goals exact below_set2 (below_set3 (g := w.heap.size + 1) HB.out (by omega) _ _ _) (g := w.heap.size + 1 + 1) (by omega) _ _

set_option maxHeartbeats 1000000 in
theorem take_yes (A B C : Option Addr) (n c m d k f : Nat) (b : Bd) (q : Int) (w : World) (hF : Few 50000 b) (hq : topK b = q) (h0 : q ≠ 0) (h : Bl w A n c B m d C k f b) :
    Calls Try.prog 64 #[.agg #[.slice A n c, .slice B m d, .slice C k f], .int .i64 q] w (TkPost w (takeB b) q (topA b) 0) := by
  obtain ⟨hn, hm, hk⟩ := h.ns hF
  have LC := Lib.hid h.1.len
  have LM := Lib.hid h.2.1.len
  have LO := Lib.hid h.2.2.len
  have H := Lib.hid h
  clear h hF
  have hm1 : m ≠ 0 := fun e => by rw [top_none b (by rw [LM.out]; exact e)] at hq; exact h0 hq.symm
  have X1 := Lib.hid (((Bx.new w 30 (.slice A n c) (.slice B m d) (.slice C k f)).alloc (.cells #[.slice none 0 0, .slice none 0 0, .slice none 0 0] 30)).alloc (.cells #[.int .i64 0, .int .i64 0] 62))
  have X2 := Lib.hid ((Bx.new2 w (.cells #[.slice A n c, .slice B m d, .slice C k f] 30) 30 (.slice none 0 0) (.slice none 0 0) (.slice none 0 0)).alloc (.cells #[.int .i64 0, .int .i64 0] 62))
  have X3 := Lib.hid (Px.new3 w (.cells #[.slice A n c, .slice B m d, .slice C k f] 30) (.cells #[.slice none 0 0, .slice none 0 0, .slice none 0 0] 30) 62 (.int .i64 0) (.int .i64 0))
  have HB := Lib.hid ((below_two w (.cells #[.slice A n c, .slice B m d, .slice C k f] 30) (.cells #[.slice none 0 0, .slice none 0 0, .slice none 0 0] 30)).alloc (by simp; omega) (.cells #[.int .i64 0, .int .i64 0] 62))
  go_enter Try.func64, Try.ntmps64
  go_upto_region 1 with (fail)
  generalize ((w.alloc (.cells #[.slice A n c, .slice B m d, .slice C k f] 30)).alloc (.cells #[.slice none 0 0, .slice none 0 0, .slice none 0 0] 30)).alloc (.cells #[.int .i64 0, .int .i64 0] 62) = W at *
  have hg1 : w.heap.size < W.heap.size := X1.out.lt
  have hg2 : w.heap.size + 1 < W.heap.size := X2.out.lt
  have hg3 : w.heap.size + 1 + 1 < W.heap.size := X3.out.lt
  have HL := Lib.hid (H.out.below HB.out)
  have a0 := X1.out.c0; have a1 := X1.out.c1; have a2 := X1.out.c2; have af0 := X1.out.f0; have af1 := X1.out.f1; have af2 := X1.out.f2
  have z0 := X2.out.c0; have z1 := X2.out.c1; have z2 := X2.out.c2; have zf0 := X2.out.f0; have zf1 := X2.out.f1; have zf2 := X2.out.f2
  have p0 := X3.out.c0; have p1 := X3.out.c1; have pf0 := X3.out.f0; have pf1 := X3.out.f1
  obtain ⟨j, rfl⟩ : ∃ j, m = j + 1 := ⟨m - 1, by omega⟩
  obtain ⟨mb, mo, rfl, hbl, e0, e1⟩ := HL.out.pm.at_ j (by omega)
  have HT := Lib.hid (top_get b j LM.out)
  rw [HT.out] at e0 e1
  rw [hq] at e0
  obtain ⟨hs1, hs2⟩ := HL.out.pm.head ptF j (by omega)
  have HS := Lib.hid hs2
  have HE : Hid (b.marks.take j = b.marks.dropLast) := Lib.hid (by rw [List.dropLast_eq_take, LM.out]; rfl)
  have hne : (q != q) = false := by simp
  generalize topA b = Z at *
  clear hq hs2
  go_wp2_with (go_at_call 71; refine (cloneF_any _ _ _ _ _ (by omega) (HS.out.alloc _)).mono ?_; rintro e w1 ⟨A1, c1, rfl, ho⟩; have HO := Lib.hid ho; have HB0 := Lib.hid ho.below; have HB1 := Lib.hid (below_new ho.below); clear ho; have Y1 := Lib.hid (X1.out.keep HB1.out); have Y2 := Lib.hid (X2.out.keep HB1.out); clear a0 a1 a2 af0 af1 af2 z0 z1 z2 zf0 zf1 zf2; have a0 := Y1.out.c0; have a1 := Y1.out.c1; have a2 := Y1.out.c2; have af0 := Y1.out.f0; have af1 := Y1.out.f1; have af2 := Y1.out.f2; have z0 := Y2.out.c0; have z1 := Y2.out.c1; have z2 := Y2.out.c2; have zf0 := Y2.out.f0; have zf1 := Y2.out.f1; have zf2 := Y2.out.f2; have Y3 := Lib.hid (X3.out.keep HB1.out); have Y4 := Lib.hid ((Px.new W 62 (.int .i64 q) (.int .i64 Z)).keep HB0.out); clear p0 p1 pf0 pf1; have p0 := Y3.out.c0; have p1 := Y3.out.c1; have pf0 := Y3.out.f0; have pf1 := Y3.out.f1; have q0 := Y4.out.c0; have q1 := Y4.out.c1)
  have hne1 : ¬ W.heap.size = w.heap.size := by omega
  have hne2 : ¬ W.heap.size = w.heap.size + 1 := by omega
  have hne3 : ¬ W.heap.size = w.heap.size + 1 + 1 := by omega
  go_region
  go_wp2
  have hb2 := (below_set2 (below_set3 ((below_then HB.out HB1.out).setCell (p := ⟨w.heap.size, 1, none⟩) (Nat.le_refl _) (.slice A1 j c1)) (g := w.heap.size + 1) (by omega) (.slice A n c) (.slice A1 j c1) (.slice C k f)) (g := w.heap.size + 1 + 1) (by omega) (.int .i64 q) (.int .i64 Z)).drew
  have hm2 := ((((HO.out.from_.mono (B1 := W.heap.size) (by simp)).set_ (p := ⟨w.heap.size, 1, none⟩) hg1 (.slice A1 j c1)).set3 (g := w.heap.size + 1) hg2 (.slice A n c) (.slice A1 j c1) (.slice C k f)).set2 (g := w.heap.size + 1 + 1) hg3 (.int .i64 q) (.int .i64 Z)).drew
  refine bodyPost_ret (v := .tuple #[.agg #[.slice A n c, .slice A1 j c1, .slice C k f], .agg #[.int .i64 q, .int .i64 Z], .int .i64 0]) (by simp [results, Try.results64, go_sem, z0, z1, z2, p0, p1]) rfl (tk_fin (b' := takeB b) ⟨H.out.pc.below hb2, by rw [HE.out] at hm2; exact hm2.prs, H.out.po.below hb2⟩ hb2 rfl)
end Go.Proofs.Ytkcpmjccggfpiaa
