/-
  What package flow's calls answer at any thread that is built: Emit, Word, End, and Whole.
-/
import Derived.Test.YtkcpmjccggfpiaaFlowDoes
namespace Go.Proofs.Ytkcpmjccggfpiaa
open Go.RowKit

theorem snd_sane (b : Bd) : flSane (flSnd b) = true := by
  unfold flSnd
  cases h : flSane b
  · rfl
  · exact h
theorem Few.snd {N : Nat} {b : Bd} (h : Few N b) : Few N (flSnd b) := by
  unfold flSnd
  split
  · exact h
  · exact ⟨by simp, by simp, by simp⟩
set_option maxHeartbeats 1000000 in
theorem emit_any (A B C : Option Addr) (n c m d k f : Nat) (b : Bd) (Y : Option Addr) (p q : Nat) (x : List (Int × Int)) (w : World) (hF : Few 30000 b) (hp : p ≤ 10000) (h : Bl w A n c B m d C k f b) (hx : Prs w Y p q x) :
    Calls Try.prog 11 #[.agg #[.slice A n c, .slice B m d, .slice C k f], .slice Y p q] w (BtPost w (layB (flSnd b) x) (layE (flSnd b) x.length)) := by
  have HF := Lib.hid hF
  have HX := Lib.hid hx
  clear hx
  obtain ⟨hn, hm, hk⟩ := h.ns hF
  have LC := Lib.hid h.1.len
  have LM := Lib.hid h.2.1.len
  have LO := Lib.hid h.2.2.len
  have H := Lib.hid h
  clear h hF
  have X1 := Lib.hid ((Bx.new w 30 (.slice A n c) (.slice B m d) (.slice C k f)).alloc (.cells #[.slice none 0 0, .slice none 0 0, .slice none 0 0] 30))
  have X2 := Lib.hid (Bx.new2 w (.cells #[.slice A n c, .slice B m d, .slice C k f] 30) 30 (.slice none 0 0) (.slice none 0 0) (.slice none 0 0))
  have HB := Lib.hid (below_two w (.cells #[.slice A n c, .slice B m d, .slice C k f] 30) (.cells #[.slice none 0 0, .slice none 0 0, .slice none 0 0] 30))
  go_enter Try.func11, Try.ntmps11
  go_upto_region 1 with (fail)
  generalize (w.alloc (.cells #[.slice A n c, .slice B m d, .slice C k f] 30)).alloc (.cells #[.slice none 0 0, .slice none 0 0, .slice none 0 0] 30) = W at *
  have hg1 : w.heap.size < W.heap.size := X1.out.lt
  have hg2 : w.heap.size + 1 < W.heap.size := X2.out.lt
  have HL := Lib.hid (H.out.below HB.out)
  have a0 := X1.out.c0; have a1 := X1.out.c1; have a2 := X1.out.c2; have af0 := X1.out.f0; have af1 := X1.out.f1; have af2 := X1.out.f2
  have z0 := X2.out.c0; have z1 := X2.out.c1; have z2 := X2.out.c2; have zf0 := X2.out.f0; have zf1 := X2.out.f1; have zf2 := X2.out.f2
  go_wp2_with (first
    | (go_at_call 26; refine (sound_any _ _ _ _ _ _ _ _ _ b _ (HF.out.mono (by omega)) HL.out).mono ?_; rintro e w1 ⟨A1, n1, c1, B1, m1, d1, C1, k1, f1, rfl, h1, hb1⟩; have HB1 := Lib.hid (hb1); have H1 := Lib.hid h1; clear h1 hb1; have Y1 := Lib.hid (X1.out.keep HB1.out); have Y2 := Lib.hid (X2.out.keep HB1.out); clear a0 a1 a2 af0 af1 af2 z0 z1 z2 zf0 zf1 zf2; have a0 := Y1.out.c0; have a1 := Y1.out.c1; have a2 := Y1.out.c2; have af0 := Y1.out.f0; have af1 := Y1.out.f1; have af2 := Y1.out.f2; have z0 := Y2.out.c0; have z1 := Y2.out.c1; have z2 := Y2.out.c2; have zf0 := Y2.out.f0; have zf1 := Y2.out.f1; have zf2 := Y2.out.f2; have hY1 := Y1.out.lt; have hY2 := Y2.out.lt)
    | (go_at_call 27; refine (lay_any _ _ _ _ _ _ _ _ _ (flSnd b) _ _ _ x _ (HF.out.snd.mono (by omega)) (by omega) H1.out (HX.out.below (below_then HB.out HB1.out))).mono ?_; rintro e w2 ⟨A2, n2, c2, B2, m2, d2, C2, k2, f2, rfl, h2, hb2⟩; have HB2 := Lib.hid (hb2); have H2 := Lib.hid h2; clear h2 hb2; have Z1 := Lib.hid (Y1.out.keep HB2.out); have Z2 := Lib.hid (Y2.out.keep HB2.out); clear a0 a1 a2 af0 af1 af2 z0 z1 z2 zf0 zf1 zf2; have a0 := Z1.out.c0; have a1 := Z1.out.c1; have a2 := Z1.out.c2; have af0 := Z1.out.f0; have af1 := Z1.out.f1; have af2 := Z1.out.f2; have z0 := Z2.out.c0; have z1 := Z2.out.c1; have z2 := Z2.out.c2; have zf0 := Z2.out.f0; have zf1 := Z2.out.f1; have zf2 := Z2.out.f2; have hZ1 := Z1.out.lt; have hZ2 := Z2.out.lt))
  refine bodyPost_ret (v := .tuple #[.agg #[.slice A2 n2 c2, .slice B2 m2 d2, .slice C2 k2 f2], .int .i64 (layE (flSnd b) x.length)]) (by simp [results, Try.results11, go_sem, z0, z1, z2] <;> rfl) rfl (bt_fin (H2.out.set3 Z2.out) (below_set3 (below_then (below_then HB.out HB1.out) HB2.out) (by simp) _ _ _) rfl rfl)

/-- A thread, whether it was a word, and a throw. -/
def WdPost (w : World) (b : Bd) (ok : Bool) (t : Int) (e : Ending) (w' : World) : Prop := ∃ A n c B m d C k f, e = .returned (.tuple #[.agg #[.slice A n c, .slice B m d, .slice C k f], .bool ok, .int .i64 t]) ∧ Bl w' A n c B m d C k f b ∧ Below w.heap.size w w'
theorem wd_fin {w W' : World} {A B C : Option Addr} {n c m d k f : Nat} {b b' : Bd} {ok : Bool} {t t' : Int} (h : Bl W' A n c B m d C k f b') (hB : Below w.heap.size w W') (e1 : b' = b) (e2 : t' = t) :
    WdPost w b ok t (.returned (.tuple #[.agg #[.slice A n c, .slice B m d, .slice C k f], .bool ok, .int .i64 t'])) W' := by
  subst e1 e2
  exact ⟨_, _, _, _, _, _, _, _, _, rfl, h, hB⟩
theorem eqFun (w : World) (fn : Fn) (a cp : Array Value) : (binOp .eql 64 (.func fn a cp) .nilFunc).run Try.prog w = .ok (.bool false) w := by
  kernel_rfl
theorem eqNoFun (w : World) : (binOp .eql 64 .nilFunc .nilFunc).run Try.prog w = .ok (.bool true) w := by kernel_rfl
set_option maxHeartbeats 2000000 in
theorem word_none (S : ByteArray) (l : List UInt8) (hS : S = ⟨l.toArray⟩) (hl : l.length ≤ 2000) (hw : wdF (l.map scU) = none) (A B C : Option Addr) (n c m d k f : Nat) (b : Bd) (w : World) (hF : Few 20000 b) (h : Bl w A n c B m d C k f b) :
    Calls Try.prog 14 #[.agg #[.slice A n c, .slice B m d, .slice C k f], .string S] w (WdPost w (flSnd b) false 0) := by
  obtain ⟨T, hT⟩ : ∃ T : ByteArray, T = ⟨(l.map scU).toArray⟩ := ⟨_, rfl⟩
  have HU := Lib.hid (upper_is l S T hS hl hT)
  have HN := Lib.hid (does_none T _ hT hw)
  have qn := eqNoFun
  have HF := Lib.hid hF
  clear hS hl hw hT
  obtain ⟨hn, hm, hk⟩ := h.ns hF
  have LC := Lib.hid h.1.len
  have LM := Lib.hid h.2.1.len
  have LO := Lib.hid h.2.2.len
  have H := Lib.hid h
  clear h hF
  have X1 := Lib.hid ((Bx.new w 30 (.slice A n c) (.slice B m d) (.slice C k f)).alloc (.cells #[.slice none 0 0, .slice none 0 0, .slice none 0 0] 30))
  have X2 := Lib.hid (Bx.new2 w (.cells #[.slice A n c, .slice B m d, .slice C k f] 30) 30 (.slice none 0 0) (.slice none 0 0) (.slice none 0 0))
  have HB := Lib.hid (below_two w (.cells #[.slice A n c, .slice B m d, .slice C k f] 30) (.cells #[.slice none 0 0, .slice none 0 0, .slice none 0 0] 30))
  go_enter Try.func14, Try.ntmps14
  go_upto_region 1 with (fail)
  generalize (w.alloc (.cells #[.slice A n c, .slice B m d, .slice C k f] 30)).alloc (.cells #[.slice none 0 0, .slice none 0 0, .slice none 0 0] 30) = W at *
  have hg1 : w.heap.size < W.heap.size := X1.out.lt
  have hg2 : w.heap.size + 1 < W.heap.size := X2.out.lt
  have HL := Lib.hid (H.out.below HB.out)
  have a0 := X1.out.c0; have a1 := X1.out.c1; have a2 := X1.out.c2; have af0 := X1.out.f0; have af1 := X1.out.f1; have af2 := X1.out.f2
  have z0 := X2.out.c0; have z1 := X2.out.c1; have z2 := X2.out.c2; have zf0 := X2.out.f0; have zf1 := X2.out.f1; have zf2 := X2.out.f2
  go_upto_region 2 with (go_at_call 26; refine (sound_any _ _ _ _ _ _ _ _ _ b _ (HF.out.mono (by omega)) HL.out).mono ?_; rintro e w1 ⟨A1, n1, c1, B1, m1, d1, C1, k1, f1, rfl, h1, hb1⟩; have HB1 := Lib.hid (hb1); have H1 := Lib.hid h1; clear h1 hb1; have Y1 := Lib.hid (X1.out.keep HB1.out); have Y2 := Lib.hid (X2.out.keep HB1.out); clear a0 a1 a2 af0 af1 af2 z0 z1 z2 zf0 zf1 zf2; have a0 := Y1.out.c0; have a1 := Y1.out.c1; have a2 := Y1.out.c2; have af0 := Y1.out.f0; have af1 := Y1.out.f1; have af2 := Y1.out.f2; have z0 := Y2.out.c0; have z1 := Y2.out.c1; have z2 := Y2.out.c2; have zf0 := Y2.out.f0; have zf1 := Y2.out.f1; have zf2 := Y2.out.f2; have hY1 := Y1.out.lt; have hY2 := Y2.out.lt)
  have Q1 := Lib.hid (Y1.out.set3 (.slice A1 n1 c1) (.slice B1 m1 d1) (.slice C1 k1 f1))
  have Q2 := Lib.hid (Y2.out.other3 (g' := w.heap.size) (by simp) (.slice A1 n1 c1) (.slice B1 m1 d1) (.slice C1 k1 f1))
  have QB := Lib.hid (below_set3 (g := w.heap.size) (below_then HB.out HB1.out) (Nat.le_refl _) (.slice A1 n1 c1) (.slice B1 m1 d1) (.slice C1 k1 f1))
  have HQ := Lib.hid (H1.out.set3 Y1.out (B1 := A1) (p1 := n1) (e1 := c1) (B2 := B1) (p2 := m1) (e2 := d1) (B3 := C1) (p3 := k1) (e3 := f1))
  generalize (((w1.setCell ⟨w.heap.size, 0, none⟩ (.slice A1 n1 c1)).setCell ⟨w.heap.size, 1, none⟩ (.slice B1 m1 d1)).setCell ⟨w.heap.size, 2, none⟩ (.slice C1 k1 f1)) = W1 at *
  clear a0 a1 a2 af0 af1 af2 z0 z1 z2 zf0 zf1 zf2
  have a0 := Q1.out.c0; have a1 := Q1.out.c1; have a2 := Q1.out.c2; have af0 := Q1.out.f0; have af1 := Q1.out.f1; have af2 := Q1.out.f2
  have z0 := Q2.out.c0; have z1 := Q2.out.c1; have z2 := Q2.out.c2; have zf0 := Q2.out.f0; have zf1 := Q2.out.f1; have zf2 := Q2.out.f2
  have hQ1 := Q1.out.lt; have hQ2 := Q2.out.lt
  go_region_held3 (fun w' => Below W1.heap.size W1 w' ∧ w'.cell? ⟨w.heap.size, 0, none⟩ = some (.slice A1 n1 c1) ∧ w'.cell? ⟨w.heap.size, 1, none⟩ = some (.slice B1 m1 d1) ∧ w'.cell? ⟨w.heap.size, 2, none⟩ = some (.slice C1 k1 f1)) (first | assumption | exact ⟨below_drewN (Below.refl _ _) 1, a0, a1, a2⟩ | exact ⟨HV.out, (Q1.out.keep HV.out).c0, (Q1.out.keep HV.out).c1, (Q1.out.keep HV.out).c2⟩)
    (first
      | (go_at_call 29; refine (HN.out _ _ _ _ _ _ _ _ _ _).mono ?_; rintro e w3 ⟨rfl, hb3⟩; have HV := Lib.hid (below_then HV.out hb3); have HD := Lib.hid hb3; clear hb3)
      | (go_at_call 30; refine (HU.out _).mono ?_; rintro e w2 ⟨rfl, hb2⟩; have HV := Lib.hid (below_then (below_drewN (Below.refl _ _) 1) hb2); clear hb2))
  have T1 := Lib.hid (Q1.out.keep HV.out)
  have T2 := Lib.hid (Q2.out.keep HV.out)
  clear a0 a1 a2 af0 af1 af2 z0 z1 z2 zf0 zf1 zf2
  have a0 := T1.out.c0; have a1 := T1.out.c1; have a2 := T1.out.c2; have af0 := T1.out.f0; have af1 := T1.out.f1; have af2 := T1.out.f2
  have z0 := T2.out.c0; have z1 := T2.out.c1; have z2 := T2.out.c2; have zf0 := T2.out.f0; have zf1 := T2.out.f1; have zf2 := T2.out.f2
  go_wp2
  refine bodyPost_ret (v := .tuple #[.agg #[.slice A1 n1 c1, .slice B1 m1 d1, .slice C1 k1 f1], .bool false, .int .i64 0]) (by simp [results, Try.results14, go_sem, z0, z1, z2] <;> rfl) rfl (wd_fin ((HQ.out.below HV.out).set3 T2.out) (below_set3 (below_then QB.out HV.out) (by simp) _ _ _) rfl rfl)
set_option maxHeartbeats 2000000 in
theorem word_some (S : ByteArray) (l : List UInt8) (d' : Wd) (hS : S = ⟨l.toArray⟩) (hl : l.length ≤ 2000) (hw : wdF (l.map scU) = some d') (A B C : Option Addr) (n c m d k f : Nat) (b : Bd) (w : World) (hF : Few 20000 b) (h : Bl w A n c B m d C k f b) :
    Calls Try.prog 14 #[.agg #[.slice A n c, .slice B m d, .slice C k f], .string S] w (WdPost w (wdN (flSnd b) d') true (wdE (flSnd b) d')) := by
  have hU := upper_is l S ⟨(l.map scU).toArray⟩ hS hl rfl
  have HN := Lib.hid (does_word d')
  rw [wdF_some hw] at hU
  have HU := Lib.hid hU
  have HF := Lib.hid hF
  have HX := Lib.hid (fun A B C n c m d k f => wd_any d' A B C n c m d k f (flSnd b))
  have qf := eqFun
  clear hS hl hw hU
  obtain ⟨hn, hm, hk⟩ := h.ns hF
  have LC := Lib.hid h.1.len
  have LM := Lib.hid h.2.1.len
  have LO := Lib.hid h.2.2.len
  have H := Lib.hid h
  clear h hF
  generalize (⟨(wdT d').toArray⟩ : ByteArray) = T at *
  have X1 := Lib.hid ((Bx.new w 30 (.slice A n c) (.slice B m d) (.slice C k f)).alloc (.cells #[.slice none 0 0, .slice none 0 0, .slice none 0 0] 30))
  have X2 := Lib.hid (Bx.new2 w (.cells #[.slice A n c, .slice B m d, .slice C k f] 30) 30 (.slice none 0 0) (.slice none 0 0) (.slice none 0 0))
  have HB := Lib.hid (below_two w (.cells #[.slice A n c, .slice B m d, .slice C k f] 30) (.cells #[.slice none 0 0, .slice none 0 0, .slice none 0 0] 30))
  go_enter Try.func14, Try.ntmps14
  go_upto_region 1 with (fail)
  generalize (w.alloc (.cells #[.slice A n c, .slice B m d, .slice C k f] 30)).alloc (.cells #[.slice none 0 0, .slice none 0 0, .slice none 0 0] 30) = W at *
  have hg1 : w.heap.size < W.heap.size := X1.out.lt
  have hg2 : w.heap.size + 1 < W.heap.size := X2.out.lt
  have HL := Lib.hid (H.out.below HB.out)
  have a0 := X1.out.c0; have a1 := X1.out.c1; have a2 := X1.out.c2; have af0 := X1.out.f0; have af1 := X1.out.f1; have af2 := X1.out.f2
  have z0 := X2.out.c0; have z1 := X2.out.c1; have z2 := X2.out.c2; have zf0 := X2.out.f0; have zf1 := X2.out.f1; have zf2 := X2.out.f2
  go_upto_region 2 with (go_at_call 26; refine (sound_any _ _ _ _ _ _ _ _ _ b _ (HF.out.mono (by omega)) HL.out).mono ?_; rintro e w1 ⟨A1, n1, c1, B1, m1, d1, C1, k1, f1, rfl, h1, hb1⟩; have HB1 := Lib.hid (hb1); have H1 := Lib.hid h1; clear h1 hb1; have Y1 := Lib.hid (X1.out.keep HB1.out); have Y2 := Lib.hid (X2.out.keep HB1.out); clear a0 a1 a2 af0 af1 af2 z0 z1 z2 zf0 zf1 zf2; have a0 := Y1.out.c0; have a1 := Y1.out.c1; have a2 := Y1.out.c2; have af0 := Y1.out.f0; have af1 := Y1.out.f1; have af2 := Y1.out.f2; have z0 := Y2.out.c0; have z1 := Y2.out.c1; have z2 := Y2.out.c2; have zf0 := Y2.out.f0; have zf1 := Y2.out.f1; have zf2 := Y2.out.f2; have hY1 := Y1.out.lt; have hY2 := Y2.out.lt)
  have Q1 := Lib.hid (Y1.out.set3 (.slice A1 n1 c1) (.slice B1 m1 d1) (.slice C1 k1 f1))
  have Q2 := Lib.hid (Y2.out.other3 (g' := w.heap.size) (by simp) (.slice A1 n1 c1) (.slice B1 m1 d1) (.slice C1 k1 f1))
  have QB := Lib.hid (below_set3 (g := w.heap.size) (below_then HB.out HB1.out) (Nat.le_refl _) (.slice A1 n1 c1) (.slice B1 m1 d1) (.slice C1 k1 f1))
  have HQ := Lib.hid (H1.out.set3 Y1.out (B1 := A1) (p1 := n1) (e1 := c1) (B2 := B1) (p2 := m1) (e2 := d1) (B3 := C1) (p3 := k1) (e3 := f1))
  generalize (((w1.setCell ⟨w.heap.size, 0, none⟩ (.slice A1 n1 c1)).setCell ⟨w.heap.size, 1, none⟩ (.slice B1 m1 d1)).setCell ⟨w.heap.size, 2, none⟩ (.slice C1 k1 f1)) = W1 at *
  clear a0 a1 a2 af0 af1 af2 z0 z1 z2 zf0 zf1 zf2
  have a0 := Q1.out.c0; have a1 := Q1.out.c1; have a2 := Q1.out.c2; have af0 := Q1.out.f0; have af1 := Q1.out.f1; have af2 := Q1.out.f2
  have z0 := Q2.out.c0; have z1 := Q2.out.c1; have z2 := Q2.out.c2; have zf0 := Q2.out.f0; have zf1 := Q2.out.f1; have zf2 := Q2.out.f2
  have hQ1 := Q1.out.lt; have hQ2 := Q2.out.lt
  go_region_held3 (fun w' => Below W1.heap.size W1 w' ∧ w'.cell? ⟨w.heap.size, 0, none⟩ = some (.slice A1 n1 c1) ∧ w'.cell? ⟨w.heap.size, 1, none⟩ = some (.slice B1 m1 d1) ∧ w'.cell? ⟨w.heap.size, 2, none⟩ = some (.slice C1 k1 f1)) (first | assumption | exact ⟨below_drewN (Below.refl _ _) 1, a0, a1, a2⟩ | exact ⟨HV.out, (Q1.out.keep HV.out).c0, (Q1.out.keep HV.out).c1, (Q1.out.keep HV.out).c2⟩)
    (first
      | (go_at_call 29; refine (HN.out _ _ _ _ _ _ _ _ _ _).mono ?_; rintro e w3 ⟨rfl, hb3⟩; have HV := Lib.hid (below_then HV.out hb3); have HD := Lib.hid hb3; clear hb3)
      | (go_at_call 30; refine (HU.out _).mono ?_; rintro e w2 ⟨rfl, hb2⟩; have HV := Lib.hid (below_then (below_drewN (Below.refl _ _) 1) hb2); clear hb2))
  have T1 := Lib.hid (Q1.out.keep HV.out)
  have T2 := Lib.hid (Q2.out.keep HV.out)
  clear a0 a1 a2 af0 af1 af2 z0 z1 z2 zf0 zf1 zf2
  have a0 := T1.out.c0; have a1 := T1.out.c1; have a2 := T1.out.c2; have af0 := T1.out.f0; have af1 := T1.out.f1; have af2 := T1.out.f2
  have z0 := T2.out.c0; have z1 := T2.out.c1; have z2 := T2.out.c2; have zf0 := T2.out.f0; have zf1 := T2.out.f1; have zf2 := T2.out.f2
  have HS := Lib.hid (snd_sane b)
  have hT1 := T1.out.lt
  have hT2 := T2.out.lt
  cases hE : (wdE (flSnd b) d' != 0)
  · have HE : Hid (wdE (flSnd b) d' = 0) := Lib.hid (by simpa using hE)
    cases d' <;> unfold wdFn
    all_goals
      go_wp2_with ((first | go_at_call 44 | go_at_call 45 | go_at_call 46 | go_at_call 47 | go_at_call 48 | go_at_call 49 | go_at_call 50 | go_at_call 51 | go_at_call 52 | go_at_call 53 | go_at_call 54 | go_at_call 55 | go_at_call 56); refine (HX.out _ _ _ _ _ _ _ _ _ _ (HF.out.snd.mono (by omega)) HS.out (HQ.out.below HV.out)).mono ?_; rintro e w4 ⟨A4, n4, c4, B4, m4, d4, C4, k4, f4, rfl, h4, hb4⟩; have HB4 := Lib.hid hb4; have H4 := Lib.hid h4; clear h4 hb4; have I1 := Lib.hid (T1.out.keep HB4.out); have I2 := Lib.hid (T2.out.keep HB4.out); clear a0 a1 a2 af0 af1 af2 z0 z1 z2 zf0 zf1 zf2; have a0 := I1.out.c0; have a1 := I1.out.c1; have a2 := I1.out.c2; have af0 := I1.out.f0; have af1 := I1.out.f1; have af2 := I1.out.f2; have z0 := I2.out.c0; have z1 := I2.out.c1; have z2 := I2.out.c2; have zf0 := I2.out.f0; have zf1 := I2.out.f1; have zf2 := I2.out.f2; have hI1 := I1.out.lt; have hI2 := I2.out.lt)
      refine bodyPost_ret (v := .tuple #[.agg #[.slice A4 n4 c4, .slice B4 m4 d4, .slice C4 k4 f4], .bool true, .int .i64 0]) (by simp [results, Try.results14, go_sem, z0, z1, z2, hI2] <;> rfl) rfl (wd_fin ((H4.out.set3 I2.out).alloc _) ((below_set3 (g := w.heap.size + 1) (below_then (below_then QB.out HV.out) HB4.out) (by omega) _ _ _).alloc (by have := QB.out.size; have h2 := HV.out.size; have h3 := HB4.out.size; simp [World.setCell]; omega) _) (by unfold wdN; rw [if_pos HE.out]) HE.out.symm)
  · have HE : Hid (wdE (flSnd b) d' ≠ 0) := Lib.hid (by simpa using hE)
    cases d' <;> unfold wdFn
    all_goals
      go_wp2_with ((first | go_at_call 44 | go_at_call 45 | go_at_call 46 | go_at_call 47 | go_at_call 48 | go_at_call 49 | go_at_call 50 | go_at_call 51 | go_at_call 52 | go_at_call 53 | go_at_call 54 | go_at_call 55 | go_at_call 56); refine (HX.out _ _ _ _ _ _ _ _ _ _ (HF.out.snd.mono (by omega)) HS.out (HQ.out.below HV.out)).mono ?_; rintro e w4 ⟨A4, n4, c4, B4, m4, d4, C4, k4, f4, rfl, h4, hb4⟩; have HB4 := Lib.hid hb4; have H4 := Lib.hid h4; clear h4 hb4; have I1 := Lib.hid (T1.out.keep HB4.out); have I2 := Lib.hid (T2.out.keep HB4.out); clear a0 a1 a2 af0 af1 af2 z0 z1 z2 zf0 zf1 zf2; have a0 := I1.out.c0; have a1 := I1.out.c1; have a2 := I1.out.c2; have af0 := I1.out.f0; have af1 := I1.out.f1; have af2 := I1.out.f2; have z0 := I2.out.c0; have z1 := I2.out.c1; have z2 := I2.out.c2; have zf0 := I2.out.f0; have zf1 := I2.out.f1; have zf2 := I2.out.f2; have hI1 := I1.out.lt; have hI2 := I2.out.lt)
      refine bodyPost_ret (v := .tuple #[.agg #[.slice A1 n1 c1, .slice B1 m1 d1, .slice C1 k1 f1], .bool true, .int .i64 (wdE (flSnd b) _)]) (by simp [results, Try.results14, go_sem, z0, z1, z2, hI2] <;> rfl) rfl (wd_fin (((HQ.out.below (below_then HV.out HB4.out)).set3 I2.out).alloc _) ((below_set3 (g := w.heap.size + 1) (below_then (below_then QB.out HV.out) HB4.out) (by omega) _ _ _).alloc (by have := QB.out.size; have h2 := HV.out.size; have h3 := HB4.out.size; simp [World.setCell]; omega) _) (by unfold wdN; rw [if_neg HE.out]) rfl)
end Go.Proofs.Ytkcpmjccggfpiaa
