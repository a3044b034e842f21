/-
  Two threads are one, or not; few; what Word answers at any text; and that the program is awake.
-/
import Derived.Test.YtkcpmjccggfpiaaFlowCalls
import Derived.Test.YtkcpmjccggfpiaaFlowOurs
namespace Go.Proofs.Ytkcpmjccggfpiaa
open Go.RowKit

/-- Are two threads one? -/
def flSame (b b' : Bd) : Bool := decide (b.code = b'.code) && decide (b.marks = b'.marks) && decide (b.outs = b'.outs)
theorem flSame_self (b : Bd) : flSame b b = true := by simp [flSame]
set_option maxHeartbeats 1000000 in
theorem same_any (A B C A' B' C' : Option Addr) (n c m d k f n' c' m' d' k' f' : Nat) (b b' : Bd) (r : Bool) (w : World) (hF : Few 50000 b) (hF' : Few 50000 b') (h : Bl w A n c B m d C k f b) (h' : Bl w A' n' c' B' m' d' C' k' f' b') (hr : flSame b b' = r) :
    Calls Try.prog 18 #[.agg #[.slice A n c, .slice B m d, .slice C k f], .agg #[.slice A' n' c', .slice B' m' d', .slice C' k' f']] w fun e w' => e = .returned (.bool r) ∧ Below w.heap.size w w' := by
  obtain ⟨hn, hm, hk⟩ := h.ns hF
  obtain ⟨hn', hm', hk'⟩ := h'.ns hF'
  have H := Lib.hid h
  have H' := Lib.hid h'
  clear h h' hF hF'
  have X1 := Lib.hid ((Bx.new w 25 (.slice A n c) (.slice B m d) (.slice C k f)).alloc (.cells #[.slice A' n' c', .slice B' m' d', .slice C' k' f'] 25))
  have X2 := Lib.hid (Bx.new2 w (.cells #[.slice A n c, .slice B m d, .slice C k f] 25) 25 (.slice A' n' c') (.slice B' m' d') (.slice C' k' f'))
  have HB := Lib.hid (below_two w (.cells #[.slice A n c, .slice B m d, .slice C k f] 25) (.cells #[.slice A' n' c', .slice B' m' d', .slice C' k' f'] 25))
  unfold flSame at hr
  obtain ⟨r1, h1⟩ : ∃ r1, decide (b.code = b'.code) = r1 := ⟨_, rfl⟩
  obtain ⟨r2, h2⟩ : ∃ r2, decide (b.marks = b'.marks) = r2 := ⟨_, rfl⟩
  obtain ⟨r3, h3⟩ : ∃ r3, decide (b.outs = b'.outs) = r3 := ⟨_, rfl⟩
  rw [h1, h2, h3] at hr
  have H1 := Lib.hid h1
  have H2 := Lib.hid h2
  have H3 := Lib.hid h3
  clear h1 h2 h3
  cases r1
  · obtain rfl : false = r := hr
    go_enter Try.func18, Try.ntmps18
    go_upto_region 1 with (fail)
    generalize (w.alloc (.cells #[.slice A n c, .slice B m d, .slice C k f] 25)).alloc (.cells #[.slice A' n' c', .slice B' m' d', .slice C' k' f'] 25) = W at *
    have a0 := X1.out.c0; have a1 := X1.out.c1; have a2 := X1.out.c2; have af0 := X1.out.f0; have af1 := X1.out.f1; have af2 := X1.out.f2
    have z0 := X2.out.c0; have z1 := X2.out.c1; have z2 := X2.out.c2; have zf0 := X2.out.f0; have zf1 := X2.out.f1; have zf2 := X2.out.f2
    go_wp2_with (go_at_call 20; refine (code_any _ _ _ _ _ _ _ _ _ _ (by omega) (by omega) (H.out.pc.below HB.out) (H'.out.pc.below HB.out) H1.out).mono ?_; rintro e w1 ⟨rfl, hb1⟩; have HB1 := Lib.hid hb1; clear hb1)
    go_ret
    exact ⟨rfl, below_then HB.out HB1.out⟩
  · cases r2
    · obtain rfl : false = r := hr
      go_enter Try.func18, Try.ntmps18
      go_upto_region 1 with (fail)
      generalize (w.alloc (.cells #[.slice A n c, .slice B m d, .slice C k f] 25)).alloc (.cells #[.slice A' n' c', .slice B' m' d', .slice C' k' f'] 25) = W at *
      have a0 := X1.out.c0; have a1 := X1.out.c1; have a2 := X1.out.c2; have af0 := X1.out.f0; have af1 := X1.out.f1; have af2 := X1.out.f2
      have z0 := X2.out.c0; have z1 := X2.out.c1; have z2 := X2.out.c2; have zf0 := X2.out.f0; have zf1 := X2.out.f1; have zf2 := X2.out.f2
      go_wp2_with (first
        | (go_at_call 20; refine (code_any _ _ _ _ _ _ _ _ _ _ (by omega) (by omega) (H.out.pc.below HB.out) (H'.out.pc.below HB.out) H1.out).mono ?_; rintro e w1 ⟨rfl, hb1⟩; have HB1 := Lib.hid hb1; clear hb1; have Y1 := Lib.hid (X1.out.keep HB1.out); have Y2 := Lib.hid (X2.out.keep HB1.out); clear a0 a1 a2 af0 af1 af2 z0 z1 z2 zf0 zf1 zf2; have a0 := Y1.out.c0; have a1 := Y1.out.c1; have a2 := Y1.out.c2; have af0 := Y1.out.f0; have af1 := Y1.out.f1; have af2 := Y1.out.f2; have z0 := Y2.out.c0; have z1 := Y2.out.c1; have z2 := Y2.out.c2; have zf0 := Y2.out.f0; have zf1 := Y2.out.f1; have zf2 := Y2.out.f2)
        | (go_at_call 38; refine (marks_any _ _ _ _ _ _ _ _ _ _ (by omega) (by omega) (H.out.pm.below (below_then HB.out HB1.out)) (H'.out.pm.below (below_then HB.out HB1.out)) H2.out).mono ?_; rintro e w2 ⟨rfl, hb2⟩; have HB2 := Lib.hid hb2; clear hb2))
      go_ret
      exact ⟨rfl, below_then (below_then HB.out HB1.out) HB2.out⟩
    · obtain rfl : r3 = r := by simpa using hr
      clear hr
      go_enter Try.func18, Try.ntmps18
      go_upto_region 1 with (fail)
      generalize (w.alloc (.cells #[.slice A n c, .slice B m d, .slice C k f] 25)).alloc (.cells #[.slice A' n' c', .slice B' m' d', .slice C' k' f'] 25) = W at *
      have a0 := X1.out.c0; have a1 := X1.out.c1; have a2 := X1.out.c2; have af0 := X1.out.f0; have af1 := X1.out.f1; have af2 := X1.out.f2
      have z0 := X2.out.c0; have z1 := X2.out.c1; have z2 := X2.out.c2; have zf0 := X2.out.f0; have zf1 := X2.out.f1; have zf2 := X2.out.f2
      go_wp2_with (first
        | (go_at_call 20; refine (code_any _ _ _ _ _ _ _ _ _ _ (by omega) (by omega) (H.out.pc.below HB.out) (H'.out.pc.below HB.out) H1.out).mono ?_; rintro e w1 ⟨rfl, hb1⟩; have HB1 := Lib.hid hb1; clear hb1; have Y1 := Lib.hid (X1.out.keep HB1.out); have Y2 := Lib.hid (X2.out.keep HB1.out); clear a0 a1 a2 af0 af1 af2 z0 z1 z2 zf0 zf1 zf2; have a0 := Y1.out.c0; have a1 := Y1.out.c1; have a2 := Y1.out.c2; have af0 := Y1.out.f0; have af1 := Y1.out.f1; have af2 := Y1.out.f2; have z0 := Y2.out.c0; have z1 := Y2.out.c1; have z2 := Y2.out.c2; have zf0 := Y2.out.f0; have zf1 := Y2.out.f1; have zf2 := Y2.out.f2)
        | (have hx := HB2; clear hx; go_at_call 38; refine (marks_any _ _ _ _ _ _ _ _ _ _ (by omega) (by omega) (H.out.po.below (below_then (below_then HB.out HB1.out) HB2.out)) (H'.out.po.below (below_then (below_then HB.out HB1.out) HB2.out)) H3.out).mono ?_; rintro e w3 ⟨rfl, hb3⟩; have HB3 := Lib.hid hb3; clear hb3)
        | (go_at_call 38; refine (marks_any _ _ _ _ _ _ _ _ _ _ (by omega) (by omega) (H.out.pm.below (below_then HB.out HB1.out)) (H'.out.pm.below (below_then HB.out HB1.out)) H2.out).mono ?_; rintro e w2 ⟨rfl, hb2⟩; have HB2 := Lib.hid hb2; clear hb2; have Z1 := Lib.hid (Y1.out.keep HB2.out); have Z2 := Lib.hid (Y2.out.keep HB2.out); clear a0 a1 a2 af0 af1 af2 z0 z1 z2 zf0 zf1 zf2; have a0 := Z1.out.c0; have a1 := Z1.out.c1; have a2 := Z1.out.c2; have af0 := Z1.out.f0; have af1 := Z1.out.f1; have af2 := Z1.out.f2; have z0 := Z2.out.c0; have z1 := Z2.out.c1; have z2 := Z2.out.c2; have zf0 := Z2.out.f0; have zf1 := Z2.out.f1; have zf2 := Z2.out.f2))
      go_ret
      exact ⟨rfl, below_then (below_then (below_then HB.out HB1.out) HB2.out) HB3.out⟩

/-- Is a thread short? -/
def flFew (b : Bd) : Bool := decide (b.code.length ≤ 200) && decide (b.marks.length ≤ 50) && decide (b.outs.length ≤ 50)
theorem few_any (A B C : Option Addr) (n c m d k f : Nat) (b : Bd) (r : Bool) (w : World) (h : Bl w A n c B m d C k f b) (hr : flFew b = r) :
    Calls Try.prog 10 #[.agg #[.slice A n c, .slice B m d, .slice C k f]] w fun e w' => e = .returned (.bool r) ∧ Below w.heap.size w w' := by
  unfold flFew at hr
  rw [h.pc.len, h.pm.len, h.po.len] at hr
  clear h
  cases h1 : decide (n ≤ 200) <;> cases h2 : decide (m ≤ 50) <;> cases h3 : decide (k ≤ 50) <;> rw [h1, h2, h3] at hr <;> simp at hr <;> subst hr <;>
    (have i1 : decide ((n : Int) ≤ 200) = decide (n ≤ 200) := decide_eq_decide.2 (by omega)
     have i2 : decide ((m : Int) ≤ 50) = decide (m ≤ 50) := decide_eq_decide.2 (by omega)
     have i3 : decide ((k : Int) ≤ 50) = decide (k ≤ 50) := decide_eq_decide.2 (by omega)
     rw [h1] at i1
     rw [h2] at i2
     rw [h3] at i3
     go_enter Try.func10, Try.ntmps10
     go_wp2
     go_ret
     exact ⟨rfl, below_one _ _⟩)
theorem flFew_few {b : Bd} (h : flFew b = true) : Few 200 b := by
  simp [flFew] at h
  exact ⟨by omega, by omega, by omega⟩

/-- What Word answers, by the text in capitals. -/
def wkB (b : Bd) (u : List UInt8) : Bd := match wdF u with | none => b | some d => wdN b d
def wkE (b : Bd) (u : List UInt8) : Int := match wdF u with | none => 0 | some d => wdE b d
def wkO (u : List UInt8) : Bool := (wdF u).isSome
theorem word_any (S : ByteArray) (l : List UInt8) (hS : S = ⟨l.toArray⟩) (hl : l.length ≤ 2000) (A B C : Option Addr) (n c m d k f : Nat) (b : Bd) (w : World) (hF : Few 20000 b) (h : Bl w A n c B m d C k f b) :
    Calls Try.prog 14 #[.agg #[.slice A n c, .slice B m d, .slice C k f], .string S] w (WdPost w (wkB (flSnd b) (l.map scU)) (wkO (l.map scU)) (wkE (flSnd b) (l.map scU))) := by
  unfold wkB wkE wkO
  cases hw : wdF (l.map scU) with
  | none => exact word_none S l hS hl hw A B C n c m d k f b w hF h
  | some d' => exact word_some S l d' hS hl hw A B C n c m d k f b w hF h

theorem w_if : wkB (flSnd ⟨[], [], []⟩) ([105, 102].map scU) = ⟨[(2, 0)], [(1, 0)], []⟩ ∧ wkE (flSnd ⟨[], [], []⟩) ([105, 102].map scU) = 0 ∧ wkO ([105, 102].map scU) = true := ⟨rfl, by decide, by decide⟩
theorem w_then : wkB (flSnd ⟨[(2, 0)], [(1, 0)], []⟩) ([116, 104, 101, 110].map scU) = ⟨[(2, 1)], [], []⟩ ∧ wkE (flSnd ⟨[(2, 0)], [(1, 0)], []⟩) ([116, 104, 101, 110].map scU) = 0 ∧ wkO ([116, 104, 101, 110].map scU) = true := ⟨rfl, by decide, by decide⟩
theorem w_end : finL (flSnd ⟨[(2, 1)], [], []⟩) = [(2, 1), (4, 0)] ∧ finE (flSnd ⟨[(2, 1)], [], []⟩) = 0 ∧ flWhole [(2, 1), (4, 0)] = true := by decide
theorem aw_if (w : World) : Calls Try.prog 14 #[.agg #[.slice none 0 0, .slice none 0 0, .slice none 0 0], .string ⟨#[105, 102]⟩] w (WdPost w ⟨[(2, 0)], [(1, 0)], []⟩ true 0) := by
  have h := word_any ⟨#[105, 102]⟩ [105, 102] rfl (by decide) none none none 0 0 0 0 0 0 ⟨[], [], []⟩ w ⟨by simp, by simp, by simp⟩ Bl.nil
  rw [w_if.1, w_if.2.1, w_if.2.2] at h
  exact h
theorem aw_then (A B C : Option Addr) (n c m d k f : Nat) (w : World) (h : Bl w A n c B m d C k f ⟨[(2, 0)], [(1, 0)], []⟩) : Calls Try.prog 14 #[.agg #[.slice A n c, .slice B m d, .slice C k f], .string ⟨#[116, 104, 101, 110]⟩] w (WdPost w ⟨[(2, 1)], [], []⟩ true 0) := by
  have h := word_any ⟨#[116, 104, 101, 110]⟩ [116, 104, 101, 110] rfl (by decide) A B C n c m d k f ⟨[(2, 0)], [(1, 0)], []⟩ w ⟨by simp, by simp, by simp⟩ h
  rw [w_then.1, w_then.2.1, w_then.2.2] at h
  exact h
theorem aw_end (A B C : Option Addr) (n c m d k f : Nat) (w : World) (h : Bl w A n c B m d C k f ⟨[(2, 1)], [], []⟩) : Calls Try.prog 16 #[.agg #[.slice A n c, .slice B m d, .slice C k f]] w fun e w' => ∃ b o c, e = .returned (.tuple #[.slice (some ⟨b, o, none⟩) 2 c, .int .i64 0]) ∧ Prs w' (some ⟨b, o, none⟩) 2 c [(2, 1), (4, 0)] ∧ Below w.heap.size w w' ∧ w'.cell? ⟨b, o, none⟩ = some (.int .i64 2) ∧ w'.cell? ⟨b, o + 1, none⟩ = some (.int .i64 1) ∧ w'.cell? ⟨b, o + 2, none⟩ = some (.int .i64 4) ∧ w'.cell? ⟨b, o + 3, none⟩ = some (.int .i64 0) := by
  have h := end_any A B C n c m d k f ⟨[(2, 1)], [], []⟩ w ⟨by simp, by simp, by simp⟩ h
  rw [w_end.1, w_end.2.1] at h
  refine h.mono ?_
  rintro e w' ⟨A1, n1, c1, rfl, hp, hb⟩
  obtain rfl : 2 = n1 := hp.len
  obtain ⟨b, o, rfl, _, e0, e1⟩ := hp.at_ 0 (by omega)
  obtain ⟨b', o', hx, _, e2, e3⟩ := hp.at_ 1 (by omega)
  cases hx
  exact ⟨b, o, c1, rfl, hp, hb, by simpa using e0, by simpa using e1, by simpa using e2, by simpa using e3⟩
set_option maxHeartbeats 1000000 in
theorem awake_any (w : World) : Calls Try.prog 9 #[] w fun e w' => e = .returned (.bool true) ∧ Below w.heap.size w w' := by
  have q := eqPI
  go_enter Try.func9, Try.ntmps9
  go_upto_region 2 with ((go_at_call 14; refine (aw_if _).mono ?_; rintro e w1 ⟨A1, n1, c1, B1, m1, d1, C1, k1, f1, rfl, h1, hb1⟩; have HB1 := Lib.hid (below_then hb1 (below_one _ (.cells #[.slice A1 n1 c1, .slice B1 m1 d1, .slice C1 k1 f1] 30))); have H1 := Lib.hid (h1.alloc (.cells #[.slice A1 n1 c1, .slice B1 m1 d1, .slice C1 k1 f1] 30)); have X1 := Lib.hid (Bx.new w1 30 (.slice A1 n1 c1) (.slice B1 m1 d1) (.slice C1 k1 f1)); clear h1 hb1))
  generalize w1.alloc (.cells #[.slice A1 n1 c1, .slice B1 m1 d1, .slice C1 k1 f1] 30) = W1 at *
  have x0 := X1.out.c0; have x1 := X1.out.c1; have x2 := X1.out.c2
  go_upto_region 3 with ((go_at_call 14; refine (aw_then _ _ _ _ _ _ _ _ _ _ H1.out).mono ?_; rintro e w2 ⟨A2, n2, c2, B2, m2, d2, C2, k2, f2, rfl, h2, hb2⟩; have HB2 := Lib.hid (below_then HB1.out (below_then hb2 (below_one _ (.cells #[.slice A2 n2 c2, .slice B2 m2 d2, .slice C2 k2 f2] 30)))); have H2 := Lib.hid (h2.alloc (.cells #[.slice A2 n2 c2, .slice B2 m2 d2, .slice C2 k2 f2] 30)); have X2 := Lib.hid (Bx.new w2 30 (.slice A2 n2 c2) (.slice B2 m2 d2) (.slice C2 k2 f2)); clear h2 hb2))
  generalize w2.alloc (.cells #[.slice A2 n2 c2, .slice B2 m2 d2, .slice C2 k2 f2] 30) = W2 at *
  clear x0 x1 x2 X1 H1
  have x0 := X2.out.c0; have x1 := X2.out.c1; have x2 := X2.out.c2
  go_upto_region 4 with ((go_at_call 16; refine (aw_end _ _ _ _ _ _ _ _ _ _ H2.out).mono ?_; rintro e w3 ⟨b3, o3, c3, rfl, h3, hb3, e0, e1, e2, e3⟩; have HB3 := Lib.hid (below_then HB2.out hb3); have H3 := Lib.hid h3; clear h3 hb3))
  clear x0 x1 x2 X2 H2
  have HW := Lib.hid w_end.2.2
  go_wp2_with (go_at_call 23; refine (whole_any _ _ _ _ _ _ (by omega) H3.out HW.out).mono ?_; rintro e w4 ⟨rfl, hb4⟩; have HB4 := Lib.hid hb4; clear hb4)
  go_ret
  exact ⟨rfl, below_then HB3.out HB4.out⟩
end Go.Proofs.Ytkcpmjccggfpiaa
