/-
  Which call a word in capitals picks: the method value that package flow's does answers.
-/
import Derived.Test.YtkcpmjccggfpiaaFlowEnd
namespace Go.Proofs.Ytkcpmjccggfpiaa
open Go.RowKit

set_option maxHeartbeats 1000000 in
theorem doLoop_any (A B C : Option Addr) (n c m d k f : Nat) (b : Bd) (w : World) (hF : Few 30000 b) (hS : flSane b = true) (h : Bl w A n c B m d C k f b) :
    Calls Try.prog 54 #[.agg #[.slice A n c, .slice B m d, .slice C k f]] w (BtPost w (wdB b .loop_) (wdE b .loop_)) := by
  have HF := Lib.hid hF
  have HS := Lib.hid hS
  clear hS
  obtain ⟨hn, hm, hk⟩ := h.ns hF
  have LC := Lib.hid h.1.len
  have LM := Lib.hid h.2.1.len
  have LO := Lib.hid h.2.2.len
  have H := Lib.hid h
  clear h hF
  have X1 := Lib.hid ((Bx.new w 30 (.slice A n c) (.slice B m d) (.slice C k f)).alloc (.cells #[.slice none 0 0, .slice none 0 0, .slice none 0 0] 30))
  have X2 := Lib.hid (Bx.new2 w (.cells #[.slice A n c, .slice B m d, .slice C k f] 30) 30 (.slice none 0 0) (.slice none 0 0) (.slice none 0 0))
  have HB := Lib.hid (below_two w (.cells #[.slice A n c, .slice B m d, .slice C k f] 30) (.cells #[.slice none 0 0, .slice none 0 0, .slice none 0 0] 30))
  go_enter Try.func54, Try.ntmps54
  go_upto_region 1 with (fail)
  generalize (w.alloc (.cells #[.slice A n c, .slice B m d, .slice C k f] 30)).alloc (.cells #[.slice none 0 0, .slice none 0 0, .slice none 0 0] 30) = W at *
  have hg1 : w.heap.size < W.heap.size := X1.out.lt
  have hg2 : w.heap.size + 1 < W.heap.size := X2.out.lt
  have HL := Lib.hid (H.out.below HB.out)
  have a0 := X1.out.c0; have a1 := X1.out.c1; have a2 := X1.out.c2; have af0 := X1.out.f0; have af1 := X1.out.f1; have af2 := X1.out.f2
  have z0 := X2.out.c0; have z1 := X2.out.c1; have z2 := X2.out.c2; have zf0 := X2.out.f0; have zf1 := X2.out.f1; have zf2 := X2.out.f2
  go_wp2_with (go_at_call 70; refine (endLoop_any _ _ _ _ _ _ _ _ _ b 7 _ HF.out HS.out HL.out).mono ?_; rintro e w1 ⟨A1, n1, c1, B1, m1, d1, C1, k1, f1, rfl, h1, hb1⟩; have HB1 := Lib.hid (hb1); have H1 := Lib.hid h1; clear h1 hb1; have Y1 := Lib.hid (X1.out.keep HB1.out); have Y2 := Lib.hid (X2.out.keep HB1.out); clear a0 a1 a2 af0 af1 af2 z0 z1 z2 zf0 zf1 zf2; have a0 := Y1.out.c0; have a1 := Y1.out.c1; have a2 := Y1.out.c2; have af0 := Y1.out.f0; have af1 := Y1.out.f1; have af2 := Y1.out.f2; have z0 := Y2.out.c0; have z1 := Y2.out.c1; have z2 := Y2.out.c2; have zf0 := Y2.out.f0; have zf1 := Y2.out.f1; have zf2 := Y2.out.f2; have hY1 := Y1.out.lt; have hY2 := Y2.out.lt)
  refine bodyPost_ret (v := .tuple #[.agg #[.slice A1 n1 c1, .slice B1 m1 d1, .slice C1 k1 f1], .int .i64 (wdE b .loop_)]) (by simp [results, Try.results54, go_sem, z0, z1, z2] <;> rfl) rfl (bt_fin (H1.out.set3 Y2.out) (below_set3 (below_then HB.out HB1.out) (by simp) _ _ _) rfl rfl)
set_option maxHeartbeats 1000000 in
theorem doPlusLoop_any (A B C : Option Addr) (n c m d k f : Nat) (b : Bd) (w : World) (hF : Few 30000 b) (hS : flSane b = true) (h : Bl w A n c B m d C k f b) :
    Calls Try.prog 55 #[.agg #[.slice A n c, .slice B m d, .slice C k f]] w (BtPost w (wdB b .plusLoop) (wdE b .plusLoop)) := by
  have HF := Lib.hid hF
  have HS := Lib.hid hS
  clear hS
  obtain ⟨hn, hm, hk⟩ := h.ns hF
  have LC := Lib.hid h.1.len
  have LM := Lib.hid h.2.1.len
  have LO := Lib.hid h.2.2.len
  have H := Lib.hid h
  clear h hF
  have X1 := Lib.hid ((Bx.new w 30 (.slice A n c) (.slice B m d) (.slice C k f)).alloc (.cells #[.slice none 0 0, .slice none 0 0, .slice none 0 0] 30))
  have X2 := Lib.hid (Bx.new2 w (.cells #[.slice A n c, .slice B m d, .slice C k f] 30) 30 (.slice none 0 0) (.slice none 0 0) (.slice none 0 0))
  have HB := Lib.hid (below_two w (.cells #[.slice A n c, .slice B m d, .slice C k f] 30) (.cells #[.slice none 0 0, .slice none 0 0, .slice none 0 0] 30))
  go_enter Try.func55, Try.ntmps55
  go_upto_region 1 with (fail)
  generalize (w.alloc (.cells #[.slice A n c, .slice B m d, .slice C k f] 30)).alloc (.cells #[.slice none 0 0, .slice none 0 0, .slice none 0 0] 30) = W at *
  have hg1 : w.heap.size < W.heap.size := X1.out.lt
  have hg2 : w.heap.size + 1 < W.heap.size := X2.out.lt
  have HL := Lib.hid (H.out.below HB.out)
  have a0 := X1.out.c0; have a1 := X1.out.c1; have a2 := X1.out.c2; have af0 := X1.out.f0; have af1 := X1.out.f1; have af2 := X1.out.f2
  have z0 := X2.out.c0; have z1 := X2.out.c1; have z2 := X2.out.c2; have zf0 := X2.out.f0; have zf1 := X2.out.f1; have zf2 := X2.out.f2
  go_wp2_with (go_at_call 70; refine (endLoop_any _ _ _ _ _ _ _ _ _ b 8 _ HF.out HS.out HL.out).mono ?_; rintro e w1 ⟨A1, n1, c1, B1, m1, d1, C1, k1, f1, rfl, h1, hb1⟩; have HB1 := Lib.hid (hb1); have H1 := Lib.hid h1; clear h1 hb1; have Y1 := Lib.hid (X1.out.keep HB1.out); have Y2 := Lib.hid (X2.out.keep HB1.out); clear a0 a1 a2 af0 af1 af2 z0 z1 z2 zf0 zf1 zf2; have a0 := Y1.out.c0; have a1 := Y1.out.c1; have a2 := Y1.out.c2; have af0 := Y1.out.f0; have af1 := Y1.out.f1; have af2 := Y1.out.f2; have z0 := Y2.out.c0; have z1 := Y2.out.c1; have z2 := Y2.out.c2; have zf0 := Y2.out.f0; have zf1 := Y2.out.f1; have zf2 := Y2.out.f2; have hY1 := Y1.out.lt; have hY2 := Y2.out.lt)
  refine bodyPost_ret (v := .tuple #[.agg #[.slice A1 n1 c1, .slice B1 m1 d1, .slice C1 k1 f1], .int .i64 (wdE b .plusLoop)]) (by simp [results, Try.results55, go_sem, z0, z1, z2] <;> rfl) rfl (bt_fin (H1.out.set3 Y2.out) (below_set3 (below_then HB.out HB1.out) (by simp) _ _ _) rfl rfl)

/-- A word's own call. -/
def wdFn : Wd → FuncId
  | .if_ => 44 | .else_ => 45 | .then_ => 46 | .begin_ => 47 | .again => 48 | .until_ => 49 | .while_ => 50 | .repeat_ => 51
  | .do_ => 52 | .mayDo => 53 | .loop_ => 54 | .plusLoop => 55 | .leave => 56
theorem wd_any (d' : Wd) (A B C : Option Addr) (n c m d k f : Nat) (b : Bd) (w : World) (hF : Few 30000 b) (hS : flSane b = true) (h : Bl w A n c B m d C k f b) :
    Calls Try.prog (wdFn d') #[.agg #[.slice A n c, .slice B m d, .slice C k f]] w (BtPost w (wdB b d') (wdE b d')) := by
  cases d'
  · exact doIf_any A B C n c m d k f b w hF hS h
  · exact doElse_any A B C n c m d k f b w hF hS h
  · exact doThen_any A B C n c m d k f b w hF hS h
  · exact doBegin_any A B C n c m d k f b w hF hS h
  · exact doAgain_any A B C n c m d k f b w hF hS h
  · exact doUntil_any A B C n c m d k f b w hF hS h
  · exact doWhile_any A B C n c m d k f b w hF hS h
  · exact doRepeat_any A B C n c m d k f b w hF hS h
  · exact doDo_any A B C n c m d k f b w hF hS h
  · exact doMayDo_any A B C n c m d k f b w hF hS h
  · exact doLoop_any A B C n c m d k f b w hF hS h
  · exact doPlusLoop_any A B C n c m d k f b w hF hS h
  · exact doLeave_any A B C n c m d k f b w hF hS h
set_option maxHeartbeats 1000000 in
theorem does_word (d' : Wd) (A B C : Option Addr) (n c m d k f : Nat) (w : World) :
    Calls Try.prog 29 #[.agg #[.slice A n c, .slice B m d, .slice C k f], .string ⟨(wdT d').toArray⟩] w fun e w' => e = .returned (.func (.func (wdFn d')) #[.agg #[.slice A n c, .slice B m d, .slice C k f]] #[]) ∧ Below w.heap.size w w' := by
  have hmf : ∀ (fn : Fn) (first cap : Array Value) (w : World), (Instr.makeFunc fn first cap).run Try.prog w = .ok (.func fn first cap) w := fun _ _ _ _ => rfl
  cases d' <;> unfold wdT wdFn <;>
  (go_enter Try.func29, Try.ntmps29
   go_wp2
   go_ret
   exact ⟨rfl, below_one _ _⟩)
theorem bytes_ne {S : ByteArray} {l m : List UInt8} (hS : S = ⟨l.toArray⟩) (h : (l == m) = false) : (S.toList == m) = false := by
  subst hS
  have e : (⟨l.toArray⟩ : ByteArray).toList = l := by
    exact ByteArray.toList_mk l
  rw [e]
  exact h
set_option maxHeartbeats 1000000 in
theorem does_none (S : ByteArray) (l : List UInt8) (hS : S = ⟨l.toArray⟩) (hl : wdF l = none) (A B C : Option Addr) (n c m d k f : Nat) (w : World) :
    Calls Try.prog 29 #[.agg #[.slice A n c, .slice B m d, .slice C k f], .string S] w fun e w' => e = .returned .nilFunc ∧ Below w.heap.size w w' := by
  have h1 := bytes_ne hS (wdF_none hl .if_)
  have h2 := bytes_ne hS (wdF_none hl .else_)
  have h3 := bytes_ne hS (wdF_none hl .then_)
  have h4 := bytes_ne hS (wdF_none hl .begin_)
  have h5 := bytes_ne hS (wdF_none hl .again)
  have h6 := bytes_ne hS (wdF_none hl .until_)
  have h7 := bytes_ne hS (wdF_none hl .while_)
  have h8 := bytes_ne hS (wdF_none hl .repeat_)
  have h9 := bytes_ne hS (wdF_none hl .do_)
  have h10 := bytes_ne hS (wdF_none hl .mayDo)
  have h11 := bytes_ne hS (wdF_none hl .loop_)
  have h12 := bytes_ne hS (wdF_none hl .plusLoop)
  have h13 := bytes_ne hS (wdF_none hl .leave)
  unfold wdT at h1 h2 h3 h4 h5 h6 h7 h8 h9 h10 h11 h12 h13
  clear hS hl
  go_enter Try.func29, Try.ntmps29
  go_wp2
  go_ret
  exact ⟨rfl, below_one _ _⟩
end Go.Proofs.Ytkcpmjccggfpiaa
