/-
  What Word answers at the words that the statements name, and at any text, of a thread that may be and is short.
-/
import Derived.Test.YtkcpmjccggfpiaaFlowSame
import Derived.Test.YtkcpmjccggfpiaaFlowFacts
namespace Go.Proofs.Ytkcpmjccggfpiaa
open Go.RowKit

theorem wd_outs (b : Bd) (d : Wd) : (wdB b d).outs.length ≤ b.outs.length + 1 := by
  have hlay : ∀ (c : Bd) (x : List (Int × Int)), (layB c x).outs = c.outs := fun c x => by unfold layB; split <;> rfl
  have hbk : ∀ k o, (backB b k o).outs.length ≤ b.outs.length := by
    intro k o
    unfold backB
    split
    · rw [hlay]; exact Nat.le_refl _
    · exact Nat.le_refl _
  have hend : ∀ o, (endB b o).outs.length ≤ b.outs.length := by
    intro o
    unfold endB
    split
    · exact List.length_filter_le _ _
    · exact hbk 3 o
  cases d
  case again | until_ => have := hbk 2; simp only [wdB]; have h1 := this 1; have h2 := this 2; omega
  case loop_ | plusLoop => have := hend; simp only [wdB]; have h1 := this 7; have h2 := this 8; omega
  all_goals
    simp only [wdB]
    (try split) <;> (try split) <;> (try simp only [aheadB, beginB, markB, resB, outB, takeB, hlay, List.length_append, List.length_cons, List.length_nil]) <;> omega
/-- Word answers B, ok, E at the text S, wherever the thread b lies. -/
abbrev Answers (b : Bd) (S : ByteArray) (B : Bd) (ok : Bool) (E : Int) : Prop :=
  ∀ (A : Option Addr) (n c : Nat) (B' : Option Addr) (m d : Nat) (C : Option Addr) (k f : Nat) (w : World), Bl w A n c B' m d C k f b →
    Calls Try.prog 14 #[.agg #[.slice A n c, .slice B' m d, .slice C k f], .string S] w (WdPost w B ok E)
theorem answers_of {b : Bd} (hs : flSane b = true) (hF : Few 20000 b) (l : List UInt8) (hl : l.length ≤ 2000) : Answers b ⟨l.toArray⟩ (wkB b (l.map scU)) (wkO (l.map scU)) (wkE b (l.map scU)) := by
  intro A n c B' m d C k f w h
  have h2 := word_any ⟨l.toArray⟩ l rfl hl A B' C n c m d k f b w hF h
  rw [snd_of hs] at h2
  exact h2
theorem answers_wd {b : Bd} (hs : flSane b = true) (hF : Few 20000 b) (l : List UInt8) (hl : l.length ≤ 2000) (d : Wd) (hd : wdF (l.map scU) = some d) : Answers b ⟨l.toArray⟩ (wdN b d) true (wdE b d) := by
  have h := answers_of hs hF l hl
  unfold wkB wkO wkE at h
  rw [hd] at h
  exact h
theorem answers_no {b : Bd} (hs : flSane b = true) (hF : Few 20000 b) (l : List UInt8) (hl : l.length ≤ 2000) (hd : wdF (l.map scU) = none) : Answers b ⟨l.toArray⟩ b false 0 := by
  have h := answers_of hs hF l hl
  unfold wkB wkO wkE at h
  rw [hd] at h
  exact h
theorem ww_then {b : Bd} (hs : flSane b = true) (hF : Few 20000 b) : ∃ B E, Answers b ⟨#[84, 72, 69, 78]⟩ B true E ∧ (E == -22) = (topK b != 1) := by
  refine ⟨_, _, answers_wd hs hF [84, 72, 69, 78] (by decide) .then_ rfl, ?_⟩
  show ((if topK b = 1 then (0 : Int) else -22) == -22) = _
  by_cases h : topK b = 1 <;> simp [h]
theorem back_few {b : Bd} (hF : b.code.length ≤ 4000) (k : Int) : (backE b k == -22) = (topK b != k) := by
  unfold backE
  rw [layE_take, layE_of (by omega)]
  by_cases h : topK b = k <;> simp [h]
theorem ww_until {b : Bd} (hs : flSane b = true) (hF : Few 4000 b) : ∃ B E, Answers b ⟨#[85, 78, 84, 73, 76]⟩ B true E ∧ (E == -22) = (topK b != 2) :=
  ⟨_, _, answers_wd hs (hF.mono (by omega)) [85, 78, 84, 73, 76] (by decide) .until_ rfl, back_few hF.1 2⟩
theorem ww_loop {b : Bd} (hs : flSane b = true) (hF : Few 4000 b) : ∃ B E, Answers b ⟨#[76, 79, 79, 80]⟩ B true E ∧ (E == -22) = (topK b != 3) :=
  ⟨_, _, answers_wd hs (hF.mono (by omega)) [76, 79, 79, 80] (by decide) .loop_ rfl, back_few hF.1 3⟩
theorem ww_leave {b : Bd} (hs : flSane b = true) (hF : Few 4000 b) : ∃ B E, Answers b ⟨#[76, 69, 65, 86, 69]⟩ B true E ∧ (E == -22) = (((flDeep b.marks : Nat) : Int) == 0) := by
  refine ⟨_, _, answers_wd hs (hF.mono (by omega)) [76, 69, 65, 86, 69] (by decide) .leave rfl, ?_⟩
  show ((if flDeep b.marks = 0 then (-22 : Int) else layE b 2) == -22) = _
  rw [layE_of (by have := hF.1; omega)]
  by_cases h : flDeep b.marks = 0
  · simp [h]
  · rw [if_neg h]
    have : (((flDeep b.marks : Nat) : Int) == 0) = false := by simp; omega
    rw [this]
    rfl
/-- At any text: what is refused, or no such word, changes nothing; what is taken grows, and may be. -/
theorem ww_any {b : Bd} (hs : flSane b = true) (hF : Few 4000 b) (l : List UInt8) (hl : l.length ≤ 2000) :
    ∃ B ok E, Answers b ⟨l.toArray⟩ B ok E ∧ (ok = false → E = 0) ∧ (¬ (ok = true ∧ E = 0) → B = b) ∧ Took b B 2 ∧ (B.marks.length ≤ b.marks.length + 1 ∧ b.marks.length ≤ B.marks.length + 2) ∧ Few 5000 B := by
  cases hw : wdF (l.map scU) with
  | none => exact ⟨b, false, 0, answers_no hs (hF.mono (by omega)) l hl hw, fun _ => rfl, fun _ => rfl, ⟨hs, flGrow.refl _ _, id⟩, ⟨by omega, by omega⟩, hF.mono (by omega)⟩
  | some d =>
    have ht := wd_took' hs d
    refine ⟨wdN b d, true, wdE b d, answers_wd hs (hF.mono (by omega)) l hl d hw, (fun h => by cases h), fun h => by unfold wdN; rw [if_neg (fun h2 => h ⟨rfl, h2⟩)], ht, ?_, ?_⟩
    · unfold wdN
      split
      · exact wd_marks b d (by assumption)
      · omega
    · have h1 := ht.grow.len
      obtain ⟨f1, f2, f3⟩ := hF
      refine ⟨by omega, ?_, ?_⟩
      · unfold wdN
        split
        · have := wd_marks b d (by assumption); omega
        · omega
      · unfold wdN
        split
        · have := wd_outs b d; omega
        · omega
theorem size_lit (l : List UInt8) : (⟨l.toArray⟩ : ByteArray).size = l.length := by simp [ByteArray.size]
end Go.Proofs.Ytkcpmjccggfpiaa
