/-
  What Word answers at any text, with bounds; what a literal that is emitted leaves.
-/
import Derived.Test.YtkcpmjccggfpiaaFlowWw
import Derived.Test.YtkcpmjccggfpiaaFlowRowsWalk
namespace Go.Proofs.Ytkcpmjccggfpiaa
open Go.RowKit

theorem ww_more {N : Nat} {b : Bd} (hs : flSane b = true) (hF : Few N b) (hN : N ≤ 3000) (l : List UInt8) (hl : l.length ≤ 2000) :
    ∃ B ok E, Answers b ⟨l.toArray⟩ B ok E ∧ (ok = false → E = 0) ∧ (¬ (ok = true ∧ E = 0) → B = b) ∧ Took b B 2 ∧ Few (N + 2) B := by
  cases hw : wdF (l.map scU) with
  | none => exact ⟨b, false, 0, answers_no hs (hF.mono (by omega)) l hl hw, fun _ => rfl, fun _ => rfl, ⟨hs, flGrow.refl _ _, id⟩, hF.mono (by omega)⟩
  | some d =>
    have ht := wd_took' hs d
    refine ⟨wdN b d, true, wdE b d, answers_wd hs (hF.mono (by omega)) l hl d hw, (fun h => by cases h), fun h => by unfold wdN; rw [if_neg (fun h2 => h ⟨rfl, h2⟩)], ht, ?_⟩
    have h1 := ht.grow.len
    obtain ⟨f1, f2, f3⟩ := hF
    refine ⟨by omega, ?_, ?_⟩
    · unfold wdN
      split
      · have := wd_marks b d (by assumption); omega
      · omega
    · unfold wdN
      split
      · have := wd_outs b d; omega
      · omega
theorem lit_took {b : Bd} (h : flSane b = true) (a : Int) : Took b (layB b [(0, a)]) 2 :=
  ⟨sane_lay h _, grow_mono (grow_lay b [(0, a)]) (by simp), fun hi => inv_lay hi _ (fun i hi => by rw [List.mem_singleton.1 hi]; unfold flLed flLeads; simp)⟩
theorem lit_few {N : Nat} {b : Bd} (h : Few N b) (a : Int) : Few (N + 2) (layB b [(0, a)]) := h.lay (by simp)
theorem lit_any {b : Bd} (hs : flSane b = true) (hF : Few 3000 b) (a : Int) (A B C : Option Addr) (n c m d k f : Nat) (w : World) (Y : Option Addr) (q : Nat) (h : Bl w A n c B m d C k f b) (hx : Prs w Y 1 q [(0, a)]) :
    Calls Try.prog 11 #[.agg #[.slice A n c, .slice B m d, .slice C k f], .slice Y 1 q] w (BtPost w (layB b [(0, a)]) 0) := by
  have h2 := emit_any A B C n c m d k f b Y 1 q [(0, a)] w (hF.mono (by omega)) (by omega) h hx
  rw [snd_of hs, show ([(0, a)] : List (Int × Int)).length = 1 from rfl, layE_of (by have := hF.1; omega)] at h2
  exact h2
theorem fin_no {b : Bd} (h : 0 < b.marks.length) : finE b = -22 ∧ finL b = [] := by
  have e : finE b = -22 := by unfold finE; rw [if_pos h]
  exact ⟨e, by unfold finL; rw [e]; rfl⟩
theorem fin_yes {b : Bd} (hF : b.code.length ≤ 3000) (h : ¬ 0 < b.marks.length) : finE b = 0 := by
  unfold finE
  rw [if_neg h, layE_of (by omega)]
end Go.Proofs.Ytkcpmjccggfpiaa
