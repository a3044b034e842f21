/-
  What the document's own Deep answers.
-/
import Derived.Test.YtkcpmjccggfpiaaFlowOurs
namespace Go.Proofs.Ytkcpmjccggfpiaa
open Go.RowKit

theorem deep_next (l : List (Int × Int)) (j : Nat) (hj : j < l.length) : flDeep (l.take (j + 1)) = flDeep (l.take j) + if (l.getD j (0, 0)).1 == 3 then 1 else 0 := by
  rw [take_next l j hj, flDeep_snoc]
set_option maxHeartbeats 400000 in
theorem rdeep_any (A B C : Option Addr) (n c m d k f : Nat) (l : List (Int × Int)) (w : World) (hm : m ≤ 100000) (h : Prs w B m d l) :
    Calls Try.prog 25 #[.agg #[.slice A n c, .slice B m d, .slice C k f]] w fun e w' => e = .returned (.int .i64 (flDeep l : Nat)) ∧ Below w.heap.size w w' := by
  have H := Lib.hid (h.alloc (.cells #[.slice A n c, .slice B m d, .slice C k f] 25))
  have HL := Lib.hid h.len
  have X := Lib.hid (Bx.new w 25 (.slice A n c) (.slice B m d) (.slice C k f))
  have HB := Lib.hid (below_one w (.cells #[.slice A n c, .slice B m d, .slice C k f] 25))
  clear h
  go_enter Try.func25, Try.ntmps25
  go_upto_region 1 with (fail)
  generalize w.alloc (.cells #[.slice A n c, .slice B m d, .slice C k f] 25) = w1 at *
  have x1 := X.out.c1
  go_wp2
  go_loop [3, 4] (fun t i => ∃ j : Nat, j ≤ m ∧ i = .int .i64 j ∧ t = .int .i64 (flDeep (l.take j) : Nat)) (fun _ i => ((m : Int) - intOf i).toNat)
  case atStart => exact ⟨0, by omega, rfl, rfl⟩
  case round =>
    obtain ⟨j, hj, rfl, rfl⟩ := hrel
    have hdl : flDeep (l.take j) ≤ 100000 := by have := flDeep_le (l.take j); have h2 := List.length_take_le j l; omega
    by_cases hlt : j < m
    · have hjl : j < l.length := by rw [HL.out]; exact hlt
      obtain ⟨b, o, rfl, hbl, c0, c1⟩ := H.out.at_ j hlt
      have HX := Lib.hid (deep_next l j hjl)
      generalize (l.getD j (0, 0)).1 = x at *
      generalize (l.getD j (0, 0)).2 = y at *
      generalize flDeep (l.take j) = D at *
      cases h3 : (x == 3)
      · rw [h3] at HX
        go_wp2
        go_round
        case rel => exact ⟨j + 1, by omega, by go_num, by rw [HX.out]; simp⟩
        case measure => simp [intOf]; omega
      · rw [h3] at HX
        go_wp2
        go_round
        case rel => exact ⟨j + 1, by omega, by go_num, by rw [HX.out]; go_num⟩
        case measure => simp [intOf]; omega
    · obtain rfl : j = m := by omega
      go_wp2
      go_ret
      exact ⟨by rw [List.take_of_length_le (by have := HL.out; omega)]; rfl, HB.out⟩
end Go.Proofs.Ytkcpmjccggfpiaa
