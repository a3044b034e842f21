/-
  Whether lists of numbers are the same (tenterhookref04.Same): true of the same list.
-/
import Derived.Test.YtpkfmbknbdlnpaaStkLib
import Derived.Deep.QuietTactic
import Derived.BigQuiet
namespace Go.Proofs.Ytpkfmbknbdlnpaa
open Go.RowKit

set_option maxHeartbeats 1000000 in
/-- Lists that are the same. -/
theorem same4_any (A B : Option Addr) (n c m d : Nat) (l : List Int) (w : World) (hn : n ≤ 10000) (h1 : Stk w A n c l) (h2 : Stk w B m d l) :
    Calls Try.prog 19 #[.slice A n c, .slice B m d] w fun e w' => e = .returned (.bool true) ∧ Below w.heap.size w w' := by
  obtain rfl : n = m := h1.len.symm.trans h2.len
  have H1 := Lib.hid h1
  have H2 := Lib.hid h2
  clear h1 h2
  go_enter Try.func19, Try.ntmps19
  go_wp2
  go_loopw [5] (fun i wr => ∃ k j : Nat, k ≤ n ∧ i = .int .i64 k ∧ wr = w.drewN j) (fun i _ => ((n : Int) - intOf i).toNat)
  case atStart => exact ⟨0, 0, by omega, rfl, rfl⟩
  case round =>
    obtain ⟨k, j, hk, rfl, rfl⟩ := hrel
    by_cases h8 : k < n
    · obtain ⟨b1, o1, rfl, _, hc1⟩ := H1.out.at_ k h8
      obtain ⟨b2, o2, rfl, _, hc2⟩ := H2.out.at_ k h8
      have hk0 : (0 : Int) ≤ (k : Int) := by omega
      have hkn : (k : Int) < (n : Int) := by omega
      generalize l.getD k 0 = V at *
      have hV : (V != V) = false := by simp
      go_wp2
      go_quiet (fail)
      go_wp2
      go_roundw
      case rel => exact ⟨k + 1, _, by omega, by go_num, rfl⟩
      case measure => simp [intOf]; omega
    · go_wp2
      go_ret
      exact ⟨rfl, below_drewN (Below.refl _ _) j⟩
end Go.Proofs.Ytpkfmbknbdlnpaa
