/-
  What each call of package cell answers (contracts of the translated functions): the answers of CellMath, and a world that is as it was but for draws.
-/
import Derived.Test.YtkdpefkllchadaaProg
import Derived.Test.YtkdpefkllchadaaCellMath
import Derived.Deep.QuietTactic
import Derived.BigQuiet
namespace Go.Proofs.Ytkdpefkllchadaa
open Go.RowKit

theorem ret_int {k : IntKind} {a b : Int} (h : a = b) : Ending.returned (.int k a) = .returned (.int k b) := by rw [h]
theorem ret_int3 {k : IntKind} {a b c x y z : Int} (h : a = x) (h' : b = y) (h'' : c = z) : Ending.returned (.tuple #[.int k a, .int k b, .int k c]) = .returned (.tuple #[.int k x, .int k y, .int k z]) := by rw [h, h', h'']

set_option maxHeartbeats 400000 in
theorem aligned_any (a : Int) (w : World) :
    Calls Try.prog 25 #[.int .i64 a] w fun e w' => e = .returned (.int .i64 (cAl a)) ∧ w = w' := by
  go_enter Try.func25, Try.ntmps25
  go_wp2
  go_ret
  exact ⟨rfl, rfl⟩
set_option maxHeartbeats 400000 in
theorem shl_any (a n : Int) (w : World) :
    Calls Try.prog 26 #[.int .i64 a, .int .i64 n] w fun e w' => e = .returned (.int .i64 (cShl a n)) ∧ w = w' := by
  go_enter Try.func26, Try.ntmps26
  go_wp2
  go_ret
  exact ⟨rfl, rfl⟩
set_option maxHeartbeats 400000 in
theorem shr_any (a n : Int) (w : World) :
    Calls Try.prog 28 #[.int .i64 a, .int .i64 n] w fun e w' => e = .returned (.int .i64 (cShr a n)) ∧ w = w' := by
  go_enter Try.func28, Try.ntmps28
  go_wp2
  go_ret
  exact ⟨rfl, rfl⟩
/-! ### which of two -/
set_option maxHeartbeats 400000 in
theorem which_int (ok : Bool) (x y : Int) (w : World) :
    Calls Try.prog 27 #[.bool ok, .int .i64 x, .int .i64 y] w fun e w' => e = .returned (.int .i64 (if ok then x else y)) ∧ w = w' := by
  cases ok
  all_goals
    go_enter Try.func27, Try.ntmps27
    go_wp2
    go_ret
    exact ⟨rfl, rfl⟩
set_option maxHeartbeats 400000 in
theorem flag_any (ok : Bool) (w : World) :
    Calls Try.prog 23 #[.bool ok] w fun e w' => e = .returned (.int .i64 (if ok then -1 else 0)) ∧ w = w' := by
  go_enter Try.func23, Try.ntmps23
  go_wp2_with (go_at_call 27; refine (which_int _ _ _ _).mono ?_; rintro e w' ⟨rfl, rfl⟩)
  all_goals
    go_ret
    exact ⟨rfl, rfl⟩

/-! ### divisions -/
end Go.Proofs.Ytkdpefkllchadaa
