/-
  What each call of package cell answers (contracts of the translated functions): the answers of CellMath, and a world that is as it was but for draws.
-/
import Derived.Test.YticeeckahdjjmaaProg
import Derived.Test.YticeeckahdjjmaaCellMath
import Derived.Deep.QuietTactic
import Derived.BigQuiet
namespace Go.Proofs.Yticeeckahdjjmaa
open Go.RowKit

theorem ret_int {k : IntKind} {a b : Int} (h : a = b) : Ending.returned (.int k a) = .returned (.int k b) := by rw [h]
theorem ret_int3 {k : IntKind} {a b c x y z : Int} (h : a = x) (h' : b = y) (h'' : c = z) : Ending.returned (.tuple #[.int k a, .int k b, .int k c]) = .returned (.tuple #[.int k x, .int k y, .int k z]) := by rw [h, h', h'']

set_option maxHeartbeats 400000 in
theorem aligned_any (a : Int) (w : World) :
    Calls Try.prog 54 #[.int .i64 a] w fun e w' => e = .returned (.int .i64 (cAl a)) ∧ w = w' := by
  go_enter Try.func54, Try.ntmps54
  go_wp2
  go_ret
  exact ⟨rfl, rfl⟩
set_option maxHeartbeats 400000 in
theorem shl_any (a n : Int) (w : World) :
    Calls Try.prog 65 #[.int .i64 a, .int .i64 n] w fun e w' => e = .returned (.int .i64 (cShl a n)) ∧ w = w' := by
  go_enter Try.func65, Try.ntmps65
  go_wp2
  go_ret
  exact ⟨rfl, rfl⟩
set_option maxHeartbeats 400000 in
theorem shr_any (a n : Int) (w : World) :
    Calls Try.prog 55 #[.int .i64 a, .int .i64 n] w fun e w' => e = .returned (.int .i64 (cShr a n)) ∧ w = w' := by
  go_enter Try.func55, Try.ntmps55
  go_wp2
  go_ret
  exact ⟨rfl, rfl⟩
set_option maxHeartbeats 400000 in
theorem ult_any (a b : Int) (w : World) :
    Calls Try.prog 63 #[.int .i64 a, .int .i64 b] w fun e w' => e = .returned (.bool (cUlt a b)) ∧ w = w' := by
  go_enter Try.func63, Try.ntmps63
  go_wp2
  go_ret
  exact ⟨rfl, rfl⟩
/-! ### which of two -/
set_option maxHeartbeats 400000 in
theorem which_int (ok : Bool) (x y : Int) (w : World) :
    Calls Try.prog 74 #[.bool ok, .int .i64 x, .int .i64 y] w fun e w' => e = .returned (.int .i64 (if ok then x else y)) ∧ w = w' := by
  cases ok
  all_goals
    go_enter Try.func74, Try.ntmps74
    go_wp2
    go_ret
    exact ⟨rfl, rfl⟩
set_option maxHeartbeats 400000 in
theorem flag_any (ok : Bool) (w : World) :
    Calls Try.prog 62 #[.bool ok] w fun e w' => e = .returned (.int .i64 (if ok then -1 else 0)) ∧ w = w' := by
  go_enter Try.func62, Try.ntmps62
  go_wp2_with (go_at_call 74; refine (which_int _ _ _ _).mono ?_; rintro e w' ⟨rfl, rfl⟩)
  all_goals
    go_ret
    exact ⟨rfl, rfl⟩

/-! ### divisions -/
end Go.Proofs.Yticeeckahdjjmaa
