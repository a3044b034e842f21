/-
  What each call of package cell answers (contracts of the translated functions): the answers of CellMath, and a world that is as it was but for draws.
-/
import Derived.Test.YtkehlaphiillpaaProg
import Derived.Test.YtkehlaphiillpaaCellMath
import Derived.Deep.QuietTactic
import Derived.BigQuiet
namespace Go.Proofs.Ytkehlaphiillpaa
open Go.RowKit

theorem ret_int {k : IntKind} {a b : Int} (h : a = b) : Ending.returned (.int k a) = .returned (.int k b) := by rw [h]
theorem ret_int3 {k : IntKind} {a b c x y z : Int} (h : a = x) (h' : b = y) (h'' : c = z) : Ending.returned (.tuple #[.int k a, .int k b, .int k c]) = .returned (.tuple #[.int k x, .int k y, .int k z]) := by rw [h, h', h'']

set_option maxHeartbeats 400000 in
theorem aligned_any (a : Int) (w : World) :
    Calls Try.prog 38 #[.int .i64 a] w fun e w' => e = .returned (.int .i64 (cAl a)) ∧ w = w' := by
  go_enter Try.func38, Try.ntmps38
  go_wp2
  go_ret
  exact ⟨rfl, rfl⟩
set_option maxHeartbeats 400000 in
theorem shl_any (a n : Int) (w : World) :
    Calls Try.prog 39 #[.int .i64 a, .int .i64 n] w fun e w' => e = .returned (.int .i64 (cShl a n)) ∧ w = w' := by
  go_enter Try.func39, Try.ntmps39
  go_wp2
  go_ret
  exact ⟨rfl, rfl⟩
set_option maxHeartbeats 400000 in
theorem shr_any (a n : Int) (w : World) :
    Calls Try.prog 41 #[.int .i64 a, .int .i64 n] w fun e w' => e = .returned (.int .i64 (cShr a n)) ∧ w = w' := by
  go_enter Try.func41, Try.ntmps41
  go_wp2
  go_ret
  exact ⟨rfl, rfl⟩
/-! ### which of two -/
/-! ### divisions -/
end Go.Proofs.Ytkehlaphiillpaa
