/-
  What each call of package cell answers (contracts of the translated functions): the answers of CellMath, and a world that is as it was but for draws.
-/
import Derived.Test.YtnlkggfgloblcaaGreatProg
import Derived.Test.YtnlkggfgloblcaaGreatCellMath
import Derived.Deep.QuietTactic
import Derived.BigQuiet
namespace Go.Proofs.YtnlkggfgloblcaaGreat
open Go.RowKit

theorem ret_int {k : IntKind} {a b : Int} (h : a = b) : Ending.returned (.int k a) = .returned (.int k b) := by rw [h]
theorem ret_int3 {k : IntKind} {a b c x y z : Int} (h : a = x) (h' : b = y) (h'' : c = z) : Ending.returned (.tuple #[.int k a, .int k b, .int k c]) = .returned (.tuple #[.int k x, .int k y, .int k z]) := by rw [h, h', h'']

set_option maxHeartbeats 400000 in
theorem aligned_any (a : Int) (w : World) :
    Calls Tryz.prog 113 #[.int .i64 a] w fun e w' => e = .returned (.int .i64 (cAl a)) ∧ w = w' := by
  go_enter Tryz.func113, Tryz.ntmps113
  go_wp2
  go_ret
  exact ⟨rfl, rfl⟩
set_option maxHeartbeats 400000 in
theorem shl_any (a n : Int) (w : World) :
    Calls Tryz.prog 70 #[.int .i64 a, .int .i64 n] w fun e w' => e = .returned (.int .i64 (cShl a n)) ∧ w = w' := by
  go_enter Tryz.func70, Tryz.ntmps70
  go_wp2
  go_ret
  exact ⟨rfl, rfl⟩
set_option maxHeartbeats 400000 in
theorem shr_any (a n : Int) (w : World) :
    Calls Tryz.prog 82 #[.int .i64 a, .int .i64 n] w fun e w' => e = .returned (.int .i64 (cShr a n)) ∧ w = w' := by
  go_enter Tryz.func82, Tryz.ntmps82
  go_wp2
  go_ret
  exact ⟨rfl, rfl⟩
set_option maxHeartbeats 400000 in
theorem ult_any (a b : Int) (w : World) :
    Calls Tryz.prog 89 #[.int .i64 a, .int .i64 b] w fun e w' => e = .returned (.bool (cUlt a b)) ∧ w = w' := by
  go_enter Tryz.func89, Tryz.ntmps89
  go_wp2
  go_ret
  exact ⟨rfl, rfl⟩
set_option maxHeartbeats 400000 in
theorem within_any (n lo hi : Int) (w : World) :
    Calls Tryz.prog 93 #[.int .i64 n, .int .i64 lo, .int .i64 hi] w fun e w' => e = .returned (.bool (cIn n lo hi)) ∧ w = w' := by
  go_enter Tryz.func93, Tryz.ntmps93
  go_wp2
  go_ret
  exact ⟨rfl, rfl⟩

/-! ### which of two -/
set_option maxHeartbeats 400000 in
theorem which_int (ok : Bool) (x y : Int) (w : World) :
    Calls Tryz.prog 152 #[.bool ok, .int .i64 x, .int .i64 y] w fun e w' => e = .returned (.int .i64 (if ok then x else y)) ∧ w = w' := by
  cases ok
  all_goals
    go_enter Tryz.func152, Tryz.ntmps152
    go_wp2
    go_ret
    exact ⟨rfl, rfl⟩
set_option maxHeartbeats 400000 in
theorem which_throw (ok : Bool) (x y : Int) (w : World) :
    Calls Tryz.prog 159 #[.bool ok, .int .i64 x, .int .i64 y] w fun e w' => e = .returned (.int .i64 (if ok then x else y)) ∧ w = w' := by
  cases ok
  all_goals
    go_enter Tryz.func159, Tryz.ntmps159
    go_wp2
    go_ret
    exact ⟨rfl, rfl⟩
set_option maxHeartbeats 400000 in
theorem flag_any (ok : Bool) (w : World) :
    Calls Tryz.prog 138 #[.bool ok] w fun e w' => e = .returned (.int .i64 (if ok then -1 else 0)) ∧ w = w' := by
  go_enter Tryz.func138, Tryz.ntmps138
  go_wp2_with (go_at_call 152; refine (which_int _ _ _ _).mono ?_; rintro e w' ⟨rfl, rfl⟩)
  all_goals
    go_ret
    exact ⟨rfl, rfl⟩

/-! ### divisions -/
set_option maxHeartbeats 400000 in
theorem fault_any (a b : Int) (w : World) :
    Calls Tryz.prog 158 #[.int .i64 a, .int .i64 b] w fun e w' => e = .returned (.int .i64 (cBad a b)) ∧ w = w' := by
  go_enter Tryz.func158, Tryz.ntmps158
  go_wp2_with (go_at_call 159; refine (which_throw _ _ _ _).mono ?_; rintro e w' ⟨rfl, rfl⟩)
  all_goals
    go_ret
    refine ⟨ret_int ?_, rfl⟩
    unfold cBad
    simp [*]
set_option maxHeartbeats 400000 in
theorem symm_bad (a b : Int) (w : World) (h : (cBad a b != 0) = true) :
    Calls Tryz.prog 151 #[.int .i64 a, .int .i64 b] w fun e w' => e = .returned (.tuple #[.int .i64 0, .int .i64 0, .int .i64 (cBad a b)]) ∧ w = w' := by
  go_enter Tryz.func151, Tryz.ntmps151
  go_wp2_with (go_at_call 158; refine (fault_any _ _ _).mono ?_; rintro e w' ⟨rfl, rfl⟩)
  go_ret3
  exact ⟨rfl, rfl⟩
set_option maxHeartbeats 400000 in
theorem symm_ok (a b : Int) (w : World) (h : (cBad a b != 0) = false) (hb : ¬ b = 0) :
    Calls Tryz.prog 151 #[.int .i64 a, .int .i64 b] w fun e w' => e = .returned (.tuple #[.int .i64 (wrap64 (a.tdiv b)), .int .i64 (a.tmod b), .int .i64 0]) ∧ ∃ n, w.drewN n = w' := by
  go_enter Tryz.func151, Tryz.ntmps151
  go_wp2_with (go_at_call 158; refine (fault_any _ _ _).mono ?_; rintro e w' ⟨rfl, rfl⟩)
  go_quiet (fail)
  go_wp2
  go_ret3
  exact ⟨rfl, _, rfl⟩
theorem symm_any (a b : Int) (ha : InC a) (w : World) :
    Calls Tryz.prog 151 #[.int .i64 a, .int .i64 b] w fun e w' => e = .returned (.tuple #[.int .i64 (cQ a b), .int .i64 (cR a b), .int .i64 (cBad a b)]) ∧ ∃ n, w.drewN n = w' := by
  by_cases h : cBad a b = 0
  · have hb : ¬ b = 0 := by intro h0; simp [cBad, h0] at h
    have h1 : wrap64 (a.tdiv b) = cQ a b := by rw [cQ_ok h]; exact wrap64_id (tdiv_in ha h)
    have h2 : a.tmod b = cR a b := (cR_ok h).symm
    refine (symm_ok a b w (by simp [h]) hb).mono ?_
    rintro e w' ⟨rfl, hw⟩
    exact ⟨by rw [h1, h2, h], hw⟩
  · refine (symm_bad a b w (by simp [h])).mono ?_
    rintro e w' ⟨rfl, rfl⟩
    exact ⟨by simp [cQ, cR, h], 0, rfl⟩
set_option maxHeartbeats 400000 in
theorem floor_any (a b : Int) (ha : InC a) (w : World) :
    Calls Tryz.prog 135 #[.int .i64 a, .int .i64 b] w fun e w' => e = .returned (.tuple #[.int .i64 (cFq a b), .int .i64 (cFr a b), .int .i64 (cBad a b)]) ∧ ∃ n, w.drewN n = w' := by
  go_enter Tryz.func135, Tryz.ntmps135
  go_wp2_with (first | (go_at_call 151; refine (symm_any _ _ ha _).mono ?_; rintro e w' ⟨rfl, n, rfl⟩) | (go_at_call 152; refine (which_int _ _ _ _).mono ?_; rintro e w' ⟨rfl, rfl⟩))
  all_goals
    go_ret3
    exact ⟨ret_int3 (by simp [cFq, cUp, *]) (by simp [cFr, cUp, *]) rfl, _, rfl⟩
end Go.Proofs.YtnlkggfgloblcaaGreat
