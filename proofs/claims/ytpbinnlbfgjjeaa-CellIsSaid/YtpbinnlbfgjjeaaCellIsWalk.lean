/-
  The call of the statement CellIs answers true at all cells and either flag; the world has at most new blocks.
-/
import Derived.Test.YtpbinnlbfgjjeaaCellAwake
import Derived.Test.YtpbinnlbfgjjeaaRef01Makes
namespace Go.Proofs.Ytpbinnlbfgjjeaa
open Go.RowKit

set_option maxRecDepth 100000 in
set_option maxHeartbeats 1000000 in
theorem cellIs_walk (a b n : Int) (ok : Bool) (ha : InC a) (_hb : InC b) (hn : InC n) (w : World) :
    Calls Try.prog 3 #[.int .i64 a, .int .i64 b, .int .i64 n, .bool ok] w fun e w' => e = .returned (.bool true) ∧ Grown w w' := by
  cases ok
  all_goals
    go_enter Try.func3, Try.ntmps3
    go_wp2_with (first
      | (go_at_call 10; refine (awake_any _).mono ?_; rintro e w' ⟨rfl, j1, rfl⟩)
      | (go_at_call 11; refine (floor_any _ _ ha _).mono ?_; rintro e w' ⟨rfl, j2, rfl⟩)
      | (go_at_call 13; refine (symm_any _ _ ha _).mono ?_; rintro e w' ⟨rfl, j3, rfl⟩)
      | (go_at_call 12; refine (rfloor_any _ _ ha _).mono ?_; rintro e w' ⟨rfl, j4, rfl⟩)
      | (go_at_call 14; refine (rsymm_any _ _ ha _).mono ?_; rintro e w' ⟨rfl, j5, rfl⟩)
      | (go_at_call 15; refine (flag_any _ _).mono ?_; rintro e w' ⟨rfl, rfl⟩)
      | (go_at_call 16; refine (rflag_any _ _).mono ?_; rintro e w' ⟨rfl, rfl⟩)
      | (go_at_call 17; refine (ult_any _ _ _).mono ?_; rintro e w' ⟨rfl, rfl⟩)
      | (go_at_call 18; refine (rult_any _ _ _).mono ?_; rintro e w' ⟨rfl, rfl⟩)
      | (go_at_call 19; refine (shl_any _ _ _).mono ?_; rintro e w' ⟨rfl, rfl⟩)
      | (go_at_call 21; refine (shr_any _ _ _).mono ?_; rintro e w' ⟨rfl, rfl⟩)
      | (go_at_call 23; refine (within_any _ _ _ _).mono ?_; rintro e w' ⟨rfl, rfl⟩)
      | (go_at_call 24; refine (rwithin_any _ _ _ _).mono ?_; rintro e w' ⟨rfl, rfl⟩)
      | (go_at_call 25; refine (aligned_any _ _).mono ?_; rintro e w' ⟨rfl, rfl⟩)
      | (go_at_call 26; refine (raligned_any _ ha _).mono ?_; rintro e w' ⟨rfl, rfl⟩)
      | (go_at_call 20; refine (rshl_any _ _ hn _).mono ?_; rintro e w1 ⟨rfl, hw1⟩)
      | (go_at_call 22; refine (rshr_any _ _ hn _).mono ?_; rintro e w2 ⟨rfl, hw2⟩))
    go_ret
    exact ⟨rfl, Grown.trans' (Grown.trans' (grown_drewN _ _) hw1) hw2⟩
end Go.Proofs.Ytpbinnlbfgjjeaa
