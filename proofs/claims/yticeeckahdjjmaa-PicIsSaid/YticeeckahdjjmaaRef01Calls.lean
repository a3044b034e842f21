/-
  What each call of the document's own answers for layer 1 gives: the same as the calls of package cell. The world is as it was, but for draws and new blocks.
-/
import Derived.Test.YticeeckahdjjmaaCellCalls
import Derived.Test.YticeeckahdjjmaaRef01Math
import Derived.Lib.Hide
namespace Go.Proofs.Yticeeckahdjjmaa
open Go.RowKit

set_option maxHeartbeats 400000 in
theorem bit_any (a i : Int) (w : World) :
    Calls Try.prog 76 #[.int .i64 a, .int .i64 i] w fun e w' => e = .returned (.int .i64 (bitZ a i)) ∧ w = w' := by
  by_cases h0 : i < 0
  · go_enter Try.func76, Try.ntmps76
    go_wp2
    go_ret
    exact ⟨ret_int (bitZ_out (.inl h0)).symm, rfl⟩
  · by_cases h1 : 63 < i
    · go_enter Try.func76, Try.ntmps76
      go_wp2
      go_ret
      exact ⟨ret_int (bitZ_out (.inr h1)).symm, rfl⟩
    · have e := bitZ_walk (a := a) (i := i) (by omega) (by omega)
      have E := Lib.hid e
      clear e
      go_enter Try.func76, Try.ntmps76
      go_wp2
      go_ret
      exact ⟨ret_int E.out, rfl⟩
set_option maxHeartbeats 400000 in
theorem rult_any (a b : Int) (w : World) :
    Calls Try.prog 77 #[.int .i64 a, .int .i64 b] w fun e w' => e = .returned (.bool (cUlt a b)) ∧ w = w' := by
  go_enter Try.func77, Try.ntmps77
  go_wp2
  go_loop [5] (fun i => ∃ k : Int, -1 ≤ k ∧ k ≤ 63 ∧ i = .int .i64 k ∧ Hid (a % 18446744073709551616 / 2 ^ (k + 1).toNat = b % 18446744073709551616 / 2 ^ (k + 1).toNat)) (fun i => (intOf i + 1).toNat)
  case atStart => exact ⟨63, by omega, by omega, rfl, by rw [show ((63 : Int) + 1).toNat = 64 from rfl]; show _ = _; omega⟩
  case round =>
    obtain ⟨k, hk0, hk1, rfl, HE⟩ := hrel
    by_cases h0 : k < 0
    · obtain rfl : k = -1 := by omega
      have hu := ult_end HE.out
      go_wp2
      go_ret
      exact ⟨rfl, rfl⟩
    · cases hd : (bitZ a k != bitZ b k)
      · have HN := Lib.hid (ult_on (by omega) hk1 HE.out hd)
        go_wp2_with (go_at_call 76; refine (bit_any _ _ _).mono ?_; rintro e w' ⟨rfl, rfl⟩)
        go_round
        case rel => exact ⟨k - 1, by omega, by omega, by go_num, HN⟩
        case measure => simp [intOf]; omega
      · have HU := Lib.hid (ult_at (by omega) hk1 HE.out hd)
        go_wp2_with (go_at_call 76; refine (bit_any _ _ _).mono ?_; rintro e w' ⟨rfl, rfl⟩)
        go_ret
        exact ⟨by rw [← HU.out]; rfl, rfl⟩
end Go.Proofs.Yticeeckahdjjmaa
