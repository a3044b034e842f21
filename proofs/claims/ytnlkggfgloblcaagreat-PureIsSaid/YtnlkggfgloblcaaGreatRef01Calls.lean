/-
  What each call of the document's own answers for layer 1 gives: the same as the calls of package cell. The world is as it was, but for draws and new blocks.
-/
import Derived.Test.YtnlkggfgloblcaaGreatCellCalls
import Derived.Test.YtnlkggfgloblcaaGreatRef01Math
import Derived.Lib.Hide
namespace Go.Proofs.YtnlkggfgloblcaaGreat
open Go.RowKit

set_option maxHeartbeats 400000 in
theorem bit_any (a i : Int) (w : World) :
    Calls Tryz.prog 144 #[.int .i64 a, .int .i64 i] w fun e w' => e = .returned (.int .i64 (bitZ a i)) ∧ w = w' := by
  by_cases h0 : i < 0
  · go_enter Tryz.func144, Tryz.ntmps144
    go_wp2
    go_ret
    exact ⟨ret_int (bitZ_out (.inl h0)).symm, rfl⟩
  · by_cases h1 : 63 < i
    · go_enter Tryz.func144, Tryz.ntmps144
      go_wp2
      go_ret
      exact ⟨ret_int (bitZ_out (.inr h1)).symm, rfl⟩
    · have e := bitZ_walk (a := a) (i := i) (by omega) (by omega)
      have E := Lib.hid e
      clear e
      go_enter Tryz.func144, Tryz.ntmps144
      go_wp2
      go_ret
      exact ⟨ret_int E.out, rfl⟩
set_option maxHeartbeats 400000 in
theorem rflag_any (ok : Bool) (w : World) :
    Calls Tryz.prog 115 #[.bool ok] w fun e w' => e = .returned (.int .i64 (if ok then -1 else 0)) ∧ w = w' := by
  cases ok
  all_goals
    go_enter Tryz.func115, Tryz.ntmps115
    go_wp2
    go_ret
    exact ⟨rfl, rfl⟩
set_option maxHeartbeats 400000 in
theorem wrong_any (a b : Int) (w : World) :
    Calls Tryz.prog 156 #[.int .i64 a, .int .i64 b] w fun e w' => e = .returned (.int .i64 (cBad a b)) ∧ w = w' := by
  rcases bad_sym a b with h | ⟨h, h0⟩ | ⟨h, h0, h1⟩
  · obtain ⟨h0, h1⟩ := bad_ok h
    have HB := Lib.hid h
    clear h
    by_cases hb : b = -1
    · subst hb
      have ha : (a == -9223372036854775808) = false := by simpa using h1
      clear h0 h1
      go_enter Tryz.func156, Tryz.ntmps156
      go_wp2
      go_ret
      exact ⟨ret_int HB.out.symm, rfl⟩
    · have h2 : (b == 0) = false := by simpa using h0
      have h3 : (b == -1) = false := by simpa using hb
      clear h0 h1 hb
      go_enter Tryz.func156, Tryz.ntmps156
      go_wp2
      go_ret
      exact ⟨ret_int HB.out.symm, rfl⟩
  · subst h0
    have HB := Lib.hid h
    clear h
    go_enter Tryz.func156, Tryz.ntmps156
    go_wp2
    go_ret
    exact ⟨ret_int HB.out.symm, rfl⟩
  · subst h0 h1
    have HB := Lib.hid h
    clear h
    go_enter Tryz.func156, Tryz.ntmps156
    go_wp2
    go_ret
    exact ⟨ret_int HB.out.symm, rfl⟩
set_option maxHeartbeats 400000 in
theorem rsymm_bad (a b : Int) (w : World) (h : (cBad a b != 0) = true) :
    Calls Tryz.prog 143 #[.int .i64 a, .int .i64 b] w fun e w' => e = .returned (.tuple #[.int .i64 0, .int .i64 0, .int .i64 (cBad a b)]) ∧ w = w' := by
  go_enter Tryz.func143, Tryz.ntmps143
  go_wp2_with (go_at_call 156; refine (wrong_any _ _ _).mono ?_; rintro e w' ⟨rfl, rfl⟩)
  go_ret3
  exact ⟨rfl, rfl⟩
set_option maxHeartbeats 400000 in
theorem rsymm_ok (a b : Int) (w : World) (h : (cBad a b != 0) = false) (hb : ¬ b = 0) :
    Calls Tryz.prog 143 #[.int .i64 a, .int .i64 b] w fun e w' => e = .returned (.tuple #[.int .i64 (wrap64 (a.tdiv b)), .int .i64 (a.tmod b), .int .i64 0]) ∧ ∃ n, w.drewN n = w' := by
  go_enter Tryz.func143, Tryz.ntmps143
  go_wp2_with (go_at_call 156; refine (wrong_any _ _ _).mono ?_; rintro e w' ⟨rfl, rfl⟩)
  go_quiet (fail)
  go_wp2
  go_ret3
  exact ⟨rfl, _, rfl⟩
theorem rsymm_any (a b : Int) (ha : InC a) (w : World) :
    Calls Tryz.prog 143 #[.int .i64 a, .int .i64 b] w fun e w' => e = .returned (.tuple #[.int .i64 (cQ a b), .int .i64 (cR a b), .int .i64 (cBad a b)]) ∧ ∃ n, w.drewN n = w' := by
  by_cases h : cBad a b = 0
  · have hb : ¬ b = 0 := by intro h0; simp [cBad, h0] at h
    have h1 : wrap64 (a.tdiv b) = cQ a b := by rw [cQ_ok h]; exact wrap64_id (tdiv_in ha h)
    have h2 : a.tmod b = cR a b := (cR_ok h).symm
    refine (rsymm_ok a b w (by simp [h]) hb).mono ?_
    rintro e w' ⟨rfl, hw⟩
    exact ⟨by rw [h1, h2, h], hw⟩
  · refine (rsymm_bad a b w (by simp [h])).mono ?_
    rintro e w' ⟨rfl, rfl⟩
    exact ⟨by simp [cQ, cR, h], 0, rfl⟩
set_option maxHeartbeats 400000 in
theorem rfloor_any (a b : Int) (ha : InC a) (w : World) :
    Calls Tryz.prog 114 #[.int .i64 a, .int .i64 b] w fun e w' => e = .returned (.tuple #[.int .i64 (cFq a b), .int .i64 (cFr a b), .int .i64 (cBad a b)]) ∧ ∃ n, w.drewN n = w' := by
  have hz : cBad a b = 0 ∨ cR a b = 0 := by
    by_cases h : cBad a b = 0
    · exact .inl h
    · exact .inr (QR_bad h).2.1
  have HZ := Lib.hid hz
  clear hz
  go_enter Tryz.func114, Tryz.ntmps114
  go_wp2_with (go_at_call 143; refine (rsymm_any _ _ ha _).mono ?_; rintro e w' ⟨rfl, n, rfl⟩)
  all_goals
    have hz := HZ.out
    go_ret3
    exact ⟨ret_int3 (by simp_all [cFq, cUp]) (by simp_all [cFr, cUp]) (by first | rfl | simp_all), _, rfl⟩
set_option maxHeartbeats 400000 in
theorem rult_any (a b : Int) (w : World) :
    Calls Tryz.prog 119 #[.int .i64 a, .int .i64 b] w fun e w' => e = .returned (.bool (cUlt a b)) ∧ w = w' := by
  go_enter Tryz.func119, Tryz.ntmps119
  go_wp2
  go_loop [5] (fun i => ∃ k : Int, -1 ≤ k ∧ k ≤ 63 ∧ i = .int .i64 k ∧ Hid (a % 18446744073709551616 / 2 ^ (k + 1).toNat = b % 18446744073709551616 / 2 ^ (k + 1).toNat)) (fun i => (intOf i + 1).toNat)
  case atStart => exact ⟨63, by omega, by omega, rfl, by rw [show ((63 : Int) + 1).toNat = 64 from rfl]; show _ = _; omega⟩
  case round =>
    obtain ⟨k, hk0, hk1, rfl, HE⟩ := hrel
    by_cases h0 : k < 0
    · obtain rfl : k = -1 := by omega
      have hu := ult_end HE.out
      go_wp2
      go_ret
      exact ⟨rfl, rfl⟩
    · cases hd : (bitZ a k != bitZ b k)
      · have HN := Lib.hid (ult_on (by omega) hk1 HE.out hd)
        go_wp2_with (go_at_call 144; refine (bit_any _ _ _).mono ?_; rintro e w' ⟨rfl, rfl⟩)
        go_round
        case rel => exact ⟨k - 1, by omega, by omega, by go_num, HN⟩
        case measure => simp [intOf]; omega
      · have HU := Lib.hid (ult_at (by omega) hk1 HE.out hd)
        go_wp2_with (go_at_call 144; refine (bit_any _ _ _).mono ?_; rintro e w' ⟨rfl, rfl⟩)
        go_ret
        exact ⟨by rw [← HU.out]; rfl, rfl⟩
set_option maxHeartbeats 400000 in
theorem rwithin_any (n lo hi : Int) (w : World) :
    Calls Tryz.prog 121 #[.int .i64 n, .int .i64 lo, .int .i64 hi] w fun e w' => e = .returned (.bool (cIn n lo hi)) ∧ w = w' := by
  go_enter Tryz.func121, Tryz.ntmps121
  go_wp2_with (go_at_call 119; refine (rult_any _ _ _).mono ?_; rintro e w' ⟨rfl, rfl⟩)
  go_ret
  exact ⟨rfl, rfl⟩
set_option maxHeartbeats 400000 in
theorem raligned_any (n : Int) (hn : InC n) (w : World) :
    Calls Tryz.prog 116 #[.int .i64 n] w fun e w' => e = .returned (.int .i64 (cAl n)) ∧ w = w' := by
  have hn0 := wrap64_id hn
  have H0 := Lib.hid hn0
  clear hn0 hn
  go_enter Tryz.func116, Tryz.ntmps116
  go_wp2
  go_loop [0, 3] (fun x i => ∃ (k : Nat) (m : Int), Hid ((k : Int) ≤ (-n) % 8 ∧ m = wrap64 (n + k)) ∧ k < 8 ∧ i = .int .i64 k ∧ x = .int .i64 m) (fun _ i => (8 - intOf i).toNat)
  case atStart => exact ⟨0, n, ⟨by omega, by simpa using H0.out.symm⟩, by omega, rfl, rfl⟩
  case round =>
    obtain ⟨k, m, HK, hk, rfl, rfl⟩ := hrel
    by_cases h8 : m % 8 = 0
    · obtain ⟨b0, b1, b2⟩ := (al_bits m).2 h8
      have HE : Hid (m = cAl n) := by
        obtain ⟨h1, h2⟩ := HK
        rw [h2]; exact al_end n k h1 (by rw [← h2]; exact h8)
      clear h8
      go_wp2_with (go_at_call 144; refine (bit_any _ _ _).mono ?_; rintro e w' ⟨rfl, rfl⟩)
      go_ret
      exact ⟨ret_int HE.out, rfl⟩
    · have HN : Hid (((k + 1 : Nat) : Int) ≤ (-n) % 8 ∧ wrap64 (m + 1) = wrap64 (n + (k + 1 : Nat))) := by
        obtain ⟨h1, h2⟩ := HK
        refine ⟨al_on n k h1 (by rw [← h2]; exact h8), ?_⟩
        rw [h2]; unfold wrap64; omega
      have hk' : k + 1 < 8 := by have := HN.out.1; omega
      have hb : ¬ (bitZ m 0 = 0 ∧ bitZ m 1 = 0 ∧ bitZ m 2 = 0) := fun h => h8 ((al_bits m).1 h)
      clear h8
      have hc : (bitZ m 0 == 0) = false ∨ ((bitZ m 0 == 0) = true ∧ (bitZ m 1 == 0) = false) ∨ ((bitZ m 0 == 0) = true ∧ (bitZ m 1 == 0) = true ∧ (bitZ m 2 == 0) = false) := by
        by_cases c0 : bitZ m 0 = 0 <;> by_cases c1 : bitZ m 1 = 0 <;> by_cases c2 : bitZ m 2 = 0 <;> simp_all
      clear hb
      rcases hc with c0 | ⟨c0, c1⟩ | ⟨c0, c1, c2⟩
      all_goals
        go_wp2_with (go_at_call 144; refine (bit_any _ _ _).mono ?_; rintro e w' ⟨rfl, rfl⟩)
        go_round
        case rel => exact ⟨k + 1, _, HN, by omega, by go_num, by go_num⟩
        case measure => simp [intOf]; omega
end Go.Proofs.YtnlkggfgloblcaaGreat
