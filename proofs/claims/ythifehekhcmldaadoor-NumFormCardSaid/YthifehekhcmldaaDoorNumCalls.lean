/-
  What the calls isBase, value, Digit, Sign, quoted, byteBetween and marked of package num answer (contracts of the translated functions).
-/
import Derived.Test.YthifehekhcmldaaDoorNumLib
import Derived.Test.YthifehekhcmldaaDoorStkHeld
import Derived.WalkKit
import Derived.Lib.Hide
import Derived.Deep.QuietTactic
import Derived.BigQuiet
namespace Go.Proofs.YthifehekhcmldaaDoor
open Go.RowKit

theorem isBase_any (b : Int) (w : World) :
    Calls Tryd.prog 25 #[.int .i64 b] w fun e w' => e = .returned (.bool (baB b)) ∧ w = w' := by
  have hb : baB b = (decide (2 ≤ b) && decide (b ≤ 36)) := by unfold baB; rw [Bool.decide_and]
  have HB := Lib.hid hb
  clear hb
  by_cases h1 : 2 ≤ b <;> by_cases h2 : b ≤ 36
  all_goals
    go_enter Tryd.func25, Tryd.ntmps25
    go_wp2
    go_ret
    exact ⟨by rw [HB.out]; simp [h1, h2], rfl⟩

def vlB (c : Int) : Bool := decide (dgV c < 99)
def vlX (c : Int) : Int := if dgV c < 99 then dgV c else 0
theorem ret_ib {a a' : Int} {b b' : Bool} (h : a = a') (k : b = b') : Ending.returned (.tuple #[.int .i64 a, .bool b]) = .returned (.tuple #[.int .i64 a', .bool b']) := by rw [h, k]
theorem value_any (c : Int) (w : World) :
    Calls Tryd.prog 26 #[.int .i64 c] w fun e w' => e = .returned (.tuple #[.int .i64 (vlX c), .bool (vlB c)]) ∧ w = w' := by
  have HV := Lib.hid (show dgV c = if 48 ≤ c ∧ c ≤ 57 then c - 48 else if 65 ≤ c ∧ c ≤ 90 then c - 55 else if 97 ≤ c ∧ c ≤ 122 then c - 87 else 99 from rfl)
  by_cases h1 : 48 ≤ c <;> by_cases h2 : c ≤ 57 <;> by_cases h3 : 65 ≤ c <;> by_cases h4 : c ≤ 90 <;> by_cases h5 : 97 ≤ c <;> by_cases h6 : c ≤ 122
  all_goals first | (exfalso; omega) | skip
  all_goals
    go_enter Tryd.func26, Tryd.ntmps26
    go_wp2
    go_ret2
    exact ⟨ret_ib (by unfold vlX; rw [HV.out]; simp [h1, h2, h3, h4, h5, h6]; try omega) (by unfold vlB; rw [HV.out]; simp [h1, h2, h3, h4, h5, h6]; try omega), rfl⟩

theorem isBase_is (b : Int) (v : Bool) (h : baB b = v) (w : World) :
    Calls Tryd.prog 25 #[.int .i64 b] w fun e w' => e = .returned (.bool v) ∧ w = w' := h ▸ isBase_any b w
theorem value_is (c x : Int) (v : Bool) (h : vlX c = x) (k : vlB c = v) (w : World) :
    Calls Tryd.prog 26 #[.int .i64 c] w fun e w' => e = .returned (.tuple #[.int .i64 x, .bool v]) ∧ w = w' := h ▸ k ▸ value_any c w
theorem dig_no (c b : Int) (h : dgB c b = false) : dgX c b = 0 := by unfold dgX; rw [h]; rfl
theorem dig_yes (c b : Int) (h : dgB c b = true) : dgX c b = dgV c := by unfold dgX; rw [h]; rfl
theorem digit_any (c b : Int) (w : World) :
    Calls Tryd.prog 14 #[.int .i64 c, .int .i64 b] w fun e w' => e = .returned (.tuple #[.int .i64 (dgX c b), .bool (dgB c b)]) ∧ w = w' := by
  obtain ⟨x, hx⟩ : ∃ x, vlX c = x := ⟨_, rfl⟩
  have HX := Lib.hid hx
  cases hv : vlB c with
  | false =>
    have HD : Hid (dgB c b = false) := Lib.hid (by
      unfold vlB at hv
      have := of_decide_eq_false hv
      unfold dgB
      cases hb : baB b
      · rfl
      · have := baB_iff.1 hb; simp; omega)
    have HV := Lib.hid hv
    clear hx hv
    go_enter Tryd.func14, Tryd.ntmps14
    go_wp2_with (go_at_call 26; refine (value_is c x false HX.out HV.out _).mono ?_; rintro e w' ⟨rfl, rfl⟩)
    go_ret2
    exact ⟨ret_ib (dig_no _ _ HD.out).symm HD.out.symm, rfl⟩
  | true =>
    have hx9 : x = dgV c := by
      unfold vlB at hv
      have := of_decide_eq_true hv
      rw [← hx]; unfold vlX; rw [if_pos this]
    have HV := Lib.hid hv
    have H9 := Lib.hid hx9
    clear hx hv
    cases hb : baB b with
    | false =>
      have HB := Lib.hid hb
      have HD : Hid (dgB c b = false) := Lib.hid (by unfold dgB; rw [hb]; rfl)
      clear hb hx9
      go_enter Tryd.func14, Tryd.ntmps14
      go_wp2_with (first
        | (go_at_call 26; refine (value_is c x true HX.out HV.out _).mono ?_; rintro e w' ⟨rfl, rfl⟩)
        | (go_at_call 25; refine (isBase_is b false HB.out _).mono ?_; rintro e w' ⟨rfl, rfl⟩))
      go_ret2
      exact ⟨ret_ib (dig_no _ _ HD.out).symm HD.out.symm, rfl⟩
    | true =>
      have HB := Lib.hid hb
      by_cases hlt : b ≤ x
      · have HD : Hid (dgB c b = false) := Lib.hid (by unfold dgB; rw [hb, ← hx9]; simp; omega)
        clear hb hx9
        go_enter Tryd.func14, Tryd.ntmps14
        go_wp2_with (first
          | (go_at_call 26; refine (value_is c x true HX.out HV.out _).mono ?_; rintro e w' ⟨rfl, rfl⟩)
          | (go_at_call 25; refine (isBase_is b true HB.out _).mono ?_; rintro e w' ⟨rfl, rfl⟩))
        go_ret2
        exact ⟨ret_ib (dig_no _ _ HD.out).symm HD.out.symm, rfl⟩
      · have HD : Hid (dgB c b = true) := Lib.hid (by unfold dgB; rw [hb, ← hx9]; simp; omega)
        clear hb hx9
        go_enter Tryd.func14, Tryd.ntmps14
        go_wp2_with (first
          | (go_at_call 26; refine (value_is c x true HX.out HV.out _).mono ?_; rintro e w' ⟨rfl, rfl⟩)
          | (go_at_call 25; refine (isBase_is b true HB.out _).mono ?_; rintro e w' ⟨rfl, rfl⟩))
        go_ret2
        exact ⟨ret_ib (by rw [dig_yes _ _ HD.out, H9.out]) HD.out.symm, rfl⟩
theorem digit_is (c b x : Int) (v : Bool) (h : dgX c b = x) (k : dgB c b = v) (w : World) :
    Calls Tryd.prog 14 #[.int .i64 c, .int .i64 b] w fun e w' => e = .returned (.tuple #[.int .i64 x, .bool v]) ∧ w = w' := h ▸ k ▸ digit_any c b w

theorem sgn_cut : ∀ v : Fin 36, (⟨#[48, 49, 50, 51, 52, 53, 54, 55, 56, 57, 65, 66, 67, 68, 69, 70, 71, 72, 73, 74, 75, 76, 77, 78, 79, 80, 81, 82, 83, 84, 85, 86, 87, 88, 89, 90]⟩ : ByteArray).extract v.val (v.val + 1) = ⟨#[sgn v.val]⟩ := by decide +kernel
theorem ret_str {s t : ByteArray} (h : s = t) : Ending.returned (.string s) = .returned (.string t) := by rw [h]
theorem sign_any (v : Int) (w : World) :
    Calls Tryd.prog 15 #[.int .i64 v] w fun e w' => e = .returned (.string ⟨(sgL v).toArray⟩) ∧ w = w' := by
  by_cases h0 : v < 0
  · go_enter Tryd.func15, Tryd.ntmps15
    go_wp2
    go_ret
    exact ⟨ret_str (by unfold sgL; rw [if_neg (by omega)]), rfl⟩
  · by_cases h1 : 36 ≤ v
    · go_enter Tryd.func15, Tryd.ntmps15
      go_wp2
      go_ret
      exact ⟨ret_str (by unfold sgL; rw [if_neg (by omega)]), rfl⟩
    · obtain ⟨n, rfl⟩ : ∃ n : Nat, v = n := ⟨v.toNat, by omega⟩
      have hs := sgn_cut ⟨n, by omega⟩
      have HS := Lib.hid hs
      clear hs
      go_enter Tryd.func15, Tryd.ntmps15
      go_wp2
      go_ret
      refine ⟨ret_str ?_, rfl⟩
      unfold sgL; rw [if_pos (by omega)]
      exact HS.out
end Go.Proofs.YthifehekhcmldaaDoor
