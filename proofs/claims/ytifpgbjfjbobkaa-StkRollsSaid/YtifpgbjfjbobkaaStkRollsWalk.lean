/-
  The call of the statement StkRolls answers true at every stack and number; of what was there nothing has changed.
-/
import Derived.Test.YtifpgbjfjbobkaaStkMovesWalk
import Derived.IntWalk
namespace Go.Proofs.Ytifpgbjfjbobkaa
open Go.RowKit

/-- A stack whose last cells have gone round so often. -/
def rolled (l : List Int) (p j : Nat) : List Int := l.take p ++ turned (l.drop p) j
theorem rolled_none (l : List Int) (p : Nat) : rolled l p 0 = l := by
  unfold rolled
  rw [turned_none, List.take_append_drop]
theorem rolled_all (l : List Int) (p k : Nat) (h : l.length = p + 1 + k) : rolled l p (k + 1) = l := by
  unfold rolled
  have e : (l.drop p).length = k + 1 := by rw [List.length_drop]; omega
  rw [← e, turned_all, List.take_append_drop]
theorem rolled_length (l : List Int) (p j k : Nat) (h : l.length = p + 1 + k) (hj : j ≤ k + 1) : (rolled l p j).length = p + 1 + k := by
  unfold rolled
  rw [List.length_append, turned_length _ _ (by rw [List.length_drop]; omega), List.length_take, List.length_drop]
  omega
theorem rolled_head (l : List Int) (p j k : Nat) (h : l.length = p + 1 + k) : (rolled l p j).take p = l.take p := by
  unfold rolled
  exact List.take_left' (by rw [List.length_take]; omega)
theorem rolled_next (l : List Int) (p j k : Nat) (h : l.length = p + 1 + k) (hj : j ≤ k) : rollL (rolled l p j) (k : Int) = rolled l p (j + 1) := by
  have e := rolled_length l p j k h (by omega)
  rw [rollL_ok (by rw [e]; exact pickB_nat (by omega)), e, Int.toNat_natCast, show p + 1 + k - 1 - k = p by omega]
  unfold rolled
  have ep : (l.take p).length = p := by rw [List.length_take]; omega
  have h2 := lastly_turned (l.take p) (l.drop p) j (by rw [List.length_drop]; omega)
  rw [ep] at h2
  exact h2
theorem lastly_top (l : List Int) (p : Nat) (h : p < l.length) : (lastly l p).getD (l.length - 1) 0 = l.getD p 0 := by
  unfold lastly
  rw [← List.append_assoc, List.getD_eq_getElem?_getD, List.getElem?_append_right (by simp; omega)]
  have e : l.length - 1 - (l.take p ++ l.drop (p + 1)).length = 0 := by simp; omega
  rw [e]
  rfl
theorem rolls_top (l : List Int) (k : Nat) (h : k < l.length) : pickX (rollL l (k : Int)) 0 = pickX l (k : Int) := by
  rw [pickX_ok (pickB_nat h), pickX_ok (n := 0) (by rw [rollL_length]; exact pickB_nat (k := 0) (by omega)), rollL_length, rollL_ok (pickB_nat h)]
  exact lastly_top l _ (by omega)
theorem pick_ok (A : Option Addr) (n c : Nat) (l : List Int) (k : Nat) (w : World) (hn : n ≤ 10000) (hk : k < n) (h1 : Stk w A n c l) :
    Calls Try.prog 14 #[.slice A n c, .int .i64 (k : Int)] w fun e w' => e = .returned (.tuple #[.int .i64 (pickX l (k : Int)), .int .i64 0]) ∧ w = w' := by
  have P := pick_any A n c l (k : Int) w hn h1
  rw [pickE_ok (by rw [h1.len]; exact pickB_nat hk)] at P
  exact P
theorem pick_top (A : Option Addr) (n c : Nat) (l : List Int) (w : World) (V : Int) (hn : n ≤ 10000) (hk : 0 < n) (h1 : Stk w A n c l) (hv : pickX l 0 = V) :
    Calls Try.prog 14 #[.slice A n c, .int .i64 0] w fun e w' => e = .returned (.tuple #[.int .i64 V, .int .i64 0]) ∧ w = w' := by
  subst hv
  exact pick_ok A n c l 0 w hn hk h1
section
variable (A : Option Addr) (n c : Nat) (l : List Int) (w : World)
set_option maxRecDepth 100000 in
set_option maxHeartbeats 2000000 in
theorem stkRolls_some (q : Int) (h1 : Stk w A n c l) (g1 : n ≤ 100) (h0 : 0 < n) :
    Calls Try.prog 5 #[.slice A n c, .int .i64 q] w fun e w' => e = .returned (.bool true) ∧ Below w.heap.size w w' := by
  have HL := Lib.hid h1.len
  have H1 := Lib.hid h1
  clear h1
  have d1 : decide ((100 : Int) < (n : Int)) = false := decide_eq_false (by omega)
  have d2 : ((n : Int) == 0) = false := by simp; omega
  have d3 : (n : Int) ≠ 0 := by omega
  obtain ⟨k, hmod, hk⟩ := low_mod q n h0
  obtain ⟨p, hp⟩ : ∃ p, n = p + 1 + k := ⟨n - 1 - k, by omega⟩
  have HP : Hid (l.length = p + 1 + k) := show _ = _ by rw [HL.out]; exact hp
  have hpn : p ≤ n := by omega
  have hn : n ≤ 10000 := by omega
  have HW1 : Hid (IntKind.i64.wrap ((n : Int) - 1) = (n : Int) - 1) := IntWalk.i64_in _ (by omega)
  have HW2 : Hid (IntKind.i64.wrap ((n : Int) - 1 - (k : Int)) = (p : Int)) := show _ = _ by rw [IntWalk.i64_in _ (by omega)]; omega
  have HNN : Hid (n = p + 1 + k) := hp
  have hp10 : p ≤ 10000 := by omega
  clear hp
  go_enter Try.func5, Try.ntmps5
  go_wp2_with (go_at_call 9; refine (sawake_any _).mono ?_; rintro e w1 ⟨rfl, b1⟩; have B1 := Lib.hid b1; have S1 := Lib.hid (H1.out.below b1); clear b1)
  clear hmod
  go_loopw [7, 8] (fun v i wr => ∃ (j : Nat) (A' : Option Addr) (c' : Nat), j ≤ k + 1 ∧ i = .int .i64 (j : Int) ∧ v = .slice A' n c' ∧ Stk wr A' n c' (rolled l p j) ∧ Below w1.heap.size w1 wr) (fun _ i _ => ((k : Int) + 1 - intOf i).toNat)
  case atStart => exact ⟨0, A, c, by omega, rfl, rfl, S1.out.as (rolled_none l p).symm, Below.refl _ _⟩
  case round =>
    rename_i wr
    obtain ⟨j, A2, c2, hj, rfl, rfl, s2, b2⟩ := hrel
    have S2 := Lib.hid s2
    have B2 := Lib.hid b2
    have T2 := Lib.hid (S1.out.below b2)
    clear s2 b2
    by_cases hlt : j ≤ k
    · have RN := Lib.hid (rolled_next l p j k HP.out hlt)
      have RT : Hid (pickX (rolled l p (j + 1)) 0 = pickX (rolled l p j) (k : Int)) := show _ = _ by
        rw [← RN.out]
        exact rolls_top _ k (by rw [rolled_length l p j k HP.out (by omega)]; omega)
      generalize hV : pickX (rolled l p j) (k : Int) = V at *
      have HV := Lib.hid hV
      clear hV
      have hVV : (V != V) = false := by simp
      have hnn : ((n : Int) != (n : Int)) = false := by simp
      go_wp2_with (first
        | (go_at_call 17; (with_reducible refine (roll_ok _ n _ _ k _ hn hk S2.out).mono ?_); rintro e w4 ⟨A4, n4, c4, rfl, s4, b4⟩; rw [RN.out] at s4; obtain rfl : n = n4 := (by have := s4.len; rw [rolled_length l p (j + 1) k HP.out (by omega)] at this; rw [HNN.out]; exact this); have S4 := Lib.hid s4; have T4 := Lib.hid (T2.out.below b4); have B4 := Lib.hid (below_then B2.out b4); clear s4 b4)
        | (go_at_call 14; (with_reducible refine (pick_top _ n _ _ _ V hn h0 S4.out RT.out).mono ?_); rintro e w' ⟨rfl, rfl⟩)
        | (go_at_call 14; have P := pick_ok _ n _ _ k _ hn hk S2.out; rw [HV.out] at P; (with_reducible refine P.mono ?_); clear P; rintro e w' ⟨rfl, rfl⟩))
      obtain ⟨A5, c5, r5, s5⟩ := S4.out.head p hpn
      obtain ⟨A6, c6, r6, s6⟩ := T4.out.head p hpn
      rw [rolled_head l p (j + 1) k HP.out] at s5
      have S5 := Lib.hid s5
      have S6 := Lib.hid s6
      have W1 := HW1.out
      have W2 := HW2.out
      clear s5 s6
      go_quiet ((go_at_call 16; exact Calls.quiet_of (same_any _ _ _ _ _ _ _ _ hp10 S5.out S6.out)))
      clear W1 W2
      go_wp2
      go_roundw
      case rel => exact ⟨j + 1, A4, c4, by omega, by go_num, rfl, S4.out, below_drewN B4.out _⟩
      case measure => simp [intOf]; omega
    · obtain rfl : j = k + 1 := by omega
      have hR := S2.out
      rw [rolled_all l p k HP.out] at hR
      have S3 := Lib.hid hR
      have D0 := Lib.hid (Drawn.refl wr)
      clear hR
      go_wp2_with (go_at_call 16; (with_reducible refine (same_w D0.out S3.out T2.out hn).mono ?_); rintro e w6 ⟨rfl, d6⟩; have D1 := Lib.hid d6; clear d6)
      go_ret
      exact ⟨rfl, D1.out.below (below_then B1.out B2.out)⟩
set_option maxHeartbeats 1000000 in
theorem stkRolls_walk (q : Int) (h1 : Stk w A n c l) :
    Calls Try.prog 5 #[.slice A n c, .int .i64 q] w fun e w' => e = .returned (.bool true) ∧ Below w.heap.size w w' := by
  by_cases g1 : n ≤ 100
  · rcases Nat.eq_zero_or_pos n with h0 | h0
    · subst h0
      clear h1
      go_enter Try.func5, Try.ntmps5
      go_wp2_with (go_at_call 9; refine (sawake_any _).mono ?_; rintro e w1 ⟨rfl, b1⟩; have B1 := Lib.hid b1; clear b1)
      go_ret
      exact ⟨rfl, B1.out⟩
    · exact stkRolls_some A n c l w q h1 g1 h0
  · have d1 : decide ((100 : Int) < (n : Int)) = true := decide_eq_true (by omega)
    clear h1
    go_enter Try.func5, Try.ntmps5
    go_wp2_with (go_at_call 9; refine (sawake_any _).mono ?_; rintro e w1 ⟨rfl, b1⟩; have B1 := Lib.hid b1; clear b1)
    go_ret
    exact ⟨rfl, B1.out⟩
end
end Go.Proofs.Ytifpgbjfjbobkaa
