/-
  The call of the statement StkMoves answers true at every stack and number; of what was there nothing has changed.
-/
import Derived.Test.YtifpgbjfjbobkaaStkBackWalk
import Derived.Test.YtifpgbjfjbobkaaCellMath
namespace Go.Proofs.Ytifpgbjfjbobkaa
open Go.RowKit

theorem and65535 (x : Int) : bits .and .i64 x 65535 = x % 65536 := bits_and_low 16 (by decide) x
theorem low_mod (q : Int) (n : Nat) (h : 0 < n) : ∃ k : Nat, (bits .and .i64 q 65535).tmod (n : Int) = (k : Int) ∧ k < n := by
  rw [and65535, Int.tmod_eq_emod_of_nonneg (by omega)]
  have h0 := Int.emod_nonneg (q % 65536) (b := (n : Int)) (by omega)
  have h1 := Int.emod_lt_of_pos (q % 65536) (b := (n : Int)) (by omega)
  exact ⟨(q % 65536 % (n : Int)).toNat, by omega, by omega⟩
theorem Own.alloc {W w : World} {A : Option Addr} {n c : Nat} {l : List Int} (h : Own W w A n c l) (o : Obj) : Own W (w.alloc o) A n c l := by
  obtain ⟨⟨h1, h2⟩, hb⟩ := h
  refine ⟨⟨h1, ?_⟩, hb.alloc hb.size o⟩
  rcases h2 with h2 | ⟨g, cap, cur, e, hg, hh, hr⟩
  · exact .inl h2
  · exact .inr ⟨g, cap, cur, e, hg, (Below.heap_alloc w o g (row_lt hh)).trans hh, hr⟩

theorem moves_E (l : List Int) (k : Nat) (h : k < l.length) : permE l ((k : Int) + 1) (ups k ++ [0]) (l.length : Int) = 0 := by
  have e : ((k : Int) + 1) = ((k + 1 : Nat) : Int) := by omega
  rw [e, permE_push (popB_nat (by omega)) (by rw [popx_length (by omega)]; exact nameB_ups k), pops_length (by omega)]
  refine pushE_ok (pushB_no ?_)
  simp [ups_length]
  omega
theorem moves_L (l : List Int) (k : Nat) (h : k < l.length) : permL l ((k : Int) + 1) (ups k ++ [0]) (l.length : Int) = rollL l (k : Int) := by
  rw [permL_ok (moves_E l k h)]
  have e : ((k : Int) + 1) = ((k + 1 : Nat) : Int) := by omega
  have hx := popx_length (l := l) (k := k + 1) (by omega)
  rw [e, name_ups _ k hx, rollL_ok (pickB_nat h), lastly_parts, popL_ok (popB_nat (by omega)), popX_ok (popB_nat (by omega))]
  simp only [Int.toNat_natCast]
  rw [show l.length - (k + 1) = l.length - 1 - k by omega]
theorem perm_moves (A : Option Addr) (n c : Nat) (l : List Int) (k : Nat) (B : Option Addr) (d : Nat) (w : World) (hn : n ≤ 100) (hk : k < n) (h1 : Stk w A n c l) (h2 : Stk w B (k + 1) d (ups k ++ [0])) :
    Calls Try.prog 19 #[.slice A n c, .int .i64 ((k : Int) + 1), .slice B (k + 1) d, .int .i64 (n : Int)] w (StkPost w (rollL l (k : Int)) 0) := by
  have P := permute_any A n c l ((k : Int) + 1) B (k + 1) d (ups k ++ [0]) (n : Int) w (by omega) (by omega) h1 h2
  have hl := h1.len
  subst hl
  rw [moves_L l k hk, moves_E l k hk] at P
  exact P
theorem roll_ok (A : Option Addr) (n c : Nat) (l : List Int) (k : Nat) (w : World) (hn : n ≤ 10000) (hk : k < n) (h1 : Stk w A n c l) :
    Calls Try.prog 17 #[.slice A n c, .int .i64 (k : Int)] w (StkPost w (rollL l (k : Int)) 0) := by
  have P := roll_any A n c l (k : Int) w hn h1
  rw [pickE_ok (by rw [h1.len]; exact pickB_nat hk)] at P
  exact P
theorem rollL_length (l : List Int) (q : Int) : (rollL l q).length = l.length := by
  unfold rollL
  split
  · rfl
  · rename_i h
    obtain ⟨k, rfl, hk⟩ := pickB_no (Bool.eq_false_iff.2 h)
    exact lastly_length _ _ (by omega)
section
variable (A : Option Addr) (n c : Nat) (l : List Int) (w : World)
set_option maxRecDepth 100000 in
set_option maxHeartbeats 1000000 in
theorem stkMoves_walk (q : Int) (h1 : Stk w A n c l) :
    Calls Try.prog 7 #[.slice A n c, .int .i64 q] w fun e w' => e = .returned (.bool true) ∧ Below w.heap.size w w' := by
  have HL := Lib.hid h1.len
  have H1 := Lib.hid h1
  clear h1
  by_cases g1 : n ≤ 60
  · have d1 : decide ((60 : Int) < (n : Int)) = false := decide_eq_false (by omega)
    rcases Nat.eq_zero_or_pos n with h0 | h0
    · subst h0
      go_enter Try.func7, Try.ntmps7
      go_wp2_with (go_at_call 9; refine (sawake_any _).mono ?_; rintro e w1 ⟨rfl, b1⟩; have B1 := Lib.hid b1; clear b1)
      go_ret
      exact ⟨rfl, B1.out⟩
    · have d2 : ((n : Int) == 0) = false := by simp; omega
      have d3 : (n : Int) ≠ 0 := by omega
      obtain ⟨k, hmod, hk⟩ := low_mod q n h0
      have hn : n ≤ 10000 := by omega
      have hn2 : n ≤ 100 := by omega
      go_enter Try.func7, Try.ntmps7
      go_wp2_with (go_at_call 9; refine (sawake_any _).mono ?_; rintro e w1 ⟨rfl, b1⟩; have B1 := Lib.hid b1; have S1 := Lib.hid (H1.out.below b1); clear b1)
      clear hmod
      go_loopw [7, 8] (fun v i wr => ∃ (j : Nat) (A' : Option Addr) (c' : Nat), j ≤ k ∧ i = .int .i64 ((j : Int) + 1) ∧ v = .slice A' j c' ∧ Own w1 wr A' j c' (ups j)) (fun _ i _ => ((k : Int) + 1 - intOf i).toNat)
      case atStart => exact ⟨0, none, 0, by omega, rfl, rfl, Own.nil w1⟩
      case round =>
        obtain ⟨j, A2, c2, hj, rfl, rfl, hO⟩ := hrel
        have O2 := Lib.hid hO
        clear hO
        by_cases hlt : j < k
        · have U := Lib.hid (ups_succ j)
          go_wp2_with (at_builtin; refine wpList_app (W := w1) rfl (.tmp 33) (.tmp 35) rfl rfl rfl (O2.out.alloc _) (stk_one _ _) (by omega) ?_; intro A3 c3 w3 o3; rw [← U.out] at o3; have O3 := Lib.hid o3; clear o3)
          go_roundw
          case rel => exact ⟨j + 1, A3, c3, by omega, by go_num, rfl, O3.out⟩
          case measure => simp [intOf]; omega
        · obtain rfl : j = k := by omega
          go_wp2_with (first
            | (at_builtin; refine wpList_app (W := w1) rfl (.tmp 37) (.tmp 38) rfl rfl rfl (O2.out.alloc _) (stk_one _ _) (by omega) ?_; intro A3 c3 w3 o3; have O3 := Lib.hid o3; have S3 := Lib.hid (S1.out.below o3.below); have B3 := Lib.hid (below_then B1.out o3.below); clear o3)
            | (go_at_call 17; (with_reducible refine (roll_ok _ n c l j _ hn hk S3.out).mono ?_); rintro e w4 ⟨A4, n4, c4, rfl, s4, b4⟩; have S4 := Lib.hid (S3.out.below b4); have T4 := Lib.hid (O3.out.stk.below b4); have R4 := Lib.hid s4; have B4 := Lib.hid (below_then B3.out b4); have hn4 : n4 ≤ 10000 := (by rw [← s4.len, rollL_length, HL.out]; exact hn); clear s4 b4)
            | (go_at_call 19; (with_reducible refine (perm_moves _ n c l j _ _ _ hn2 hk S4.out T4.out).mono ?_); rintro e w5 ⟨A5, n5, c5, rfl, s5, b5⟩; have R5 := Lib.hid (R4.out.below b5); have T5 := Lib.hid s5; have B5 := Lib.hid (below_then B4.out b5); have D0 := Lib.hid (Drawn.refl w5); clear s5 b5)
            | (go_at_call 16; (with_reducible refine (same_w D0.out R5.out T5.out hn4).mono ?_); rintro e w6 ⟨rfl, d6⟩; have D1 := Lib.hid d6; clear d6))
          go_ret
          exact ⟨rfl, D1.out.below B5.out⟩
  · have d1 : decide ((60 : Int) < (n : Int)) = true := decide_eq_true (by omega)
    go_enter Try.func7, Try.ntmps7
    go_wp2_with (go_at_call 9; refine (sawake_any _).mono ?_; rintro e w1 ⟨rfl, b1⟩; have B1 := Lib.hid b1; clear b1)
    go_ret
    exact ⟨rfl, B1.out⟩
end
end Go.Proofs.Ytifpgbjfjbobkaa
