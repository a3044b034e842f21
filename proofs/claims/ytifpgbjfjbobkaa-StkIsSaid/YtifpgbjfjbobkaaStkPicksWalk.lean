/-
  The call of the statement StkPicks answers true at every stack and number; of what was there nothing has changed.
-/
import Derived.Test.YtifpgbjfjbobkaaStkAwake
namespace Go.Proofs.Ytifpgbjfjbobkaa
open Go.RowKit

theorem stk_one (w : World) (a : Int) : Stk (w.alloc (.cells #[.int .i64 a] 3)) (some ⟨w.heap.size, 0, none⟩) 1 1 [a] := by
  refine ⟨rfl, Nat.le_refl _, fun _ => ⟨_, 0, rfl, by simp, fun j hj => ?_⟩, fun h => by cases h⟩
  rw [Nat.zero_add, cell_of_row _ _ j _ 3 (0, 0) (heap_alloc_new w _)]
  match j, hj with
  | 0, _ => rfl
theorem pops_length {l : List Int} {k : Nat} (h : k ≤ l.length) : (popL l (k : Int)).length = l.length - k := by
  rw [popL_ok (popB_nat h), List.length_take, Int.toNat_natCast]; omega
theorem popx_length {l : List Int} {k : Nat} (h : k ≤ l.length) : (popX l (k : Int)).length = k := by
  rw [popX_ok (popB_nat h), List.length_drop, Int.toNat_natCast]; omega
theorem picks_top {l : List Int} {k : Nat} (h : k < l.length) : pickX (popL l (k : Int)) 0 = pickX l (k : Int) := by
  have e := pops_length (l := l) (k := k) (by omega)
  rw [pickX_ok (pickB_nat h), pickX_ok (n := 0) (by rw [e]; exact pickB_nat (k := 0) (by omega)), e, popL_ok (popB_nat (by omega))]
  simp only [Int.toNat_natCast, Int.toNat_zero, List.getD_eq_getElem?_getD]
  rw [List.getElem?_take, if_pos (by omega)]
  congr 2
  omega
theorem picks_E {l : List Int} {k : Nat} (h : k < l.length) : pickE (popL l (k : Int)).length 0 = 0 :=
  pickE_ok (by rw [pops_length (by omega)]; exact pickB_nat (k := 0) (by omega))
theorem picks_under {l : List Int} {k : Nat} (h : k < l.length) : permE l (k : Int) [(k : Int)] 999 = -4 := by
  refine permE_name (popB_nat (by omega)) ?_
  rw [popx_length (by omega)]
  simp [nameB, pickB]
section
variable (A : Option Addr) (n c : Nat) (l : List Int) (w : World)
set_option maxRecDepth 100000 in
set_option maxHeartbeats 1000000 in
theorem stkPicks_walk (q : Int) (h1 : Stk w A n c l) :
    Calls Try.prog 6 #[.slice A n c, .int .i64 q] w fun e w' => e = .returned (.bool true) ∧ Below w.heap.size w w' := by
  have HL := Lib.hid h1.len
  have H1 := Lib.hid h1
  by_cases h2 : n ≤ 300
  · have hd : decide ((300 : Int) < (n : Int)) = false := decide_eq_false (by omega)
    have hn : n ≤ 10000 := by omega
    cases hb : pickB n q
    · obtain ⟨k, rfl, hk⟩ := pickB_no hb
      obtain ⟨b, o, rfl, hlt, hc⟩ := h1.at_ (n - 1 - k) (by omega)
      have hkl : k < l.length := by rw [HL.out]; exact hk
      have HX : Hid (pickX l (k : Int) = l.getD (n - 1 - k) 0) := show _ = _ by rw [pickX_ok (pickB_nat hkl), HL.out, Int.toNat_natCast]
      have HC := Lib.hid hc
      have E1 := Lib.hid (pickE_ok (pickB_nat hkl))
      have E2 := Lib.hid (popE_ok (popB_nat (Nat.le_of_lt hkl)))
      have E3 := Lib.hid (picks_E hkl)
      have E4 := Lib.hid (picks_top hkl)
      have E5 := Lib.hid (picks_under hkl)
      have HI : ((n : Int) - 1 - (k : Int)).toNat = n - 1 - k := by omega
      have d0 : decide ((k : Int) < 0) = false := decide_eq_false (by omega)
      clear h1 hb hc
      go_enter Try.func6, Try.ntmps6
      go_wp2_with (first
        | (go_at_call 9; refine (sawake_any _).mono ?_; rintro e w1 ⟨rfl, b1⟩; have B1 := Lib.hid b1; have S1 := Lib.hid (H1.out.below b1); clear b1)
        | (go_at_call 12; have P := pop_any _ n c l (k : Int) w1 hn S1.out; rw [E2.out] at P; refine P.mono ?_; clear P; rintro e w2 ⟨A1, n1, c1, A2, n2, c2, rfl, s1, s2, b2⟩; have S2 := Lib.hid s1; have B2 := Lib.hid b2; have S3 := Lib.hid (S1.out.below b2); have hcc := ((below_then B1.out b2).cell (p := ⟨b, o + (n - 1 - k), none⟩) hlt).trans HC.out; rw [← HX.out] at hcc; have HCC := Lib.hid hcc; clear s1 s2 b2 hcc)
        | (go_at_call 14; have P := pick_any A1 n1 c1 _ 0 w2 (by rw [← S2.out.len]; exact Nat.le_trans popL_length (by rw [HL.out]; exact hn)) S2.out; rw [E3.out, E4.out] at P; (with_reducible refine P.mono ?_); clear P; rintro e w' ⟨rfl, rfl⟩)
        | (go_at_call 14; have P := pick_any _ n c l (k : Int) w1 hn S1.out; rw [E1.out] at P; (with_reducible refine P.mono ?_); clear P; rintro e w' ⟨rfl, rfl⟩)
        | (go_at_call 19; have P := permute_any _ n c l (k : Int) _ 1 1 [(k : Int)] 999 _ hn (by decide) (S3.out.alloc _) (stk_one w2 (k : Int)); rw [E5.out] at P; (with_reducible refine P.mono ?_); clear P; rintro e w3 ⟨A3, n3, c3, rfl, s3, b3⟩; have B3 := Lib.hid (below_then (below_then B1.out B2.out) (below_new b3)); have hcl := ((below_new b3).cell (p := ⟨b, o + (n - 1 - k), none⟩) (Nat.lt_of_lt_of_le hlt (below_then B1.out B2.out).size)).trans HCC.out; clear s3 b3))
      go_ret
      exact ⟨rfl, B3.out⟩
    · have hkl : pickB l.length q = true := by rw [HL.out]; exact hb
      have E1 := Lib.hid (pickE_under hkl)
      have E2 := Lib.hid (pickX_under hkl)
      have hq := pickB_yes hb
      clear h1 hb hkl
      by_cases h0 : q < 0
      · have d0 : decide (q < 0) = true := decide_eq_true h0
        go_enter Try.func6, Try.ntmps6
        go_wp2_with (first
          | (go_at_call 9; refine (sawake_any _).mono ?_; rintro e w1 ⟨rfl, b1⟩; have B1 := Lib.hid b1; have S1 := Lib.hid (H1.out.below b1); clear b1)
          | (go_at_call 14; have P := pick_any _ n c l q w1 hn S1.out; rw [E1.out, E2.out] at P; (with_reducible refine P.mono ?_); clear P; rintro e w' ⟨rfl, rfl⟩))
        go_ret
        exact ⟨rfl, B1.out⟩
      · have d0 : decide (q < 0) = false := decide_eq_false h0
        have d1 : (n : Int) ≤ q := by omega
        go_enter Try.func6, Try.ntmps6
        go_wp2_with (first
          | (go_at_call 9; refine (sawake_any _).mono ?_; rintro e w1 ⟨rfl, b1⟩; have B1 := Lib.hid b1; have S1 := Lib.hid (H1.out.below b1); clear b1)
          | (go_at_call 14; have P := pick_any _ n c l q w1 hn S1.out; rw [E1.out, E2.out] at P; (with_reducible refine P.mono ?_); clear P; rintro e w' ⟨rfl, rfl⟩))
        go_ret
        exact ⟨rfl, B1.out⟩
  · have hd : decide ((300 : Int) < (n : Int)) = true := decide_eq_true (by omega)
    clear h1
    go_enter Try.func6, Try.ntmps6
    go_wp2_with (go_at_call 9; refine (sawake_any _).mono ?_; rintro e w1 ⟨rfl, b1⟩; have B1 := Lib.hid b1; clear b1)
    go_ret
    exact ⟨rfl, B1.out⟩
end
end Go.Proofs.Ytifpgbjfjbobkaa
