/-
  The call of the statement StkBack answers true at every two stacks and number; of what was there nothing has changed.
-/
import Derived.Test.YtifpgbjfjbobkaaStkPicksWalk
namespace Go.Proofs.Ytifpgbjfjbobkaa
open Go.RowKit

theorem back_L (l x : List Int) : popL (l ++ x) (x.length : Int) = l := by
  rw [popL_ok (popB_nat (by simp)), Int.toNat_natCast]
  simp
theorem back_X (l x : List Int) : popX (l ++ x) (x.length : Int) = x := by
  rw [popX_ok (popB_nat (by simp)), Int.toNat_natCast]
  simp
theorem back_E (l x : List Int) : popE (l ++ x).length (x.length : Int) = 0 := popE_ok (popB_nat (by simp))
theorem push_ok (A : Option Addr) (n c : Nat) (l : List Int) (most : Int) (B : Option Addr) (m d : Nat) (x : List Int) (w : World) (hn : n ≤ 10000) (hm : m ≤ 10000) (h1 : Stk w A n c l) (h2 : Stk w B m d x) (h : (n : Int) + (m : Int) ≤ most) :
    Calls Try.prog 10 #[.slice A n c, .int .i64 most, .slice B m d] w (StkPost w (l ++ x) 0) := by
  have P := push_any A n c l most B m d x w hn hm h1 h2
  have e : pushB (l.length + x.length) most = false := pushB_no (by rw [h1.len, h2.len]; omega)
  rw [pushE_ok e, pushL_ok e] at P
  exact P
theorem push_no (A : Option Addr) (n c : Nat) (l : List Int) (most : Int) (B : Option Addr) (m d : Nat) (x : List Int) (w : World) (hn : n ≤ 10000) (hm : m ≤ 10000) (h1 : Stk w A n c l) (h2 : Stk w B m d x) (h : most < (n : Int) + (m : Int)) :
    Calls Try.prog 10 #[.slice A n c, .int .i64 most, .slice B m d] w (StkPost w l (-3)) := by
  have P := push_any A n c l most B m d x w hn hm h1 h2
  have e : pushB (l.length + x.length) most = true := pushB_yes (by rw [h1.len, h2.len]; omega)
  rw [pushE_over e, pushL_over e] at P
  exact P
theorem pop_back (A : Option Addr) (n c : Nat) (l x : List Int) (m : Nat) (w : World) (hn : n ≤ 10000) (h1 : Stk w A n c (l ++ x)) (hm : x.length = m) :
    Calls Try.prog 12 #[.slice A n c, .int .i64 (m : Int)] w (PopPost w l x 0) := by
  subst hm
  have P := pop_any A n c (l ++ x) (x.length : Int) w hn h1
  rw [back_L, back_X, back_E] at P
  exact P
section
variable (A : Option Addr) (n c : Nat) (l : List Int) (B : Option Addr) (m d : Nat) (x : List Int) (w : World)
set_option maxRecDepth 100000 in
set_option maxHeartbeats 1000000 in
theorem stkBack_walk (q : Int) (h1 : Stk w A n c l) (h2 : Stk w B m d x) :
    Calls Try.prog 4 #[.slice A n c, .slice B m d, .int .i64 q] w fun e w' => e = .returned (.bool true) ∧ Below w.heap.size w w' := by
  have HX := Lib.hid h2.len
  have HL := Lib.hid h1.len
  have H1 := Lib.hid h1
  have H2 := Lib.hid h2
  clear h1 h2
  by_cases g1 : n ≤ 300
  · have d1 : decide ((300 : Int) < (n : Int)) = false := decide_eq_false (by omega)
    by_cases g2 : m ≤ 100
    · have d2 : decide ((100 : Int) < (m : Int)) = false := decide_eq_false (by omega)
      have hn : n ≤ 10000 := by omega
      have hm : m ≤ 10000 := by omega
      have a1 : (n : Int) + (m : Int) ≤ (n : Int) + (m : Int) := Int.le_refl _
      have a2 : (n : Int) < (n : Int) + ((1 : Nat) : Int) := by omega
      have a3 : (n : Int) + (m : Int) - 1 < (n : Int) + (m : Int) := by omega
      go_enter Try.func4, Try.ntmps4
      go_wp2_with (first
        | (go_at_call 9; refine (sawake_any _).mono ?_; rintro e w1 ⟨rfl, b1⟩; have B1 := Lib.hid b1; have S1 := Lib.hid (H1.out.below b1); have X1 := Lib.hid (H2.out.below b1); clear b1)
        | (go_at_call 10; (with_reducible refine (push_no _ n c l _ _ m d x _ hn hm S4.out X4.out a3).mono ?_); rintro e w5 ⟨A5, n5, c5, rfl, s5, b5⟩; have S5 := Lib.hid (S4.out.below b5); have X5 := Lib.hid (X4.out.below b5); have B5 := Lib.hid (below_then B4.out b5); have R2 := Lib.hid (Q2.out.below b5); have T2 := Lib.hid (Y2.out.below b5); have R4 := Lib.hid (Q4.out.below b5); have R5 := Lib.hid s5; have D0 := Lib.hid (Drawn.refl w5); have HN3 := Lib.hid (Q3.out.len.symm.trans HL.out); clear s5 b5)
        | (go_at_call 10; (with_reducible refine (push_no _ n c l _ _ 1 1 [q] _ hn (by decide) (S3.out.alloc _) (stk_one w3 q) a2).mono ?_); rintro e w4 ⟨A4, n4, c4, rfl, s4, b4⟩; have b4' := below_new b4; have S4 := Lib.hid (S3.out.below b4'); have X4 := Lib.hid (X3.out.below b4'); have B4 := Lib.hid (below_then B3.out b4'); have Q2 := Lib.hid (Q3.out.below b4'); have Y2 := Lib.hid (Y3.out.below b4'); have Q4 := Lib.hid s4; clear s4 b4 b4')
        | (go_at_call 10; (with_reducible refine (push_ok _ n c l _ _ m d x _ hn hm S1.out X1.out a1).mono ?_); rintro e w2 ⟨A2, n2, c2, rfl, s2, b2⟩; have S2 := Lib.hid (S1.out.below b2); have X2 := Lib.hid (X1.out.below b2); have B2 := Lib.hid (below_then B1.out b2); have P2 := Lib.hid s2; have hn2 : n2 ≤ 10000 := (by have := s2.len; rw [List.length_append, HL.out, HX.out] at this; omega); clear s2 b2)
        | (go_at_call 12; (with_reducible refine (pop_back _ n2 c2 l x m _ hn2 P2.out HX.out).mono ?_); rintro e w3 ⟨A3, n3, c3, E3, m3, f3, rfl, s3, t3, b3⟩; have S3 := Lib.hid (S2.out.below b3); have X3 := Lib.hid (X2.out.below b3); have B3 := Lib.hid (below_then B2.out b3); have Q3 := Lib.hid s3; have Y3 := Lib.hid t3; have hn3 : n3 ≤ 10000 := (by rw [← s3.len, HL.out]; exact hn); have hm3 : m3 ≤ 10000 := (by rw [← t3.len, HX.out]; exact hm); clear s3 t3 b3)
        | (go_at_call 16; (with_reducible refine (same_w D3.out R5.out S5.out (by rw [← R5.out.len, HL.out]; exact hn)).mono ?_); rintro e w9 ⟨rfl, d9⟩; have D4 := Lib.hid d9; clear d9)
        | (go_at_call 16; (with_reducible refine (same_w D2.out R4.out S5.out (by rw [← R4.out.len, HL.out]; exact hn)).mono ?_); rintro e w8 ⟨rfl, d8⟩; have D3 := Lib.hid d8; clear d8)
        | (go_at_call 16; (with_reducible refine (same_w D1.out T2.out X5.out hm3).mono ?_); rintro e w7 ⟨rfl, d7⟩; have D2 := Lib.hid d7; clear d7)
        | (go_at_call 16; (with_reducible refine (same_w D0.out R2.out S5.out hn3).mono ?_); rintro e w6 ⟨rfl, d6⟩; have D1 := Lib.hid d6; clear d6))
      go_ret
      exact ⟨rfl, D4.out.below B5.out⟩
    · have d2 : decide ((100 : Int) < (m : Int)) = true := decide_eq_true (by omega)
      go_enter Try.func4, Try.ntmps4
      go_wp2_with (go_at_call 9; refine (sawake_any _).mono ?_; rintro e w1 ⟨rfl, b1⟩; have B1 := Lib.hid b1; clear b1)
      go_ret
      exact ⟨rfl, B1.out⟩
  · have d1 : decide ((300 : Int) < (n : Int)) = true := decide_eq_true (by omega)
    go_enter Try.func4, Try.ntmps4
    go_wp2_with (go_at_call 9; refine (sawake_any _).mono ?_; rintro e w1 ⟨rfl, b1⟩; have B1 := Lib.hid b1; clear b1)
    go_ret
    exact ⟨rfl, B1.out⟩
end
end Go.Proofs.Ytifpgbjfjbobkaa
