/-
  The call of the statement StkParts answers true at every three stacks and number; of what was there nothing has changed.
-/
import Derived.Test.YtifpgbjfjbobkaaStkBackWalk
namespace Go.Proofs.Ytifpgbjfjbobkaa
open Go.RowKit

theorem parts_all (l : List Int) (q : Int) : popL l q ++ popX l q = l := by
  unfold popL popX
  split
  · simp
  · simp
theorem parts_sum (l : List Int) (q : Int) : (popL l q).length + (popX l q).length = l.length := by
  rw [← List.length_append, parts_all]
/-- What is popped, pushed again. -/
theorem push_again (A : Option Addr) (n c : Nat) (l : List Int) (q : Int) (B : Option Addr) (m d : Nat) (w : World) (hl : l.length ≤ 100) (h1 : Stk w A n c (popL l q)) (h2 : Stk w B m d (popX l q)) :
    Calls Try.prog 10 #[.slice A n c, .int .i64 999, .slice B m d] w (StkPost w l 0) := by
  have e := parts_sum l q
  rw [h1.len, h2.len] at e
  have P := push_ok A n c _ 999 B m d _ w (by omega) (by omega) h1 h2 (by omega)
  rw [parts_all] at P
  exact P
section
variable (A : Option Addr) (n c : Nat) (l : List Int) (B : Option Addr) (m d : Nat) (x : List Int) (C : Option Addr) (k f : Nat) (y : List Int) (w : World)
set_option maxRecDepth 100000 in
set_option maxHeartbeats 2000000 in
theorem stkParts_small (q : Int) (h1 : Stk w A n c l) (h2 : Stk w B m d x) (h3 : Stk w C k f y) (g1 : n ≤ 100) (g2 : m ≤ 50) (g3 : k ≤ 50) :
    Calls Try.prog 8 #[.slice A n c, .slice B m d, .slice C k f, .int .i64 q] w fun e w' => e = .returned (.bool true) ∧ Below w.heap.size w w' := by
  have HL := Lib.hid h1.len
  have HX := Lib.hid h2.len
  have HY := Lib.hid h3.len
  have hll : l.length ≤ 100 := by rw [HL.out]; exact g1
  have H1 := Lib.hid h1
  have H2 := Lib.hid h2
  have H3 := Lib.hid h3
  clear h1 h2 h3
  have d1 : decide ((100 : Int) < (n : Int)) = false := decide_eq_false (by omega)
  have d2 : decide ((50 : Int) < (m : Int)) = false := decide_eq_false (by omega)
  have d3 : decide ((50 : Int) < (k : Int)) = false := decide_eq_false (by omega)
  have hn : n ≤ 10000 := by omega
  have hm : m ≤ 10000 := by omega
  have hk : k ≤ 10000 := by omega
  have a1 : (n : Int) + (m : Int) ≤ 999 := by omega
  have ass : (l ++ x) ++ y = l ++ (x ++ y) := by simp
  have ASS := Lib.hid ass
  clear ass
  cases hp : popB l.length q
  · have PE := Lib.hid (popE_ok hp)
    clear hp
    go_enter Try.func8, Try.ntmps8
    go_wp2_with (first
      | (go_at_call 9; refine (sawake_any _).mono ?_; rintro e w1 ⟨rfl, b1⟩; have B1 := Lib.hid b1; have S1 := Lib.hid (H1.out.below b1); have X1 := Lib.hid (H2.out.below b1); have Y1 := Lib.hid (H3.out.below b1); clear b1)
      | (at_builtin; refine wpList_app (W := w3) rfl (.tmp 52) (.tmp 53) rfl rfl rfl O4.out (Y3.out.below O4.out.below) (by omega) ?_; intro A5 c5 w5 o5; have O5 := Lib.hid o5; have S5 := Lib.hid (S3.out.below o5.below); have R5 := Lib.hid (R3.out.below o5.below); have B5 := Lib.hid (below_then B3.out o5.below); clear o5)
      | (at_builtin; refine wpList_app (W := w3) rfl (.tmp 49) (.tmp 50) rfl rfl rfl (Own.made w3) (X3.out.alloc _) (by omega) ?_; intro A4 c4 w4 o4; rw [Nat.zero_add, List.nil_append] at o4; have O4 := Lib.hid o4; clear o4)
      | (go_at_call 10; (with_reducible refine (push_again _ _ _ l q _ _ _ _ hll P7.out Q7.out).mono ?_); rintro e w8 ⟨A8, n8, c8, rfl, s8, b8⟩; have S8 := Lib.hid (S7.out.below b8); have R8 := Lib.hid (R7.out.below b8); have T8 := Lib.hid (T7.out.below b8); have P8 := Lib.hid (P7.out.below b8); have V8 := Lib.hid s8; have B8 := Lib.hid (below_then B7.out b8); have D0 := Lib.hid (Drawn.refl w8); have hn8 : n8 ≤ 10000 := (by rw [← s8.len, HL.out]; exact hn); clear s8 b8)
      | (go_at_call 10; (with_reducible refine (push_ok _ n c l _ _ _ _ _ _ hn (by omega) S5.out O5.out.stk (by omega)).mono ?_); rintro e w6 ⟨A6, n6, c6, rfl, s6, b6⟩; rw [← ASS.out] at s6; have S6 := Lib.hid (S5.out.below b6); have R6 := Lib.hid (R5.out.below b6); have T6 := Lib.hid s6; have B6 := Lib.hid (below_then B5.out b6); clear s6 b6)
      | (go_at_call 10; (with_reducible refine (push_ok _ n2 c2 _ _ _ k f y _ (by omega) hk P2.out Y2.out (by omega)).mono ?_); rintro e w3 ⟨A3, n3, c3, rfl, s3, b3⟩; have S3 := Lib.hid (S2.out.below b3); have X3 := Lib.hid (X2.out.below b3); have Y3 := Lib.hid (Y2.out.below b3); have R3 := Lib.hid s3; have hn3 : n3 ≤ 10000 := (by have := s3.len; rw [List.length_append, List.length_append, HL.out, HX.out, HY.out] at this; omega); have B3 := Lib.hid (below_then B2.out b3); clear s3 b3)
      | (go_at_call 10; (with_reducible refine (push_ok _ n c l _ _ m d x _ hn hm S1.out X1.out a1).mono ?_); rintro e w2 ⟨A2, n2, c2, rfl, s2, b2⟩; have S2 := Lib.hid (S1.out.below b2); have X2 := Lib.hid (X1.out.below b2); have Y2 := Lib.hid (Y1.out.below b2); have P2 := Lib.hid s2; have hn2 : n2 ≤ 150 := (by have := s2.len; rw [List.length_append, HL.out, HX.out] at this; omega); have B2 := Lib.hid (below_then B1.out b2); clear s2 b2)
      | (go_at_call 12; have PP := pop_any _ n c l q _ hn S6.out; rw [PE.out] at PP; (with_reducible refine PP.mono ?_); clear PP; rintro e w7 ⟨A7, n7, c7, E7, m7, f7, rfl, s7, t7, b7⟩; have S7 := Lib.hid (S6.out.below b7); have R7 := Lib.hid (R6.out.below b7); have T7 := Lib.hid (T6.out.below b7); have P7 := Lib.hid s7; have Q7 := Lib.hid t7; have B7 := Lib.hid (below_then B6.out b7); clear s7 t7 b7)
      | (go_at_call 16; (with_reducible refine (same_w D1.out V8.out S8.out hn8).mono ?_); rintro e w10 ⟨rfl, d10⟩; have D2 := Lib.hid d10; clear d10)
      | (go_at_call 16; (with_reducible refine (same_w D0.out R8.out T8.out hn3).mono ?_); rintro e w9 ⟨rfl, d9⟩; have D1 := Lib.hid d9; clear d9))
    go_ret
    exact ⟨rfl, D2.out.below B8.out⟩
  · have PE := Lib.hid (popE_under hp)
    have PL := Lib.hid (popL_under hp)
    clear hp
    go_enter Try.func8, Try.ntmps8
    go_wp2_with (first
      | (go_at_call 9; refine (sawake_any _).mono ?_; rintro e w1 ⟨rfl, b1⟩; have B1 := Lib.hid b1; have S1 := Lib.hid (H1.out.below b1); have X1 := Lib.hid (H2.out.below b1); have Y1 := Lib.hid (H3.out.below b1); clear b1)
      | (at_builtin; refine wpList_app (W := w3) rfl (.tmp 52) (.tmp 53) rfl rfl rfl O4.out (Y3.out.below O4.out.below) (by omega) ?_; intro A5 c5 w5 o5; have O5 := Lib.hid o5; have S5 := Lib.hid (S3.out.below o5.below); have R5 := Lib.hid (R3.out.below o5.below); have B5 := Lib.hid (below_then B3.out o5.below); clear o5)
      | (at_builtin; refine wpList_app (W := w3) rfl (.tmp 49) (.tmp 50) rfl rfl rfl (Own.made w3) (X3.out.alloc _) (by omega) ?_; intro A4 c4 w4 o4; rw [Nat.zero_add, List.nil_append] at o4; have O4 := Lib.hid o4; clear o4)
      | (go_at_call 10; (with_reducible refine (push_again _ _ _ l q _ _ _ _ hll P7.out Q7.out).mono ?_); rintro e w8 ⟨A8, n8, c8, rfl, s8, b8⟩; have S8 := Lib.hid (S7.out.below b8); have R8 := Lib.hid (R7.out.below b8); have T8 := Lib.hid (T7.out.below b8); have P8 := Lib.hid ((P7.out.below b8).as PL.out); have V8 := Lib.hid s8; have B8 := Lib.hid (below_then B7.out b8); have D0 := Lib.hid (Drawn.refl w8); have hn8 : n8 ≤ 10000 := (by rw [← s8.len, HL.out]; exact hn); have hn7 : n7 ≤ 10000 := (by rw [← P8.out.len, HL.out]; exact hn); clear s8 b8)
      | (go_at_call 10; (with_reducible refine (push_ok _ n c l _ _ _ _ _ _ hn (by omega) S5.out O5.out.stk (by omega)).mono ?_); rintro e w6 ⟨A6, n6, c6, rfl, s6, b6⟩; rw [← ASS.out] at s6; have S6 := Lib.hid (S5.out.below b6); have R6 := Lib.hid (R5.out.below b6); have T6 := Lib.hid s6; have B6 := Lib.hid (below_then B5.out b6); clear s6 b6)
      | (go_at_call 10; (with_reducible refine (push_ok _ n2 c2 _ _ _ k f y _ (by omega) hk P2.out Y2.out (by omega)).mono ?_); rintro e w3 ⟨A3, n3, c3, rfl, s3, b3⟩; have S3 := Lib.hid (S2.out.below b3); have X3 := Lib.hid (X2.out.below b3); have Y3 := Lib.hid (Y2.out.below b3); have R3 := Lib.hid s3; have hn3 : n3 ≤ 10000 := (by have := s3.len; rw [List.length_append, List.length_append, HL.out, HX.out, HY.out] at this; omega); have B3 := Lib.hid (below_then B2.out b3); clear s3 b3)
      | (go_at_call 10; (with_reducible refine (push_ok _ n c l _ _ m d x _ hn hm S1.out X1.out a1).mono ?_); rintro e w2 ⟨A2, n2, c2, rfl, s2, b2⟩; have S2 := Lib.hid (S1.out.below b2); have X2 := Lib.hid (X1.out.below b2); have Y2 := Lib.hid (Y1.out.below b2); have P2 := Lib.hid s2; have hn2 : n2 ≤ 150 := (by have := s2.len; rw [List.length_append, HL.out, HX.out] at this; omega); have B2 := Lib.hid (below_then B1.out b2); clear s2 b2)
      | (go_at_call 12; have PP := pop_any _ n c l q _ hn S6.out; rw [PE.out] at PP; (with_reducible refine PP.mono ?_); clear PP; rintro e w7 ⟨A7, n7, c7, E7, m7, f7, rfl, s7, t7, b7⟩; have S7 := Lib.hid (S6.out.below b7); have R7 := Lib.hid (R6.out.below b7); have T7 := Lib.hid (T6.out.below b7); have P7 := Lib.hid s7; have Q7 := Lib.hid t7; have B7 := Lib.hid (below_then B6.out b7); clear s7 t7 b7)
      | (go_at_call 16; (with_reducible refine (same_w D2.out P8.out S8.out hn7).mono ?_); rintro e w11 ⟨rfl, d11⟩; have D3 := Lib.hid d11; clear d11)
      | (go_at_call 16; (with_reducible refine (same_w D1.out V8.out S8.out hn8).mono ?_); rintro e w10 ⟨rfl, d10⟩; have D2 := Lib.hid d10; clear d10)
      | (go_at_call 16; (with_reducible refine (same_w D0.out R8.out T8.out hn3).mono ?_); rintro e w9 ⟨rfl, d9⟩; have D1 := Lib.hid d9; clear d9))
    go_ret
    exact ⟨rfl, D3.out.below B8.out⟩
set_option maxHeartbeats 1000000 in
theorem stkParts_walk (q : Int) (h1 : Stk w A n c l) (h2 : Stk w B m d x) (h3 : Stk w C k f y) :
    Calls Try.prog 8 #[.slice A n c, .slice B m d, .slice C k f, .int .i64 q] w fun e w' => e = .returned (.bool true) ∧ Below w.heap.size w w' := by
  by_cases g1 : n ≤ 100
  · have d1 : decide ((100 : Int) < (n : Int)) = false := decide_eq_false (by omega)
    by_cases g2 : m ≤ 50
    · have d2 : decide ((50 : Int) < (m : Int)) = false := decide_eq_false (by omega)
      by_cases g3 : k ≤ 50
      · exact stkParts_small A n c l B m d x C k f y w q h1 h2 h3 g1 g2 g3
      · have d3 : decide ((50 : Int) < (k : Int)) = true := decide_eq_true (by omega)
        clear h1 h2 h3
        go_enter Try.func8, Try.ntmps8
        go_wp2_with (go_at_call 9; refine (sawake_any _).mono ?_; rintro e w1 ⟨rfl, b1⟩; have B1 := Lib.hid b1; clear b1)
        go_ret
        exact ⟨rfl, B1.out⟩
    · have d2 : decide ((50 : Int) < (m : Int)) = true := decide_eq_true (by omega)
      clear h1 h2 h3
      go_enter Try.func8, Try.ntmps8
      go_wp2_with (go_at_call 9; refine (sawake_any _).mono ?_; rintro e w1 ⟨rfl, b1⟩; have B1 := Lib.hid b1; clear b1)
      go_ret
      exact ⟨rfl, B1.out⟩
  · have d1 : decide ((100 : Int) < (n : Int)) = true := decide_eq_true (by omega)
    clear h1 h2 h3
    go_enter Try.func8, Try.ntmps8
    go_wp2_with (go_at_call 9; refine (sawake_any _).mono ?_; rintro e w1 ⟨rfl, b1⟩; have B1 := Lib.hid b1; clear b1)
    go_ret
    exact ⟨rfl, B1.out⟩
end
end Go.Proofs.Ytifpgbjfjbobkaa
