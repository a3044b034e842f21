/-
  The call of the statement StkIs answers true at every stack, list and numbers; of what was there nothing has changed.
-/
import Derived.Test.YtifpgbjfjbobkaaRef04Calls
namespace Go.Proofs.Ytifpgbjfjbobkaa
open Go.RowKit

theorem pushL_le (l x : List Int) (most : Int) : (pushL l x most).length ≤ l.length + x.length := by
  unfold pushL
  split
  · omega
  · simp
theorem popX_le (l : List Int) (q : Int) : (popX l q).length ≤ l.length := by
  unfold popX
  split
  · simp
  · simp
theorem permL_le (l : List Int) (q : Int) (to : List Int) (most : Int) : (permL l q to most).length ≤ l.length + to.length := by
  unfold permL
  split
  · rw [List.length_append, nameL_length]
    have := popL_length (l := l) (q := q)
    omega
  · omega
theorem rollL_le (l : List Int) (q : Int) : (rollL l q).length ≤ l.length := by
  cases hb : pickB l.length q
  · rw [rollL_ok hb, lastly_length]
    · exact Nat.le_refl _
    · obtain ⟨k, rfl, hk⟩ := pickB_no hb
      omega
  · rw [rollL_under hb]
    exact Nat.le_refl _
theorem Stk.small {w : World} {A : Option Addr} {n c : Nat} {l : List Int} (h : Stk w A n c l) (k : l.length ≤ 10000) : n ≤ 10000 := h.len ▸ k
section
variable (A : Option Addr) (n c : Nat) (l : List Int) (B : Option Addr) (m d : Nat) (x : List Int) (C : Option Addr) (k f : Nat) (to : List Int) (w : World)
set_option maxRecDepth 100000 in
set_option maxHeartbeats 4000000 in
/-- The walk, of whatever lists and numbers both sides' calls answer. -/
theorem stkIs_of (most q : Int) (h1 : Stk w A n c l) (h2 : Stk w B m d x) (h3 : Stk w C k f to) (g1 : n ≤ 300) (g2 : m ≤ 100) (g3 : k ≤ 100)
    (L1 L2 L3 L4 L5 : List Int) (E1 E2 E3 V3 E5 : Int) (l1 : L1.length ≤ 10000) (l2 : L2.length ≤ 10000) (l3 : L3.length ≤ 10000) (l4 : L4.length ≤ 10000) (l5 : L5.length ≤ 10000)
    (c1 : ∀ w, Stk w A n c l → Stk w B m d x → Calls Try.prog 10 #[.slice A n c, .int .i64 most, .slice B m d] w (StkPost w L1 E1))
    (r1 : ∀ w, Stk w A n c l → Stk w B m d x → Calls Try.prog 11 #[.slice A n c, .int .i64 most, .slice B m d] w (StkPost w L1 E1))
    (c2 : ∀ w, Stk w A n c l → Calls Try.prog 12 #[.slice A n c, .int .i64 q] w (PopPost w L2 L3 E2))
    (r2 : ∀ w, Stk w A n c l → Calls Try.prog 13 #[.slice A n c, .int .i64 q] w (PopPost w L2 L3 E2))
    (c3 : ∀ w, Stk w A n c l → Calls Try.prog 14 #[.slice A n c, .int .i64 q] w fun e w' => e = .returned (.tuple #[.int .i64 V3, .int .i64 E3]) ∧ w = w')
    (r3 : ∀ w, Stk w A n c l → Calls Try.prog 15 #[.slice A n c, .int .i64 q] w fun e w' => e = .returned (.tuple #[.int .i64 V3, .int .i64 E3]) ∧ w = w')
    (c4 : ∀ w, Stk w A n c l → Calls Try.prog 17 #[.slice A n c, .int .i64 q] w (StkPost w L4 E3))
    (r4 : ∀ w, Stk w A n c l → Calls Try.prog 18 #[.slice A n c, .int .i64 q] w (StkPost w L4 E3))
    (c5 : ∀ w, Stk w A n c l → Stk w C k f to → Calls Try.prog 19 #[.slice A n c, .int .i64 q, .slice C k f, .int .i64 most] w (StkPost w L5 E5))
    (r5 : ∀ w, Stk w A n c l → Stk w C k f to → Calls Try.prog 20 #[.slice A n c, .int .i64 q, .slice C k f, .int .i64 most] w (StkPost w L5 E5)) :
    Calls Try.prog 3 #[.slice A n c, .int .i64 most, .slice B m d, .int .i64 q, .slice C k f] w fun e w' => e = .returned (.bool true) ∧ Below w.heap.size w w' := by
  have d1 : decide ((300 : Int) < (n : Int)) = false := decide_eq_false (by omega)
  have d2 : decide ((100 : Int) < (m : Int)) = false := decide_eq_false (by omega)
  have d3 : decide ((100 : Int) < (k : Int)) = false := decide_eq_false (by omega)
  have nE1 : (E1 != E1) = false := by simp
  have eE1 : (E1 == E1) = true := by simp
  have nE2 : (E2 != E2) = false := by simp
  have eE2 : (E2 == E2) = true := by simp
  have nE3 : (E3 != E3) = false := by simp
  have eE3 : (E3 == E3) = true := by simp
  have nV3 : (V3 != V3) = false := by simp
  have eV3 : (V3 == V3) = true := by simp
  have nE5 : (E5 != E5) = false := by simp
  have eE5 : (E5 == E5) = true := by simp
  have H1h := Lib.hid h1
  have H2h := Lib.hid h2
  have H3h := Lib.hid h3
  have L1h := Lib.hid l1
  have L2h := Lib.hid l2
  have L3h := Lib.hid l3
  have L4h := Lib.hid l4
  have L5h := Lib.hid l5
  have C1h := Lib.hid c1
  have R1h := Lib.hid r1
  have C2h := Lib.hid c2
  have R2h := Lib.hid r2
  have C3h := Lib.hid c3
  have R3h := Lib.hid r3
  have C4h := Lib.hid c4
  have R4h := Lib.hid r4
  have C5h := Lib.hid c5
  have R5h := Lib.hid r5
  clear h1 h2 h3 l1 l2 l3 l4 l5 c1 r1 c2 r2 c3 r3 c4 r4 c5 r5 g1 g2 g3
  go_enter Try.func3, Try.ntmps3
  go_wp2_with (first
    | (go_at_call 9; refine (sawake_any _).mono ?_; rintro e w1 ⟨rfl, b1⟩; have B1 := Lib.hid (b1); have S1 := Lib.hid (H1h.out.below b1); have X1 := Lib.hid (H2h.out.below b1); have T1 := Lib.hid (H3h.out.below b1); clear b1)
    | (go_at_call 10; (with_reducible refine (C1h.out _ S1.out X1.out).mono ?_); rintro e w2 ⟨A2, n2, c2, rfl, s2, b2⟩; have B2 := Lib.hid (below_then B1.out b2); have S2 := Lib.hid (S1.out.below b2); have X2 := Lib.hid (X1.out.below b2); have T2 := Lib.hid (T1.out.below b2); have Pa2 := Lib.hid (s2); have mPa := s2.small L1h.out; clear s2 b2)
    | (go_at_call 11; (with_reducible refine (R1h.out _ S2.out X2.out).mono ?_); rintro e w3 ⟨A3, n3, c3, rfl, s3, b3⟩; have B3 := Lib.hid (below_then B2.out b3); have S3 := Lib.hid (S2.out.below b3); have T3 := Lib.hid (T2.out.below b3); have Pa3 := Lib.hid (Pa2.out.below b3); have Pb3 := Lib.hid (s3); have mPb := s3.small L1h.out; clear s3 b3)
    | (go_at_call 12; (with_reducible refine (C2h.out _ S3.out).mono ?_); rintro e w4 ⟨A4, n4, c4, F4, m4, d4, rfl, s4, t4, b4⟩; have B4 := Lib.hid (below_then B3.out b4); have S4 := Lib.hid (S3.out.below b4); have T4 := Lib.hid (T3.out.below b4); have Pa4 := Lib.hid (Pa3.out.below b4); have Pb4 := Lib.hid (Pb3.out.below b4); have Pc4 := Lib.hid (s4); have Pd4 := Lib.hid (t4); have mPc := s4.small L2h.out; have mPd := t4.small L3h.out; clear s4 t4 b4)
    | (go_at_call 13; (with_reducible refine (R2h.out _ S4.out).mono ?_); rintro e w5 ⟨A5, n5, c5, F5, m5, d5, rfl, s5, t5, b5⟩; have B5 := Lib.hid (below_then B4.out b5); have S5 := Lib.hid (S4.out.below b5); have T5 := Lib.hid (T4.out.below b5); have Pa5 := Lib.hid (Pa4.out.below b5); have Pb5 := Lib.hid (Pb4.out.below b5); have Pc5 := Lib.hid (Pc4.out.below b5); have Pd5 := Lib.hid (Pd4.out.below b5); have Pp5 := Lib.hid (s5); have Pq5 := Lib.hid (t5); have mPp := s5.small L2h.out; have mPq := t5.small L3h.out; have D0 := Lib.hid (Drawn.refl w5); clear s5 t5 b5)
    | (go_at_call 14; (with_reducible refine (C3h.out _ S5.out).mono ?_); rintro e w' ⟨rfl, rfl⟩)
    | (go_at_call 15; (with_reducible refine (R3h.out _ S5.out).mono ?_); rintro e w' ⟨rfl, rfl⟩)
    | (go_at_call 17; (with_reducible refine (C4h.out _ S8.out).mono ?_); rintro e w9 ⟨A9, n9, c9, rfl, s9, b9⟩; have B9 := Lib.hid (below_then B8.out b9); have S9 := Lib.hid (S8.out.below b9); have T9 := Lib.hid (T8.out.below b9); have Pr9 := Lib.hid (s9); have mPr := s9.small L4h.out; clear s9 b9)
    | (go_at_call 18; (with_reducible refine (R4h.out _ S9.out).mono ?_); rintro e w10 ⟨A10, n10, c10, rfl, s10, b10⟩; have B10 := Lib.hid (below_then B9.out b10); have S10 := Lib.hid (S9.out.below b10); have T10 := Lib.hid (T9.out.below b10); have Pr10 := Lib.hid (Pr9.out.below b10); have Ps10 := Lib.hid (s10); have mPs := s10.small L4h.out; clear s10 b10)
    | (go_at_call 19; (with_reducible refine (C5h.out _ S10.out T10.out).mono ?_); rintro e w11 ⟨A11, n11, c11, rfl, s11, b11⟩; have B11 := Lib.hid (below_then B10.out b11); have S11 := Lib.hid (S10.out.below b11); have T11 := Lib.hid (T10.out.below b11); have Pr11 := Lib.hid (Pr10.out.below b11); have Ps11 := Lib.hid (Ps10.out.below b11); have Pt11 := Lib.hid (s11); have mPt := s11.small L5h.out; clear s11 b11)
    | (go_at_call 20; (with_reducible refine (R5h.out _ S11.out T11.out).mono ?_); rintro e w12 ⟨A12, n12, c12, rfl, s12, b12⟩; have B12 := Lib.hid (below_then B11.out b12); have Pr12 := Lib.hid (Pr11.out.below b12); have Ps12 := Lib.hid (Ps11.out.below b12); have Pt12 := Lib.hid (Pt11.out.below b12); have Pu12 := Lib.hid (s12); have mPu := s12.small L5h.out; have DD0 := Lib.hid (Drawn.refl w12); clear s12 b12)
    | (go_at_call 16; (with_reducible refine (same_w DD1.out Pt12.out Pu12.out mPt).mono ?_); rintro e w14 ⟨rfl, d14⟩; have DD2 := Lib.hid d14; clear d14)
    | (go_at_call 16; (with_reducible refine (same_w DD0.out Pr12.out Ps12.out mPr).mono ?_); rintro e w13 ⟨rfl, d13⟩; have DD1 := Lib.hid d13; clear d13)
    | (go_at_call 16; (with_reducible refine (same_w D2.out Pd5.out Pq5.out mPd).mono ?_); rintro e w8 ⟨rfl, d8⟩; have D3 := Lib.hid d8; have S8 := Lib.hid (d8.stk S5.out); have T8 := Lib.hid (d8.stk T5.out); have B8 := Lib.hid (d8.below B5.out); clear d8)
    | (go_at_call 16; (with_reducible refine (same_w D1.out Pc5.out Pp5.out mPc).mono ?_); rintro e w7 ⟨rfl, d7⟩; have D2 := Lib.hid d7; clear d7)
    | (go_at_call 16; (with_reducible refine (same_w D0.out Pa5.out Pb5.out mPa).mono ?_); rintro e w6 ⟨rfl, d6⟩; have D1 := Lib.hid d6; clear d6))
  go_ret
  exact ⟨rfl, DD2.out.below B12.out⟩
/-- At lists that are not too long. -/
theorem stkIs_small (most q : Int) (h1 : Stk w A n c l) (h2 : Stk w B m d x) (h3 : Stk w C k f to) (g1 : n ≤ 300) (g2 : m ≤ 100) (g3 : k ≤ 100) :
    Calls Try.prog 3 #[.slice A n c, .int .i64 most, .slice B m d, .int .i64 q, .slice C k f] w fun e w' => e = .returned (.bool true) ∧ Below w.heap.size w w' := by
  have hn : n ≤ 10000 := by omega
  have hm : m ≤ 10000 := by omega
  have hk : k ≤ 10000 := by omega
  refine stkIs_of A n c l B m d x C k f to w most q h1 h2 h3 g1 g2 g3 (pushL l x most) (popL l q) (popX l q) (rollL l q) (permL l q to most) _ _ _ _ _ ?_ ?_ ?_ ?_ ?_
    (fun w s1 s2 => push_any A n c l most B m d x w hn hm s1 s2) (fun w s1 s2 => rpush_any A n c l most B m d x w hn hm s1 s2)
    (fun w s1 => pop_any A n c l q w hn s1) (fun w s1 => rpop_any A n c l q w hn s1)
    (fun w s1 => pick_any A n c l q w hn s1) (fun w s1 => rpick_any A n c l q w hn s1)
    (fun w s1 => roll_any A n c l q w hn s1) (fun w s1 => rroll_any A n c l q w hn s1)
    (fun w s1 s3 => permute_any A n c l q C k f to most w hn hk s1 s3) (fun w s1 s3 => rpermute_any A n c l q C k f to most w hn hk s1 s3)
  · have := pushL_le l x most
    rw [h1.len, h2.len] at this
    omega
  · have := popL_length (l := l) (q := q)
    rw [h1.len] at this
    omega
  · have := popX_le l q
    rw [h1.len] at this
    omega
  · have := rollL_le l q
    rw [h1.len] at this
    omega
  · have := permL_le l q to most
    rw [h1.len, h3.len] at this
    omega
set_option maxRecDepth 100000 in
set_option maxHeartbeats 4000000 in
theorem stkIs_walk (most q : Int) (h1 : Stk w A n c l) (h2 : Stk w B m d x) (h3 : Stk w C k f to) :
    Calls Try.prog 3 #[.slice A n c, .int .i64 most, .slice B m d, .int .i64 q, .slice C k f] w fun e w' => e = .returned (.bool true) ∧ Below w.heap.size w w' := by
  by_cases g1 : n ≤ 300
  · by_cases g2 : m ≤ 100
    · by_cases g3 : k ≤ 100
      · exact stkIs_small A n c l B m d x C k f to w most q h1 h2 h3 g1 g2 g3
      · have d1 : decide ((300 : Int) < (n : Int)) = false := decide_eq_false (by omega)
        have d2 : decide ((100 : Int) < (m : Int)) = false := decide_eq_false (by omega)
        have d3 : decide ((100 : Int) < (k : Int)) = true := decide_eq_true (by omega)
        clear h1 h2 h3
        go_enter Try.func3, Try.ntmps3
        go_wp2_with (go_at_call 9; refine (sawake_any _).mono ?_; rintro e w1 ⟨rfl, b1⟩; have B1 := Lib.hid b1; clear b1)
        go_ret
        exact ⟨rfl, B1.out⟩
    · have d1 : decide ((300 : Int) < (n : Int)) = false := decide_eq_false (by omega)
      have d2 : decide ((100 : Int) < (m : Int)) = true := decide_eq_true (by omega)
      clear h1 h2 h3
      go_enter Try.func3, Try.ntmps3
      go_wp2_with (go_at_call 9; refine (sawake_any _).mono ?_; rintro e w1 ⟨rfl, b1⟩; have B1 := Lib.hid b1; clear b1)
      go_ret
      exact ⟨rfl, B1.out⟩
  · have d1 : decide ((300 : Int) < (n : Int)) = true := decide_eq_true (by omega)
    clear h1 h2 h3
    go_enter Try.func3, Try.ntmps3
    go_wp2_with (go_at_call 9; refine (sawake_any _).mono ?_; rintro e w1 ⟨rfl, b1⟩; have B1 := Lib.hid b1; clear b1)
    go_ret
    exact ⟨rfl, B1.out⟩
end
end Go.Proofs.Ytifpgbjfjbobkaa
