/-
  The call of the statement MemRows answers true at every memory, places and numbers; of what was there nothing has changed.
-/
import Derived.Test.YtkdpefkllchadaaMemAwake
namespace Go.Proofs.Ytkdpefkllchadaa
open Go.RowKit

theorem move_as (A : Option Addr) (n c : Nat) (l : List UInt8) (w : World) (a b d : Int) (f t k : Nat) (l' : List UInt8) (ha : a = (f : Int)) (hb : b = (t : Int)) (hd : d = (k : Int)) (hl : splice l t (mT l f k) = l') (hn : n ≤ 1000000) (hm : Mem w A n c l) (hf : f + k ≤ n) (ht : t + k ≤ n) :
    Calls Try.prog 9 #[.slice A n c, .int .i64 a, .int .i64 b, .int .i64 d] w (PutPost w n l') := by
  subst ha hb hd hl
  exact move_yes A n c l w f t k hn hm hf ht
theorem text_is (A : Option Addr) (n c : Nat) (l : List UInt8) (w : World) (i k : Nat) (l' : List UInt8) (hl : mT l i k = l') (hn : n ≤ 1000000) (hm : Mem w A n c l) (hi : i + k ≤ n) :
    Calls Try.prog 10 #[.slice A n c, .int .i64 (i : Int), .int .i64 (k : Int)] w fun e w' => e = .returned (.tuple #[.string ⟨l'.toArray⟩, .int .i64 0]) ∧ w = w' := by
  subst hl
  exact text_yes A n c l w i k hn hm hi
section
variable (A : Option Addr) (n c : Nat) (l : List UInt8) (w : World)
set_option maxRecDepth 100000 in
set_option maxHeartbeats 1000000 in
/-- The places overlap. -/
theorem memRows_over (f t k : Nat) (q : Int) (h2 : n ≤ 2000) (hm : Mem w A n c l) (hf : f + k ≤ n) (ht : t + k ≤ n) (ho : (f < t ∧ t < f + k) ∨ (t ≤ f ∧ f < t + k)) :
    Calls Try.prog 7 #[.slice A n c, .int .i64 (f : Int), .int .i64 (t : Int), .int .i64 (k : Int), .int .i64 q] w fun e w' => e = .returned (.bool true) ∧ Below w.heap.size w w' := by
  have hn : n ≤ 1000000 := by omega
  have hd : decide ((2000 : Int) < (n : Int)) = false := decide_eq_false (by omega)
  have HM := Lib.hid hm
  have HF := Lib.hid hf
  have HT := Lib.hid ht
  clear hm
  rcases ho with ⟨ho, ho'⟩ | ⟨ho, ho'⟩
  · have d1 : decide (f < t) = true := decide_eq_true ho
    have d2 : decide ((t : Int) - (f : Int) < (k : Int)) = true := decide_eq_true (by omega)
    go_enter Try.func7, Try.ntmps7
    go_wp2_with (first
      | (go_at_call 8; refine (mawake_any _).mono ?_; rintro e w1 ⟨rfl, hb1⟩; have HB1 := Lib.hid hb1; have HM1 := Lib.hid (HM.out.below hb1); clear hb1)
      | (go_at_call 9; (with_reducible refine (move_yes _ _ _ _ _ f t k hn HM1.out HF.out HT.out).mono ?_); rintro e w2 ⟨A2, c2, rfl, hm2, hb2⟩; have H2 := Lib.hid hm2; have HB2 := Lib.hid (below_then HB1.out hb2); have HM2 := Lib.hid (HM1.out.below hb2); clear hm2 hb2))
    go_ret
    exact ⟨rfl, HB2.out⟩
  · have d1 : decide (f < t) = false := decide_eq_false (by omega)
    have d3 : decide (t ≤ f) = true := decide_eq_true ho
    have d2 : decide ((f : Int) - (t : Int) < (k : Int)) = true := decide_eq_true (by omega)
    go_enter Try.func7, Try.ntmps7
    go_wp2_with (first
      | (go_at_call 8; refine (mawake_any _).mono ?_; rintro e w1 ⟨rfl, hb1⟩; have HB1 := Lib.hid hb1; have HM1 := Lib.hid (HM.out.below hb1); clear hb1)
      | (go_at_call 9; (with_reducible refine (move_yes _ _ _ _ _ f t k hn HM1.out HF.out HT.out).mono ?_); rintro e w2 ⟨A2, c2, rfl, hm2, hb2⟩; have H2 := Lib.hid hm2; have HB2 := Lib.hid (below_then HB1.out hb2); have HM2 := Lib.hid (HM1.out.below hb2); clear hm2 hb2))
    go_ret
    exact ⟨rfl, HB2.out⟩
set_option maxRecDepth 100000 in
set_option maxHeartbeats 2000000 in
/-- The places lie apart. -/
theorem memRows_apart (f t k : Nat) (q : Int) (h2 : n ≤ 2000) (hm : Mem w A n c l) (hf : f + k ≤ n) (ht : t + k ≤ n) (ho : f + k ≤ t ∨ t + k ≤ f) (hlt : f < t ∨ t ≤ f) :
    Calls Try.prog 7 #[.slice A n c, .int .i64 (f : Int), .int .i64 (t : Int), .int .i64 (k : Int), .int .i64 q] w fun e w' => e = .returned (.bool true) ∧ Below w.heap.size w w' := by
  have hn : n ≤ 1000000 := by omega
  have hd : decide ((2000 : Int) < (n : Int)) = false := decide_eq_false (by omega)
  have HM := Lib.hid hm
  have HF := Lib.hid hf
  have HT := Lib.hid ht
  have hlen := hm.1
  obtain ⟨m, hmod, hmk⟩ : ∃ m : Nat, (bits .and .i64 q 65535).tmod ((k : Int) + 1) = (m : Int) ∧ m ≤ k := by
    rw [and65535, Int.tmod_eq_emod_of_nonneg (by omega)]
    have h0 := Int.emod_nonneg (q % 65536) (b := (k : Int) + 1) (by omega)
    have h1 := Int.emod_lt_of_pos (q % 65536) (b := (k : Int) + 1) (by omega)
    exact ⟨(q % 65536 % ((k : Int) + 1)).toNat, by omega, by omega⟩
  have HP := Lib.hid (move_parts l f t m k hmk (by omega) (by omega) ho)
  have hr : (List.replicate k (b8 q)).length = k := by simp
  obtain ⟨L5, hL5⟩ : ∃ L5, splice l f (List.replicate k (b8 q)) = L5 := ⟨_, rfl⟩
  have hl5 : L5.length = n := by rw [← hL5, length_splice _ _ _ (by omega)]; exact hlen
  have HS1 : Hid (mT (splice (splice l f (List.replicate k (b8 q))) t (mT (splice l f (List.replicate k (b8 q))) f k)) t k = mT L5 f k) := by
    rw [hL5]
    exact mT_splice _ _ _ _ (mT_length _ _ _ (by omega)) (by omega)
  have HS2 : Hid (mT (splice (splice l f (List.replicate k (b8 q))) t (mT (splice l f (List.replicate k (b8 q))) f k)) f k = mT L5 f k) := by
    rw [hL5]
    have h5 := mT_length L5 f k (by omega)
    exact mT_apart _ _ _ _ _ (by omega) (by omega)
  have HF1 : Hid (f + m + (k - m) ≤ n) := show _ ≤ _ by omega
  have HT1 : Hid (t + m + (k - m) ≤ n) := show _ ≤ _ by omega
  have HF2 : Hid (f + m ≤ n) := show _ ≤ _ by omega
  have HT2 : Hid (t + m ≤ n) := show _ ≤ _ by omega
  have HP1 : Hid ((f : Int) + (m : Int) = ((f + m : Nat) : Int)) := show _ = _ by omega
  have HP2 : Hid ((t : Int) + (m : Int) = ((t + m : Nat) : Int)) := show _ = _ by omega
  have HP3 : Hid ((k : Int) - (m : Int) = ((k - m : Nat) : Int)) := show _ = _ by omega
  clear hm hL5 hl5 hr
  rcases hlt with h1 | h1
  · have d1 : decide (f < t) = true := decide_eq_true h1
    have d2 : decide ((t : Int) - (f : Int) < (k : Int)) = false := decide_eq_false (by omega)
    have d3 : decide (t ≤ f) = false := decide_eq_false (by omega)
    clear ho
    go_enter Try.func7, Try.ntmps7
    go_wp2_with (first
      | (go_at_call 8; refine (mawake_any _).mono ?_; rintro e w1 ⟨rfl, hb1⟩; have HB1 := Lib.hid hb1; have HM1 := Lib.hid (HM.out.below hb1); clear hb1)
      | (go_at_call 9; (with_reducible refine (move_as _ _ _ _ _ _ _ _ f t k _ rfl rfl rfl rfl hn H5.out HF.out HT.out).mono ?_); rintro e w6 ⟨A6, c6, rfl, hm6, hb6⟩; have H6 := Lib.hid hm6; have HB6 := Lib.hid (below_then HB5.out hb6); have hs1 := ((H4.out.below HX5.out).below hb6).str; have hs2 := (((((H2.out.below HX3.out).below HX4.out).below HX5.out).below hb6)).str; clear hm6 hb6)
      | (go_at_call 9; (with_reducible refine (move_as _ _ _ _ _ _ _ _ (f + m) (t + m) (k - m) _ HP1.out HP2.out HP3.out HP.out hn H3.out HF1.out HT1.out).mono ?_); rintro e w4 ⟨A4, c4, rfl, hm4, hb4⟩; have H4 := Lib.hid hm4; have HB4 := Lib.hid (below_then HB3.out hb4); have HM4 := Lib.hid (HM3.out.below hb4); have HX4 := Lib.hid hb4; clear hm4 hb4)
      | (go_at_call 9; (with_reducible refine (move_as _ _ _ _ _ _ _ _ f t m _ rfl rfl rfl rfl hn HM2.out HF2.out HT2.out).mono ?_); rintro e w3 ⟨A3, c3, rfl, hm3, hb3⟩; have H3 := Lib.hid hm3; have HB3 := Lib.hid (below_then HB2.out hb3); have HM3 := Lib.hid (HM2.out.below hb3); have HX3 := Lib.hid hb3; clear hm3 hb3)
      | (go_at_call 9; (with_reducible refine (move_yes _ _ _ _ _ f t k hn HM1.out HF.out HT.out).mono ?_); rintro e w2 ⟨A2, c2, rfl, hm2, hb2⟩; have H2 := Lib.hid hm2; have HB2 := Lib.hid (below_then HB1.out hb2); have HM2 := Lib.hid (HM1.out.below hb2); clear hm2 hb2)
      | (go_at_call 11; (with_reducible refine (fill_yes _ _ _ _ _ f k _ hn HM4.out HF.out).mono ?_); rintro e w5 ⟨A5, c5, rfl, hm5, hb5⟩; have H5 := Lib.hid hm5; have HB5 := Lib.hid (below_then HB4.out hb5); have HX5 := Lib.hid hb5; clear hm5 hb5)
      | (go_at_call 10; (with_reducible refine (text_is _ _ _ _ _ t k _ HS1.out hn H6.out HT.out).mono ?_); rintro e w' ⟨rfl, rfl⟩)
      | (go_at_call 10; (with_reducible refine (text_is _ _ _ _ _ f k _ HS2.out hn H6.out HF.out).mono ?_); rintro e w' ⟨rfl, rfl⟩))
    go_ret
    exact ⟨rfl, HB6.out⟩
  · have d1 : decide (f < t) = false := decide_eq_false (by omega)
    have d3 : decide (t ≤ f) = true := decide_eq_true h1
    have d2 : decide ((f : Int) - (t : Int) < (k : Int)) = false := decide_eq_false (by omega)
    clear ho
    go_enter Try.func7, Try.ntmps7
    go_wp2_with (first
      | (go_at_call 8; refine (mawake_any _).mono ?_; rintro e w1 ⟨rfl, hb1⟩; have HB1 := Lib.hid hb1; have HM1 := Lib.hid (HM.out.below hb1); clear hb1)
      | (go_at_call 9; (with_reducible refine (move_as _ _ _ _ _ _ _ _ f t k _ rfl rfl rfl rfl hn H5.out HF.out HT.out).mono ?_); rintro e w6 ⟨A6, c6, rfl, hm6, hb6⟩; have H6 := Lib.hid hm6; have HB6 := Lib.hid (below_then HB5.out hb6); have hs1 := ((H4.out.below HX5.out).below hb6).str; have hs2 := (((((H2.out.below HX3.out).below HX4.out).below HX5.out).below hb6)).str; clear hm6 hb6)
      | (go_at_call 9; (with_reducible refine (move_as _ _ _ _ _ _ _ _ (f + m) (t + m) (k - m) _ HP1.out HP2.out HP3.out HP.out hn H3.out HF1.out HT1.out).mono ?_); rintro e w4 ⟨A4, c4, rfl, hm4, hb4⟩; have H4 := Lib.hid hm4; have HB4 := Lib.hid (below_then HB3.out hb4); have HM4 := Lib.hid (HM3.out.below hb4); have HX4 := Lib.hid hb4; clear hm4 hb4)
      | (go_at_call 9; (with_reducible refine (move_as _ _ _ _ _ _ _ _ f t m _ rfl rfl rfl rfl hn HM2.out HF2.out HT2.out).mono ?_); rintro e w3 ⟨A3, c3, rfl, hm3, hb3⟩; have H3 := Lib.hid hm3; have HB3 := Lib.hid (below_then HB2.out hb3); have HM3 := Lib.hid (HM2.out.below hb3); have HX3 := Lib.hid hb3; clear hm3 hb3)
      | (go_at_call 9; (with_reducible refine (move_yes _ _ _ _ _ f t k hn HM1.out HF.out HT.out).mono ?_); rintro e w2 ⟨A2, c2, rfl, hm2, hb2⟩; have H2 := Lib.hid hm2; have HB2 := Lib.hid (below_then HB1.out hb2); have HM2 := Lib.hid (HM1.out.below hb2); clear hm2 hb2)
      | (go_at_call 11; (with_reducible refine (fill_yes _ _ _ _ _ f k _ hn HM4.out HF.out).mono ?_); rintro e w5 ⟨A5, c5, rfl, hm5, hb5⟩; have H5 := Lib.hid hm5; have HB5 := Lib.hid (below_then HB4.out hb5); have HX5 := Lib.hid hb5; clear hm5 hb5)
      | (go_at_call 10; (with_reducible refine (text_is _ _ _ _ _ t k _ HS1.out hn H6.out HT.out).mono ?_); rintro e w' ⟨rfl, rfl⟩)
      | (go_at_call 10; (with_reducible refine (text_is _ _ _ _ _ f k _ HS2.out hn H6.out HF.out).mono ?_); rintro e w' ⟨rfl, rfl⟩))
    go_ret
    exact ⟨rfl, HB6.out⟩
set_option maxHeartbeats 1000000 in
theorem memRows_walk (f t k q : Int) (hm : Mem w A n c l) (hf : InC f) (ht : InC t) :
    Calls Try.prog 7 #[.slice A n c, .int .i64 f, .int .i64 t, .int .i64 k, .int .i64 q] w fun e w' => e = .returned (.bool true) ∧ Below w.heap.size w w' := by
  by_cases h2 : n ≤ 2000
  · cases h : thB n f k && thB n t k
    · have hn : n ≤ 1000000 := by omega
      have hd : decide ((2000 : Int) < (n : Int)) = false := decide_eq_false (by omega)
      have HM := Lib.hid hm
      have HH := Lib.hid h
      clear hm h
      go_enter Try.func7, Try.ntmps7
      go_wp2_with (first
        | (go_at_call 8; refine (mawake_any _).mono ?_; rintro e w1 ⟨rfl, hb1⟩; have HB1 := Lib.hid hb1; have HM1 := Lib.hid (HM.out.below hb1); clear hb1)
        | (go_at_call 9; refine (move_no _ _ _ _ _ _ _ hn hf ht HH.out).mono ?_; rintro e w' ⟨rfl, rfl⟩))
      go_ret
      exact ⟨rfl, HB1.out⟩
    · have h' : thB n f k = true ∧ thB n t k = true := by simpa using h
      obtain ⟨i, m, rfl, rfl, hL⟩ := thB_yes h'.1
      obtain ⟨j, m', rfl, hm', hL'⟩ := thB_yes h'.2
      obtain rfl : m = m' := by omega
      by_cases ho : (i < j ∧ j < i + m) ∨ (j ≤ i ∧ i < j + m)
      · exact memRows_over A n c l w i j m q h2 hm hL hL' ho
      · exact memRows_apart A n c l w i j m q h2 hm hL hL' (by omega) (by omega)
  · have hd : decide ((2000 : Int) < (n : Int)) = true := decide_eq_true (by omega)
    clear hm
    go_enter Try.func7, Try.ntmps7
    go_wp2_with (go_at_call 8; refine (mawake_any _).mono ?_; rintro e w1 ⟨rfl, hb1⟩; have HB1 := Lib.hid hb1; clear hb1)
    go_ret
    exact ⟨rfl, HB1.out⟩
end
end Go.Proofs.Ytkdpefkllchadaa
