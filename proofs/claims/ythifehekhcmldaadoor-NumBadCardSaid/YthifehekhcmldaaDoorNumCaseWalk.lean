/-
  The walk of NumCase: small letters are capitals; a byte between two quotes is a number.
-/
import Derived.Test.YthifehekhcmldaaDoorNumAwake
import Derived.Laws.IdiomStrings
namespace Go.Proofs.YthifehekhcmldaaDoor
open Go.RowKit

theorem and31 (x : Int) : bits .and .i64 x 31 = x % 32 := bits_and_low 5 (by decide) x
/-- A slice of three bytes of its own, as a text. -/
theorem conv3 (a b c : UInt8) (W : World) : (convert 37 9 (.slice (some ⟨W.heap.size, 0, none⟩) 3 3)).run Tryd.prog (W.alloc (.cells #[.int .u8 (a.toNat : Int), .int .u8 (b.toNat : Int), .int .u8 (c.toNat : Int)] 5)) =
    .ok (.string ⟨#[a, b, c]⟩) (W.alloc (.cells #[.int .u8 (a.toNat : Int), .int .u8 (b.toNat : Int), .int .u8 (c.toNat : Int)] 5)) :=
  run_convert_bytes_back _ 37 9 5 ⟨W.heap.size, 0, none⟩ 3 [a, b, c] Tryd.underlying37 Tryd.underlying5 Tryd.underlying9 (fun j hj => by
    rw [Addr.add_lit]
    simp at hj
    match j, hj with
    | 0, _ => simp [go_sem]
    | 1, _ => simp [go_sem]
    | 2, _ => simp [go_sem])
theorem qB_q (c : UInt8) : qB [39, c, 39] = true := by unfold qB; simp
theorem dTx_same (b : Int) (S : ByteArray) (h : S = ⟨(dTx b 0).toArray⟩) (w : World) :
    Calls Tryd.prog 13 #[.agg #[.int .i64 0, .int .i64 0], .int .i64 b] w fun e w' => e = .returned (.string S) ∧ Keeps w w' := by
  have h0 := dtext_is 0 b (by unfold InD; omega) S h w
  rw [show dLo 0 = 0 by decide +kernel, show dHi 0 = 0 by decide +kernel] at h0
  exact h0
/-- A letter of either kind. -/
theorem case_dg (x : Nat) (h1 : 1 ≤ x) (h2 : x ≤ 26) : dgV (64 + x) = x + 9 ∧ dgV (96 + x) = x + 9 := by
  constructor
  · unfold dgV; rw [if_neg (by omega), if_pos (by omega)]; omega
  · unfold dgV; rw [if_neg (by omega), if_neg (by omega), if_pos (by omega)]; omega
set_option maxHeartbeats 1000000 in
theorem numCase_walk (c : UInt8) (b : Int) (W : World) (hT : Tabs W) :
    Calls Tryd.prog 8 #[.int .u8 (c.toNat : Int), .int .i64 b] W fun e w' => e = .returned (.bool true) ∧ Keeps W w' := by
  obtain ⟨x, hx⟩ : ∃ x : Nat, c.toNat % 32 = x := ⟨_, rfl⟩
  have hx31 : x ≤ 31 := by omega
  have ha : bits .and .i64 (c.toNat : Int) 31 = (x : Int) := by rw [and31]; omega
  have hc8 : (0 : Int) ≤ (c.toNat : Int) ∧ (c.toNat : Int) ≤ 255 := by have := c.toNat_lt; omega
  clear hx
  obtain ⟨S, hS⟩ : ∃ S : ByteArray, S = ⟨#[39, c, 39]⟩ := ⟨_, rfl⟩
  have hcv := conv3 39 c 39
  rw [← hS] at hcv
  simp only [show ((39 : UInt8).toNat : Int) = 39 from rfl] at hcv
  obtain ⟨Z, hZ⟩ : ∃ Z : ByteArray, Z = ⟨(dTx b 0).toArray⟩ := ⟨_, rfl⟩
  have HZ1 := Lib.hid (dTx_same b Z hZ)
  have HZ2 := Lib.hid (text_is 0 b (by unfold InC; omega) Z hZ)
  obtain ⟨v1, hv1⟩ : ∃ v, dgX (64 + x) b = v := ⟨_, rfl⟩
  obtain ⟨k1, hk1⟩ : ∃ v, dgB (64 + x) b = v := ⟨_, rfl⟩
  obtain ⟨v2, hv2⟩ : ∃ v, dgX (96 + x) b = v := ⟨_, rfl⟩
  obtain ⟨k2, hk2⟩ : ∃ v, dgB (96 + x) b = v := ⟨_, rfl⟩
  have H1 := Lib.hid (digit_is (64 + x) b v1 k1 hv1 hk1)
  have H2 := Lib.hid (digit_is (96 + x) b v2 k2 hv2 hk2)
  have HA := Lib.hid (awake_any W hT)
  have HT := Lib.hid hT
  have HS := Lib.hid hS
  clear hZ hS hT
  cases hb : baB b with
  | false =>
    have hb2 := baB_no.1 hb
    have HP := Lib.hid (parse_non [39, c, 39] b S HS.out (by unfold pB; rw [qB_q]; exact hb) (by simp))
    have hbg : decide (2 ≤ b) = false ∨ (2 ≤ b ∧ decide (b ≤ 36) = false) := by
      by_cases h : 2 ≤ b
      · exact .inr ⟨h, by simp; omega⟩
      · exact .inl (by simpa using h)
    clear hb2
    rcases hbg with hbg | ⟨hbl, hbg⟩
    all_goals
      by_cases h0 : x = 0
      · subst h0
        clear hv1 hk1 hv2 hk2 hb
        go_enter Tryd.func8, Tryd.ntmps8
        go_wp2_with (first
          | (go_at_call 9; refine HA.out.mono ?_; rintro e w1 ⟨rfl, hw1⟩)
          | (go_at_call 14; have hd2 := hd1; refine (H2.out _).mono ?_; rintro e w' ⟨rfl, rfl⟩)
          | (go_at_call 14; refine (H1.out _).mono ?_; rintro e w' ⟨rfl, rfl⟩; have hd1 := trivial)
          | (go_at_call 10; refine (HP.out _ (HT.out.keeps (hw1.alloc _))).mono ?_; rintro e w2 ⟨A0, cp, rfl, hw2⟩)
          | (go_at_call 13; refine (HZ1.out _).mono ?_; rintro e w3 ⟨rfl, hw3⟩)
          | (go_at_call 11; refine (HZ2.out _).mono ?_; rintro e w4 ⟨rfl, hw4⟩))
        go_ret
        exact ⟨rfl, (((hw1.alloc _).trans hw2).trans hw3).trans hw4⟩
      · by_cases h26 : 26 < x
        · clear hv1 hk1 hv2 hk2 hb
          have hx0 : ((x : Int) == 0) = false := by simp; omega
          clear h0
          go_enter Tryd.func8, Tryd.ntmps8
          go_wp2_with (first
            | (go_at_call 9; refine HA.out.mono ?_; rintro e w1 ⟨rfl, hw1⟩)
            | (go_at_call 14; have hd2 := hd1; refine (H2.out _).mono ?_; rintro e w' ⟨rfl, rfl⟩)
            | (go_at_call 14; refine (H1.out _).mono ?_; rintro e w' ⟨rfl, rfl⟩; have hd1 := trivial)
            | (go_at_call 10; refine (HP.out _ (HT.out.keeps (hw1.alloc _))).mono ?_; rintro e w2 ⟨A0, cp, rfl, hw2⟩)
            | (go_at_call 13; refine (HZ1.out _).mono ?_; rintro e w3 ⟨rfl, hw3⟩)
            | (go_at_call 11; refine (HZ2.out _).mono ?_; rintro e w4 ⟨rfl, hw4⟩))
          go_ret
          exact ⟨rfl, (((hw1.alloc _).trans hw2).trans hw3).trans hw4⟩
        · have hdg := case_dg x (by omega) (by omega)
          have hx0 : ((x : Int) == 0) = false := by simp; omega
          have ek1 : k1 = false := by rw [← hk1]; unfold dgB; rw [hb]; rfl
          have ek2 : k2 = false := by rw [← hk2]; unfold dgB; rw [hb]; rfl
          have ev1 : v1 = 0 := by rw [← hv1, dig_no _ _ (hk1.trans ek1)]
          have ev2 : v2 = 0 := by rw [← hv2, dig_no _ _ (hk2.trans ek2)]
          subst ek1; subst ek2; subst ev1; subst ev2
          clear hv1 hk1 hv2 hk2 hb hdg h0
          go_enter Tryd.func8, Tryd.ntmps8
          go_wp2_with (first
            | (go_at_call 9; refine HA.out.mono ?_; rintro e w1 ⟨rfl, hw1⟩)
            | (go_at_call 14; have hd2 := hd1; refine (H2.out _).mono ?_; rintro e w' ⟨rfl, rfl⟩)
            | (go_at_call 14; refine (H1.out _).mono ?_; rintro e w' ⟨rfl, rfl⟩; have hd1 := trivial)
            | (go_at_call 10; refine (HP.out _ (HT.out.keeps (hw1.alloc _))).mono ?_; rintro e w2 ⟨A0, cp, rfl, hw2⟩)
            | (go_at_call 13; refine (HZ1.out _).mono ?_; rintro e w3 ⟨rfl, hw3⟩)
            | (go_at_call 11; refine (HZ2.out _).mono ?_; rintro e w4 ⟨rfl, hw4⟩))
          go_ret
          exact ⟨rfl, (((hw1.alloc _).trans hw2).trans hw3).trans hw4⟩
  | true =>
    have hb2 := baB_iff.1 hb
    have HP := Lib.hid (parse_one [39, c, 39] b (c.toNat : Int) S HS.out (by unfold pB; rw [qB_q]; exact hb) (by unfold pL; rw [qB_q, hb]; rfl) (by simp))
    by_cases h0 : x = 0
    · subst h0
      clear hv1 hk1 hv2 hk2 hb
      go_enter Tryd.func8, Tryd.ntmps8
      go_wp2_with (first
        | (go_at_call 9; refine HA.out.mono ?_; rintro e w1 ⟨rfl, hw1⟩)
        | (go_at_call 14; have hd2 := hd1; refine (H2.out _).mono ?_; rintro e w' ⟨rfl, rfl⟩)
        | (go_at_call 14; refine (H1.out _).mono ?_; rintro e w' ⟨rfl, rfl⟩; have hd1 := trivial)
        | (go_at_call 10; refine (HP.out _ (HT.out.keeps (hw1.alloc _))).mono ?_; rintro e w2 ⟨N, o, cp, rfl, hN, c0, hw2⟩)
        | (go_at_call 13; refine (HZ1.out _).mono ?_; rintro e w3 ⟨rfl, hw3⟩)
        | (go_at_call 11; refine (HZ2.out _).mono ?_; rintro e w4 ⟨rfl, hw4⟩))
      go_ret
      exact ⟨rfl, (((hw1.alloc _).trans hw2).trans hw3).trans hw4⟩
    · by_cases h26 : 26 < x
      · clear hv1 hk1 hv2 hk2 hb
        have hx0 : ((x : Int) == 0) = false := by simp; omega
        clear h0
        go_enter Tryd.func8, Tryd.ntmps8
        go_wp2_with (first
          | (go_at_call 9; refine HA.out.mono ?_; rintro e w1 ⟨rfl, hw1⟩)
          | (go_at_call 14; have hd2 := hd1; refine (H2.out _).mono ?_; rintro e w' ⟨rfl, rfl⟩)
          | (go_at_call 14; refine (H1.out _).mono ?_; rintro e w' ⟨rfl, rfl⟩; have hd1 := trivial)
          | (go_at_call 10; refine (HP.out _ (HT.out.keeps (hw1.alloc _))).mono ?_; rintro e w2 ⟨N, o, cp, rfl, hN, c0, hw2⟩)
          | (go_at_call 13; refine (HZ1.out _).mono ?_; rintro e w3 ⟨rfl, hw3⟩)
          | (go_at_call 11; refine (HZ2.out _).mono ?_; rintro e w4 ⟨rfl, hw4⟩))
        go_ret
        exact ⟨rfl, (((hw1.alloc _).trans hw2).trans hw3).trans hw4⟩
      · have hdg := case_dg x (by omega) (by omega)
        have hx0 : ((x : Int) == 0) = false := by simp; omega
        by_cases hlt : (x : Int) + 9 < b
        · have ek1 : k1 = true := by rw [← hk1]; unfold dgB; rw [hb, hdg.1]; simp; omega
          have ek2 : k2 = true := by rw [← hk2]; unfold dgB; rw [hb, hdg.2]; simp; omega
          have ev1 : v1 = x + 9 := by rw [← hv1, dig_yes _ _ (hk1.trans ek1), hdg.1]
          have ev2 : v2 = x + 9 := by rw [← hv2, dig_yes _ _ (hk2.trans ek2), hdg.2]
          subst ek1; subst ek2; subst ev1; subst ev2
          clear hv1 hk1 hv2 hk2 hb hdg h0
          go_enter Tryd.func8, Tryd.ntmps8
          go_wp2_with (first
            | (go_at_call 9; refine HA.out.mono ?_; rintro e w1 ⟨rfl, hw1⟩)
            | (go_at_call 14; have hd2 := hd1; refine (H2.out _).mono ?_; rintro e w' ⟨rfl, rfl⟩)
            | (go_at_call 14; refine (H1.out _).mono ?_; rintro e w' ⟨rfl, rfl⟩; have hd1 := trivial)
            | (go_at_call 10; refine (HP.out _ (HT.out.keeps (hw1.alloc _))).mono ?_; rintro e w2 ⟨N, o, cp, rfl, hN, c0, hw2⟩)
            | (go_at_call 13; refine (HZ1.out _).mono ?_; rintro e w3 ⟨rfl, hw3⟩)
            | (go_at_call 11; refine (HZ2.out _).mono ?_; rintro e w4 ⟨rfl, hw4⟩))
          go_ret
          exact ⟨rfl, (((hw1.alloc _).trans hw2).trans hw3).trans hw4⟩
        · have ek1 : k1 = false := by rw [← hk1]; unfold dgB; rw [hb, hdg.1]; simp; omega
          have ek2 : k2 = false := by rw [← hk2]; unfold dgB; rw [hb, hdg.2]; simp; omega
          have ev1 : v1 = 0 := by rw [← hv1, dig_no _ _ (hk1.trans ek1)]
          have ev2 : v2 = 0 := by rw [← hv2, dig_no _ _ (hk2.trans ek2)]
          have hd9 : decide ((x : Int) + 9 < b) = false := by simpa using hlt
          subst ek1; subst ek2; subst ev1; subst ev2
          clear hv1 hk1 hv2 hk2 hb hdg h0
          go_enter Tryd.func8, Tryd.ntmps8
          go_wp2_with (first
            | (go_at_call 9; refine HA.out.mono ?_; rintro e w1 ⟨rfl, hw1⟩)
            | (go_at_call 14; have hd2 := hd1; refine (H2.out _).mono ?_; rintro e w' ⟨rfl, rfl⟩)
            | (go_at_call 14; refine (H1.out _).mono ?_; rintro e w' ⟨rfl, rfl⟩; have hd1 := trivial)
            | (go_at_call 10; refine (HP.out _ (HT.out.keeps (hw1.alloc _))).mono ?_; rintro e w2 ⟨N, o, cp, rfl, hN, c0, hw2⟩)
            | (go_at_call 13; refine (HZ1.out _).mono ?_; rintro e w3 ⟨rfl, hw3⟩)
            | (go_at_call 11; refine (HZ2.out _).mono ?_; rintro e w4 ⟨rfl, hw4⟩))
          go_ret
          exact ⟨rfl, (((hw1.alloc _).trans hw2).trans hw3).trans hw4⟩
end Go.Proofs.YthifehekhcmldaaDoor
