/-
  The walk of NumBad: what is no digit is no number.
-/
import Derived.Test.YthifehekhcmldaaDoorNumAwake
import Derived.Test.YthifehekhcmldaaDoorNumBadMath
import Derived.Test.YthifehekhcmldaaDoorNumCaseWalk
import Derived.Deep.RegionWith
namespace Go.Proofs.YthifehekhcmldaaDoor
open Go.RowKit

theorem u8_beq (a c : UInt8) : (((a.toNat : Nat) : Int) == ((c.toNat : Nat) : Int)) = (a == c) := by
  rw [Bool.eq_iff_iff]; simp only [beq_iff_eq]
  constructor
  · intro h; exact UInt8.toNat_inj.1 (by omega)
  · rintro rfl; rfl
/-- A slice of one byte of its own, as a text. -/
theorem conv1 (a : UInt8) (W : World) : (convert 37 9 (.slice (some ⟨W.heap.size, 0, none⟩) 1 1)).run Tryd.prog (W.alloc (.cells #[.int .u8 (a.toNat : Int)] 5)) =
    .ok (.string ⟨#[a]⟩) (W.alloc (.cells #[.int .u8 (a.toNat : Int)] 5)) :=
  run_convert_bytes_back _ 37 9 5 ⟨W.heap.size, 0, none⟩ 1 [a] Tryd.underlying37 Tryd.underlying5 Tryd.underlying9 (fun j hj => by
    rw [Addr.add_lit]
    simp at hj
    subst hj
    simp [go_sem])
theorem conv1d (a : UInt8) (W : World) : (convert 37 9 (.slice (some ⟨W.heap.size, 0, none⟩) 1 1)).run Tryd.prog (W.alloc (.cells #[.int .u8 (a.toNat : Int)] 5)).drew =
    .ok (.string ⟨#[a]⟩) (W.alloc (.cells #[.int .u8 (a.toNat : Int)] 5)).drew :=
  run_convert_bytes_back _ 37 9 5 ⟨W.heap.size, 0, none⟩ 1 [a] Tryd.underlying37 Tryd.underlying5 Tryd.underlying9 (fun j hj => by
    rw [Addr.add_lit]
    simp at hj
    subst hj
    simp [go_sem])
set_option maxHeartbeats 2000000 in
set_option maxRecDepth 100000 in
theorem numBad_main (n b k : Int) (c : UInt8) (W : World) (hT : Tabs W) (hn : InC n) (hb : baB b = true) (hc : dgB (c.toNat : Int) b = false) (h45 : c ≠ 45) (h46 : c ≠ 46) (h35 : c ≠ 35) (h36 : c ≠ 36) (h37 : c ≠ 37) (h39 : c ≠ 39) :
    Calls Tryd.prog 6 #[.int .i64 n, .int .i64 b, .int .u8 (c.toNat : Int), .int .i64 k] W fun e w' => e = .returned (.bool true) ∧ Keeps W w' := by
  have hb2 := baB_iff.1 hb
  have HT := Lib.hid hT
  have HA := Lib.hid (awake_any W hT)
  obtain ⟨hD, hne, _⟩ := uTx_form (n := n) hb
  have hlen := uTx_len b n
  obtain ⟨m, hm⟩ : ∃ m, (uTx b n).length = m := ⟨_, rfl⟩
  have hm1 : 1 ≤ m := by
    have := List.length_pos_iff.2 hne
    omega
  obtain ⟨t, ht, htm⟩ : ∃ t : Nat, (bits .and .i64 k 65535).tmod ((m : Int) + 1) = (t : Int) ∧ t ≤ m := by
    rw [show bits .and .i64 k 65535 = k % 65536 from bits_and_low 16 (by decide) k, Int.tmod_eq_emod_of_nonneg (by omega)]
    have h1 := Int.emod_nonneg (k % 65536) (show (m : Int) + 1 ≠ 0 by omega)
    have h2 := Int.emod_lt_of_pos (k % 65536) (show (0 : Int) < (m : Int) + 1 by omega)
    exact ⟨(k % 65536 % ((m : Int) + 1)).toNat, by omega, by omega⟩
  obtain ⟨S, hS⟩ : ∃ S : ByteArray, S = ⟨(uTx b n).toArray⟩ := ⟨_, rfl⟩
  have hz : S.size = m := by rw [hS, size_mk, hm]
  obtain ⟨P1, hP1⟩ : ∃ P : ByteArray, P = ⟨((uTx b n).take t).toArray⟩ := ⟨_, rfl⟩
  obtain ⟨P2, hP2⟩ : ∃ P : ByteArray, P = ⟨((uTx b n).drop t).toArray⟩ := ⟨_, rfl⟩
  obtain ⟨C, hC⟩ : ∃ P : ByteArray, P = ⟨#[c]⟩ := ⟨_, rfl⟩
  have x1 : S.extract 0 t = P1 := by rw [hS, ByteArray.extract_mk, hP1]; simp
  have x2 : S.extract t m = P2 := by rw [hS, ByteArray.extract_mk, hP2, ← hm, List.take_of_length_le (by simp)]
  have hPC : (P1 ++ C) ++ P2 = ⟨((uTx b n).take t ++ c :: (uTx b n).drop t).toArray⟩ := by
    rw [hP1, hC, hP2]
    have e := ByteArray.mk_append_mk ((uTx b n).take t) [c]
    have e2 : (⟨#[c]⟩ : ByteArray) = ⟨[c].toArray⟩ := rfl
    rw [e2, e, ByteArray.mk_append_mk]; simp
  have z1 : P1.size ≤ 64 := by rw [hP1, size_mk]; have := List.length_take_le t (uTx b n); omega
  have z2 : P2.size ≤ 64 := by rw [hP2, size_mk]; simp; omega
  have zC : C.size = 1 := by rw [hC]; rfl
  have y1 : ¬ 9223372036854775807 < P1.size + C.size := by omega
  have y2 : ¬ 9223372036854775807 < P1.size + C.size + P2.size := by omega
  have y3 : ¬ 9223372036854775807 < (P1 ++ C).size + P2.size := by rw [ByteArray.size_append]; exact y2
  have v1 := conv1 c
  have v2 := conv1d c
  rw [← hC] at v1 v2
  have HP := Lib.hid (parse_non _ b ((P1 ++ C) ++ P2) hPC (bad_form (by rw [List.take_append_drop]; exact hD) hc h45 h46 h35 h36 h37 h39) (by simp; omega))
  have HN := Lib.hid (parse_non [] b ⟨#[]⟩ rfl (bad_nil b) (by decide))
  have HM := Lib.hid (parse_non [45] b ⟨#[45]⟩ rfl (bad_minus b) (by decide))
  have HO := Lib.hid (parse_non [46] b ⟨#[46]⟩ rfl (bad_point b) (by decide))
  have HK := Lib.hid (parse_non [36] b ⟨#[36]⟩ rfl (bad_mark b) (by decide))
  have HU := Lib.hid (utext_is n b hn S hS)
  have HG := Lib.hid (digit_is (c.toNat : Int) b _ false (dig_no _ _ hc) hc)
  have c45 : ((c.toNat : Int) == 45) = false := (u8_beq c 45).trans (beq_eq_false_iff_ne.2 h45)
  have c46 : ((c.toNat : Int) == 46) = false := (u8_beq c 46).trans (beq_eq_false_iff_ne.2 h46)
  have c35 : ((c.toNat : Int) == 35) = false := (u8_beq c 35).trans (beq_eq_false_iff_ne.2 h35)
  have c36 : ((c.toNat : Int) == 36) = false := (u8_beq c 36).trans (beq_eq_false_iff_ne.2 h36)
  have c37 : ((c.toNat : Int) == 37) = false := (u8_beq c 37).trans (beq_eq_false_iff_ne.2 h37)
  have c39 : ((c.toNat : Int) == 39) = false := (u8_beq c 39).trans (beq_eq_false_iff_ne.2 h39)
  have hm0 : ((m : Int) == 0) = false := by simp; omega
  have hm64 : m ≤ 64 := by omega
  have hc8 : (0 : Int) ≤ (c.toNat : Int) ∧ (c.toNat : Int) ≤ 255 := by have := c.toNat_lt; omega
  clear hT hb hn hD hne hlen hm hS hP1 hP2 hC hPC z1 z2 zC hc h45 h46 h35 h36 h37 h39
  go_enter Tryd.func6, Tryd.ntmps6
  go_wp2_with (first
    | (go_at_call 9; refine HA.out.mono ?_; rintro e w1 ⟨rfl, hk1⟩)
    | (go_at_call 12; refine (HU.out _).mono ?_; rintro e w2 ⟨rfl, hw2⟩; have hk2 := hk1.trans hw2)
    | (go_at_call 14; refine (HG.out _).mono ?_; rintro e w' ⟨rfl, rfl⟩))
  go_region_with (go_at_call 10; refine (HP.out _ (HT.out.keeps ((hk2.alloc _).drew))).mono ?_; rintro e w3 ⟨A3, cp3, rfl, hw3⟩; have hk3 := ((hk2.alloc _).drew).trans hw3)
  all_goals
    clear v1 v2 x1 x2 y1 y2 y3
    go_wp2_with (first
      | (go_at_call 10; have q := hk6; refine (HK.out _ (HT.out.keeps hk6)).mono ?_; rintro e w7 ⟨A7, p7, rfl, hw7⟩; have hk7 := hk6.trans hw7)
      | (go_at_call 10; have q := hk5; refine (HO.out _ (HT.out.keeps hk5)).mono ?_; rintro e w6 ⟨A6, p6, rfl, hw6⟩; have hk6 := hk5.trans hw6)
      | (go_at_call 10; have q := hk4; refine (HM.out _ (HT.out.keeps hk4)).mono ?_; rintro e w5 ⟨A5, p5, rfl, hw5⟩; have hk5 := hk4.trans hw5)
      | (go_at_call 10; refine (HN.out _ (HT.out.keeps hk3)).mono ?_; rintro e w4 ⟨A4, p4, rfl, hw4⟩; have hk4 := hk3.trans hw4))
    go_ret
    exact ⟨rfl, hk7⟩
set_option maxHeartbeats 1000000 in
set_option maxRecDepth 100000 in
/-- A digit. -/
theorem numBad_digit (n b k : Int) (c : UInt8) (W : World) (hT : Tabs W) (hn : InC n) (hb : baB b = true) (hc : dgB (c.toNat : Int) b = true) :
    Calls Tryd.prog 6 #[.int .i64 n, .int .i64 b, .int .u8 (c.toNat : Int), .int .i64 k] W fun e w' => e = .returned (.bool true) ∧ Keeps W w' := by
  have hb2 := baB_iff.1 hb
  have HA := Lib.hid (awake_any W hT)
  obtain ⟨S, hS⟩ : ∃ S : ByteArray, S = ⟨(uTx b n).toArray⟩ := ⟨_, rfl⟩
  have HU := Lib.hid (utext_is n b hn S hS)
  have HG := Lib.hid (digit_is (c.toNat : Int) b _ true rfl hc)
  have hc8 : (0 : Int) ≤ (c.toNat : Int) ∧ (c.toNat : Int) ≤ 255 := by have := c.toNat_lt; omega
  clear hT hb hn hS hc
  go_enter Tryd.func6, Tryd.ntmps6
  go_wp2_with (first
    | (go_at_call 9; refine HA.out.mono ?_; rintro e w1 ⟨rfl, hk1⟩)
    | (go_at_call 12; refine (HU.out _).mono ?_; rintro e w2 ⟨rfl, hw2⟩; have hk2 := hk1.trans hw2)
    | (go_at_call 14; refine (HG.out _).mono ?_; rintro e w' ⟨rfl, rfl⟩))
  go_ret
  exact ⟨rfl, hk2⟩
set_option maxHeartbeats 2000000 in
set_option maxRecDepth 100000 in
/-- A sign that means something else. -/
theorem numBad_other (n b k : Int) (c : UInt8) (W : World) (hT : Tabs W) (hn : InC n) (hb : baB b = true) (hc : dgB (c.toNat : Int) b = false) (h : c = 45 ∨ c = 46 ∨ c = 35 ∨ c = 36 ∨ c = 37 ∨ c = 39) :
    Calls Tryd.prog 6 #[.int .i64 n, .int .i64 b, .int .u8 (c.toNat : Int), .int .i64 k] W fun e w' => e = .returned (.bool true) ∧ Keeps W w' := by
  have hb2 := baB_iff.1 hb
  have HA := Lib.hid (awake_any W hT)
  obtain ⟨_, hne, _⟩ := uTx_form (n := n) hb
  obtain ⟨S, hS⟩ : ∃ S : ByteArray, S = ⟨(uTx b n).toArray⟩ := ⟨_, rfl⟩
  have hz : ((S.size : Int) == 0) = false := by
    rw [hS, size_mk]
    have := List.length_pos_iff.2 hne
    simp; exact hne
  have HU := Lib.hid (utext_is n b hn S hS)
  have HG := Lib.hid (digit_is (c.toNat : Int) b _ false (dig_no _ _ hc) hc)
  clear hT hb hn hS hc hne
  rcases h with rfl | rfl | rfl | rfl | rfl | rfl
  all_goals
    go_enter Tryd.func6, Tryd.ntmps6
    go_wp2_with (first
      | (go_at_call 9; refine HA.out.mono ?_; rintro e w1 ⟨rfl, hk1⟩)
      | (go_at_call 12; refine (HU.out _).mono ?_; rintro e w2 ⟨rfl, hw2⟩; have hk2 := hk1.trans hw2)
      | (go_at_call 14; refine (HG.out _).mono ?_; rintro e w' ⟨rfl, rfl⟩))
    go_ret
    exact ⟨rfl, hk2⟩
theorem numBad_no (n b k : Int) (c : UInt8) (W : World) (hT : Tabs W) (hb : baB b = false) :
    Calls Tryd.prog 6 #[.int .i64 n, .int .i64 b, .int .u8 (c.toNat : Int), .int .i64 k] W fun e w' => e = .returned (.bool true) ∧ Keeps W w' := by
  have HA := Lib.hid (awake_any W hT)
  have hbg : b < 2 ∨ (¬ b < 2 ∧ 36 < b) := by have := baB_no.1 hb; omega
  clear hT hb
  rcases hbg with h1 | ⟨h1, h2⟩
  all_goals
    go_enter Tryd.func6, Tryd.ntmps6
    go_wp2_with (go_at_call 9; refine HA.out.mono ?_; rintro e w1 ⟨rfl, hk1⟩)
    go_ret
    exact ⟨rfl, hk1⟩
theorem numBad_walk (n b k : Int) (c : UInt8) (W : World) (hT : Tabs W) (hn : InC n) :
    Calls Tryd.prog 6 #[.int .i64 n, .int .i64 b, .int .u8 (c.toNat : Int), .int .i64 k] W fun e w' => e = .returned (.bool true) ∧ Keeps W w' := by
  cases hb : baB b with
  | false => exact numBad_no n b k c W hT hb
  | true =>
    cases hc : dgB (c.toNat : Int) b with
    | true => exact numBad_digit n b k c W hT hn hb hc
    | false =>
      by_cases h : c = 45 ∨ c = 46 ∨ c = 35 ∨ c = 36 ∨ c = 37 ∨ c = 39
      · exact numBad_other n b k c W hT hn hb hc h
      · simp only [not_or] at h
        exact numBad_main n b k c W hT hn hb hc h.1 h.2.1 h.2.2.1 h.2.2.2.1 h.2.2.2.2.1 h.2.2.2.2.2
end Go.Proofs.YthifehekhcmldaaDoor
