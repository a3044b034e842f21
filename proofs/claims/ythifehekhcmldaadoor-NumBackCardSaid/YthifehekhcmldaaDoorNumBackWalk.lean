/-
  The walk of NumBack: what is told is parsed to the same.
-/
import Derived.Test.YthifehekhcmldaaDoorNumAwake
import Derived.Test.YthifehekhcmldaaDoorNumForms
import Derived.Deep.QuietTactic
import Derived.BigQuiet
namespace Go.Proofs.YthifehekhcmldaaDoor
open Go.RowKit

set_option maxHeartbeats 1000000 in
set_option maxRecDepth 100000 in
theorem numBack_no (n x b : Int) (W : World) (hT : Tabs W) (hn : InC n) (hx : InD x) (hb : baB b = false) :
    Calls Tryd.prog 3 #[.int .i64 n, .agg #[.int .i64 (dLo x), .int .i64 (dHi x)], .int .i64 b] W fun e w' => e = .returned (.bool true) ∧ Keeps W w' := by
  have hbg : b < 2 ∨ (¬ b < 2 ∧ 36 < b) := by have := baB_no.1 hb; omega
  have HP := Lib.hid (parse_non [49] b ⟨#[49]⟩ rfl (one_none hb) (by decide))
  have HX := Lib.hid (text_is n b hn ⟨#[]⟩ (by rw [dTx_no hb]))
  have HU := Lib.hid (utext_is n b hn ⟨#[]⟩ (by unfold uTx; rw [hb]; rfl))
  have HD := Lib.hid (dtext_is x b hx ⟨#[]⟩ (by rw [dTx_no hb]))
  have HT := Lib.hid hT
  clear hT hb hn hx
  rcases hbg with hbg | ⟨hbl, hbg⟩
  all_goals
    go_enter Tryd.func3, Tryd.ntmps3
    go_wp2_with (first
      | (go_at_call 9; refine (awake_any _ (HT.out.keeps ((Keeps.refl _).alloc _))).mono ?_; rintro e w1 ⟨rfl, hw1⟩; have hk1 := ((Keeps.refl W).alloc _).trans hw1)
      | (go_at_call 10; refine (HP.out _ (HT.out.keeps hk1)).mono ?_; rintro e w2 ⟨A0, cp, rfl, hw2⟩)
      | (go_at_call 11; refine (HX.out _).mono ?_; rintro e w3 ⟨rfl, hw3⟩)
      | (go_at_call 12; refine (HU.out _).mono ?_; rintro e w4 ⟨rfl, hw4⟩; have hk4 := ((hw1.trans hw2).trans hw3).trans hw4; have c0 := hk4.cell_some (b := W.heap.size) (o := 0) (by simp) (by simp [go_sem]; rfl); have c1 := hk4.cell_some (b := W.heap.size) (o := 1) (by simp) (by simp [go_sem]; rfl))
      | (go_at_call 13; refine (HD.out _).mono ?_; rintro e w5 ⟨rfl, hw5⟩))
    go_ret
    exact ⟨rfl, (((hk1.trans hw2).trans hw3).trans hw4).trans hw5⟩
set_option maxHeartbeats 2000000 in
set_option maxRecDepth 100000 in
theorem numBack_yes (n x b : Int) (W : World) (hT : Tabs W) (hn : InC n) (hx : InD x) (hb : baB b = true) :
    Calls Tryd.prog 3 #[.int .i64 n, .agg #[.int .i64 (dLo x), .int .i64 (dHi x)], .int .i64 b] W fun e w' => e = .returned (.bool true) ∧ Keeps W w' := by
  have hb2 := baB_iff.1 hb
  have hd3 := dTx_len b x hx
  have hd1 := dTx_len b n (inD_cell hn)
  have hd2 := uTx_len b n
  obtain ⟨S1, h1⟩ : ∃ S : ByteArray, S = ⟨(dTx b n).toArray⟩ := ⟨_, rfl⟩
  obtain ⟨S2, h2⟩ : ∃ S : ByteArray, S = ⟨(uTx b n).toArray⟩ := ⟨_, rfl⟩
  obtain ⟨S3, h3⟩ : ∃ S : ByteArray, S = ⟨(dTx b x).toArray⟩ := ⟨_, rfl⟩
  have h4 : S3 ++ ⟨#[46]⟩ = ⟨(dTx b x ++ [46]).toArray⟩ := by rw [h3]; exact ByteArray.mk_append_mk _ [46]
  have hsz : ¬ 9223372036854775807 < S3.size + (⟨#[46]⟩ : ByteArray).size := by rw [h3, size_mk]; simp [ByteArray.size]; omega
  have HX := Lib.hid (text_is n b hn S1 h1)
  have HU := Lib.hid (utext_is n b hn S2 h2)
  have HD := Lib.hid (dtext_is x b hx S3 h3)
  have HP1 := Lib.hid (parse_one _ b n S1 h1 (back_n hb hn).1 (back_n hb hn).2 (by omega))
  have HP2 := Lib.hid (parse_one _ b n S2 h2 (back_u hb hn).1 (back_u hb hn).2 (by omega))
  have HP3 := Lib.hid (parse_two _ b (dLo x) (dHi x) (S3 ++ ⟨#[46]⟩) h4 (back_d hb).1 (back_d hb).2 (by simp; omega))
  obtain ⟨lo, hlo⟩ : ∃ v, dLo x = v := ⟨_, rfl⟩
  obtain ⟨hi, hhi⟩ : ∃ v, dHi x = v := ⟨_, rfl⟩
  rw [hlo, hhi] at HP3 HD
  rw [hlo, hhi]
  have HT := Lib.hid hT
  clear hT hb hn hx h1 h2 h3 h4 hd1 hd2 hd3 hlo hhi
  go_enter Tryd.func3, Tryd.ntmps3
  go_wp2_with (first
    | (go_at_call 9; refine (awake_any _ (HT.out.keeps ((Keeps.refl _).alloc _))).mono ?_; rintro e w1 ⟨rfl, hw1⟩; have hk1 := ((Keeps.refl W).alloc _).trans hw1)
    | (go_at_call 11; refine (HX.out _).mono ?_; rintro e w2 ⟨rfl, hw2⟩)
    | (go_at_call 12; refine (HU.out _).mono ?_; rintro e w4 ⟨rfl, hw4⟩; have hk4 := ((hw1.trans hw2).trans hw3).trans hw4)
    | (go_at_call 13; refine (HD.out _).mono ?_; rintro e w6 ⟨rfl, hw6⟩)
    | (go_at_call 10; have hk6 := hw6; refine (HP3.out _ (HT.out.keeps ((((hk1.trans hw2).trans hw3).trans hw4).trans (hw5.trans hw6)))).mono ?_; rintro e w7 ⟨N3, o3, p3, rfl, hN3, c30, c31, hw7⟩)
    | (go_at_call 10; have hk5 := hw4; refine (HP2.out _ (HT.out.keeps (((hk1.trans hw2).trans hw3).trans hw4))).mono ?_; rintro e w5 ⟨N2, o2, p2, rfl, hN2, c2, hw5⟩; have hk5 := hk4.trans hw5; have c0 := hk5.cell_some (b := W.heap.size) (o := 0) (by simp) (by simp [go_sem]; rfl); have c1 := hk5.cell_some (b := W.heap.size) (o := 1) (by simp) (by simp [go_sem]; rfl))
    | (go_at_call 10; refine (HP1.out _ (HT.out.keeps (hk1.trans hw2))).mono ?_; rintro e w3 ⟨N1, o1, p1, rfl, hN1, c1', hw3⟩))
  have g1 : w7.cell? ⟨N1, o1, none⟩ = some (.int .i64 n) := (((hw4.trans hw5).trans hw6).trans hw7).cell_some hN1 c1'
  have g2 : w7.cell? ⟨N2, o2, none⟩ = some (.int .i64 n) := (hw6.trans hw7).cell_some hN2 c2
  have g30 : w7.cell? ⟨W.heap.size, 0, none⟩ = some (.int .i64 lo) := ((hk5.trans hw6).trans hw7).cell_some (b := W.heap.size) (o := 0) (by simp) (by simp [go_sem])
  have g31 : w7.cell? ⟨W.heap.size, 1, none⟩ = some (.int .i64 hi) := ((hk5.trans hw6).trans hw7).cell_some (b := W.heap.size) (o := 1) (by simp) (by simp [go_sem])
  have hk7 := (((((hk1.trans hw2).trans hw3).trans hw4).trans hw5).trans hw6).trans hw7
  clear c0 c1 c2 c1' hk5 hk4 hw1 hw2 hw3 hw4 hw5 hw6 hw7 hk1 hN1 hN2 hN3
  go_quiet (fail)
  go_wp2
  go_ret
  exact ⟨rfl, hk7.drewN _⟩
theorem numBack_walk (n x b : Int) (W : World) (hT : Tabs W) (hn : InC n) (hx : InD x) :
    Calls Tryd.prog 3 #[.int .i64 n, .agg #[.int .i64 (dLo x), .int .i64 (dHi x)], .int .i64 b] W fun e w' => e = .returned (.bool true) ∧ Keeps W w' := by
  cases hb : baB b with
  | false => exact numBack_no n x b W hT hn hx hb
  | true => exact numBack_yes n x b W hT hn hx hb
end Go.Proofs.YthifehekhcmldaaDoor
