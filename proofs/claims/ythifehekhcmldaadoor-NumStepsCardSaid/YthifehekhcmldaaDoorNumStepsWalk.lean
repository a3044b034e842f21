/-
  The walk of NumSteps: one digit more is the base times as much; a base of its own does not heed the other one.
-/
import Derived.Test.YthifehekhcmldaaDoorNumAwake
import Derived.Test.YthifehekhcmldaaDoorNumForms
namespace Go.Proofs.YthifehekhcmldaaDoor
open Go.RowKit

theorem and16 (x : Int) : bits .and .i64 x 65535 = x % 65536 := bits_and_low 16 (by decide) x
/-- A digit more. -/
theorem more_form {b n : Int} {k : Nat} (hb : baB b = true) (hk : (k : Int) < b) : pB b (uTx b n ++ [sgn k]) = true ∧ pL b (uTx b n ++ [sgn k]) = [wrap64 (wrap64 (n * b) + k)] := by
  have h2 := baB_iff.1 hb
  obtain ⟨h1, _, h3⟩ := uTx_form (n := n) hb
  have hD : dB b (uTx b n ++ [sgn k]) = true := by rw [dB_snoc, h1, dgB_sgn hb hk]; rfl
  have h := parse_plainForm (neg := false) (dot := false) hD (by simp)
  simp only [Bool.false_eq_true, if_false, List.nil_append, List.append_nil] at h
  rw [nV_snoc, h3, dgV_sgn (by omega)] at h
  have e : dLo (n % 18446744073709551616 * b + k) = wrap64 (wrap64 (n * b) + k) := by
    unfold dLo
    apply wrap64_congr
    rw [Int.add_emod, Int.add_emod (wrap64 (n * b))]
    congr 2
    rw [Int.mul_emod, Int.emod_emod, ← Int.mul_emod]
    unfold wrap64; omega
  rw [e] at h
  exact h
/-- The other sign. -/
theorem neg_form {b n : Int} (hb : baB b = true) : pB b (45 :: uTx b n) = true ∧ pL b (45 :: uTx b n) = [wrap64 (-n)] := by
  obtain ⟨h1, h2, h3⟩ := uTx_form (n := n) hb
  have h := parse_plainForm (neg := true) (dot := false) h1 h2
  simp only [if_true, Bool.false_eq_true, if_false, List.append_nil] at h
  rw [h3] at h
  have e : dLo (-(n % 18446744073709551616)) = wrap64 (-n) := by unfold dLo wrap64; omega
  rw [e] at h
  exact h
theorem mark_form {b b1 n : Int} {m : UInt8} (hm : m = 35 ∧ b1 = 10 ∨ m = 36 ∧ b1 = 16 ∨ m = 37 ∧ b1 = 2) (hn : InC n) : pB b (m :: uTx b1 n) = true ∧ pL b (m :: uTx b1 n) = [n] := by
  have hb : baB b1 = true := by rcases hm with ⟨_, rfl⟩ | ⟨_, rfl⟩ | ⟨_, rfl⟩ <;> rfl
  obtain ⟨h1, h2, h3⟩ := uTx_form (n := n) hb
  have h := parse_markForm (b := b) hm h1 h2
  rw [h3, dLo_un n hn] at h
  exact h
theorem add_len (S T : ByteArray) (h : S.size ≤ 1000) (k : T.size ≤ 1000) : ¬ 9223372036854775807 < S.size + T.size := by omega
theorem app_one (c : UInt8) (l : List UInt8) (S : ByteArray) (h : S = ⟨l.toArray⟩) : (⟨#[c]⟩ : ByteArray) ++ S = ⟨(c :: l).toArray⟩ := by rw [h]; exact ByteArray.mk_append_mk [c] l
set_option maxHeartbeats 2000000 in
set_option maxRecDepth 100000 in
theorem numSteps_yes (n v b o : Int) (W : World) (hT : Tabs W) (hn : InC n) (hb : baB b = true) (ho : baB o = true) :
    Calls Tryd.prog 5 #[.int .i64 n, .int .i64 v, .int .i64 b, .int .i64 o] W fun e w' => e = .returned (.bool true) ∧ Keeps W w' := by
  have hb2 := baB_iff.1 hb
  have ho2 := baB_iff.1 ho
  obtain ⟨k, hk⟩ : ∃ k : Nat, v % 65536 % b = k := ⟨(v % 65536 % b).toNat, by have := Int.emod_nonneg (v % 65536) (show b ≠ 0 by omega); omega⟩
  have hkb : (k : Int) < b := by rw [← hk]; exact Int.emod_lt_of_pos _ (by omega)
  have hkm : (bits .and .i64 v 65535).tmod b = (k : Int) := by rw [and16, Int.tmod_eq_emod_of_nonneg (by omega)]; exact hk
  have hb0 : (b == 0) = false := by simp; omega
  have hl1 := uTx_len b n
  have hl2 := uTx_len 16 n
  have hl3 := uTx_len 2 n
  have hl4 := uTx_len 10 n
  obtain ⟨S, h1⟩ : ∃ S : ByteArray, S = ⟨(uTx b n).toArray⟩ := ⟨_, rfl⟩
  obtain ⟨S2, h2⟩ : ∃ S : ByteArray, S = ⟨(uTx 16 n).toArray⟩ := ⟨_, rfl⟩
  obtain ⟨S3, h3⟩ : ∃ S : ByteArray, S = ⟨(uTx 2 n).toArray⟩ := ⟨_, rfl⟩
  obtain ⟨S4, h4⟩ : ∃ S : ByteArray, S = ⟨(uTx 10 n).toArray⟩ := ⟨_, rfl⟩
  obtain ⟨G, hG⟩ : ∃ S : ByteArray, S = ⟨(sgL (k : Int)).toArray⟩ := ⟨_, rfl⟩
  have hG1 : G = ⟨[sgn k].toArray⟩ := by rw [hG, sgL_nat (by omega)]
  have z1 : S.size ≤ 1000 := by rw [h1, size_mk]; omega
  have z2 : S2.size ≤ 1000 := by rw [h2, size_mk]; omega
  have z3 : S3.size ≤ 1000 := by rw [h3, size_mk]; omega
  have z4 : S4.size ≤ 1000 := by rw [h4, size_mk]; omega
  have zG : G.size ≤ 1000 := by rw [hG1, size_mk]; simp
  have y1 := add_len S G z1 zG
  have y2 := add_len ⟨#[45]⟩ S (by decide) z1
  have y3 := add_len ⟨#[36]⟩ S2 (by decide) z2
  have y4 := add_len ⟨#[37]⟩ S3 (by decide) z3
  have y5 := add_len ⟨#[35]⟩ S4 (by decide) z4
  have HU1 := Lib.hid (utext_is n b hn S h1)
  have HU2 := Lib.hid (utext_is n 16 hn S2 h2)
  have HU3 := Lib.hid (utext_is n 2 hn S3 h3)
  have HU4 := Lib.hid (utext_is n 10 hn S4 h4)
  have HG := Lib.hid (sign_is k G hG)
  have HP1 := Lib.hid (parse_one _ b _ (S ++ G) (by rw [h1, hG1]; exact ByteArray.mk_append_mk _ _) (more_form (n := n) hb hkb).1 (more_form (n := n) hb hkb).2 (by simp; omega))
  have HP2 := Lib.hid (parse_one _ b _ (⟨#[45]⟩ ++ S) (app_one 45 _ S h1) (neg_form (n := n) hb).1 (neg_form (n := n) hb).2 (by simp; omega))
  have HP3 := Lib.hid (parse_one _ o _ (⟨#[36]⟩ ++ S2) (app_one 36 _ S2 h2) (mark_form (b := o) (.inr (.inl ⟨rfl, rfl⟩)) hn).1 (mark_form (b := o) (.inr (.inl ⟨rfl, rfl⟩)) hn).2 (by simp; omega))
  have HP4 := Lib.hid (parse_one _ o _ (⟨#[37]⟩ ++ S3) (app_one 37 _ S3 h3) (mark_form (b := o) (.inr (.inr ⟨rfl, rfl⟩)) hn).1 (mark_form (b := o) (.inr (.inr ⟨rfl, rfl⟩)) hn).2 (by simp; omega))
  have HP5 := Lib.hid (parse_one _ o _ (⟨#[35]⟩ ++ S4) (app_one 35 _ S4 h4) (mark_form (b := o) (.inl ⟨rfl, rfl⟩) hn).1 (mark_form (b := o) (.inl ⟨rfl, rfl⟩) hn).2 (by simp; omega))
  have HT := Lib.hid hT
  have HA := Lib.hid (awake_any W hT)
  clear hT hb ho hn h1 h2 h3 h4 hG hG1 z1 z2 z3 z4 zG hl1 hl2 hl3 hl4 hk
  go_enter Tryd.func5, Tryd.ntmps5
  go_wp2_with (first
    | (go_at_call 9; refine HA.out.mono ?_; rintro e w1 ⟨rfl, hk1⟩)
    | (go_at_call 15; refine (HG.out _).mono ?_; rintro e w' ⟨rfl, rfl⟩)
    | (go_at_call 12; have q := hk7; refine (HU4.out _).mono ?_; rintro e w8 ⟨rfl, hw8⟩; have hk8 := hk7.trans hw8)
    | (go_at_call 12; have q := hk5; refine (HU3.out _).mono ?_; rintro e w6 ⟨rfl, hw6⟩; have hk6 := hk5.trans hw6)
    | (go_at_call 12; have q := hk3b; refine (HU2.out _).mono ?_; rintro e w4 ⟨rfl, hw4⟩; have hk4 := hk3b.trans hw4)
    | (go_at_call 12; refine (HU1.out _).mono ?_; rintro e w2 ⟨rfl, hw2⟩; have hk2 := hk1.trans hw2)
    | (go_at_call 10; have q := hk8; refine (HP5.out _ (HT.out.keeps hk8)).mono ?_; rintro e w9 ⟨N5, o5, p5, rfl, hN5, c5, hw9⟩; have hk9 := hk8.trans hw9; have g1 := ((((((hw3b.trans hw4).trans hw5).trans hw6).trans hw7).trans hw8).trans hw9).cell_some hN1 c1; have g2 := (((((hw4.trans hw5).trans hw6).trans hw7).trans hw8).trans hw9).cell_some hN2 c2; have g3 := (((hw6.trans hw7).trans hw8).trans hw9).cell_some hN3 c3; have g4 := (hw8.trans hw9).cell_some hN4 c4; clear c1 c2 c3 c4 hw2 hw3 hw3b hw4 hw5 hw6 hw7 hw8 hw9)
    | (go_at_call 10; have q := hk6; refine (HP4.out _ (HT.out.keeps hk6)).mono ?_; rintro e w7 ⟨N4, o4, p4, rfl, hN4, c4, hw7⟩; have hk7 := hk6.trans hw7)
    | (go_at_call 10; have q := hk4; refine (HP3.out _ (HT.out.keeps hk4)).mono ?_; rintro e w5 ⟨N3, o3, p3, rfl, hN3, c3, hw5⟩; have hk5 := hk4.trans hw5)
    | (go_at_call 10; have q := hk3; refine (HP2.out _ (HT.out.keeps hk3)).mono ?_; rintro e w3b ⟨N2, o2, p2, rfl, hN2, c2, hw3b⟩; have hk3b := hk3.trans hw3b)
    | (go_at_call 10; refine (HP1.out _ (HT.out.keeps hk2)).mono ?_; rintro e w3 ⟨N1, o1, p1, rfl, hN1, c1, hw3⟩; have hk3 := hk2.trans hw3))
  go_ret
  exact ⟨rfl, hk9⟩
set_option maxHeartbeats 400000 in
set_option maxRecDepth 100000 in
theorem numSteps_no (n v b o : Int) (W : World) (hT : Tabs W) (h : baB b = false ∨ baB o = false) :
    Calls Tryd.prog 5 #[.int .i64 n, .int .i64 v, .int .i64 b, .int .i64 o] W fun e w' => e = .returned (.bool true) ∧ Keeps W w' := by
  have HA := Lib.hid (awake_any W hT)
  have hbg : b < 2 ∨ (¬ b < 2 ∧ 36 < b) ∨ (¬ b < 2 ∧ ¬ 36 < b ∧ o < 2) ∨ (¬ b < 2 ∧ ¬ 36 < b ∧ ¬ o < 2 ∧ 36 < o) := by
    rcases h with h | h
    · have := baB_no.1 h; omega
    · have := baB_no.1 h; omega
  clear hT h
  rcases hbg with h1 | ⟨h1, h2⟩ | ⟨h1, h2, h3⟩ | ⟨h1, h2, h3, h4⟩
  all_goals
    go_enter Tryd.func5, Tryd.ntmps5
    go_wp2_with (go_at_call 9; refine HA.out.mono ?_; rintro e w1 ⟨rfl, hk1⟩)
    go_ret
    exact ⟨rfl, hk1⟩
theorem numSteps_walk (n v b o : Int) (W : World) (hT : Tabs W) (hn : InC n) :
    Calls Tryd.prog 5 #[.int .i64 n, .int .i64 v, .int .i64 b, .int .i64 o] W fun e w' => e = .returned (.bool true) ∧ Keeps W w' := by
  cases hb : baB b with
  | false => exact numSteps_no n v b o W hT (.inl hb)
  | true =>
    cases ho : baB o with
    | false => exact numSteps_no n v b o W hT (.inr ho)
    | true => exact numSteps_yes n v b o W hT hn hb ho
end Go.Proofs.YthifehekhcmldaaDoor
