/-
  The walk of NumForm: no number has a leading nought; each sign of it is a digit of the base.
-/
import Derived.Test.YthifehekhcmldaaDoorNumAwake
import Derived.Test.YthifehekhcmldaaDoorNumForms
import Derived.Deep.QuietTactic
import Derived.BigQuiet
import Derived.IntWalk
namespace Go.Proofs.YthifehekhcmldaaDoor
open Go.RowKit

/-- Each sign of a text without a sign is a value's digit. -/
theorem uT_signs {b : Nat} (hb : 2 ≤ b) (u : Nat) : ∀ c ∈ uT b u, ∃ v, v < b ∧ c = sgn v := by
  induction u using Nat.strongRecOn with
  | ind u ih =>
    by_cases h : u < b
    · rw [uT_small h]; intro c hc; simp at hc; exact ⟨u, h, hc⟩
    · rw [uT_more hb (by omega)]
      intro c hc
      rw [List.mem_append] at hc
      rcases hc with hc | hc
      · exact ih _ (Nat.div_lt_self (by omega) (by omega)) c hc
      · simp at hc; exact ⟨u % b, Nat.mod_lt _ (by omega), hc⟩
/-- What a number's text is behind its sign. -/
theorem form_n {b n : Int} (hb : baB b = true) (hn : InC n) : ∃ D : List UInt8, dTx b n = (if n < 0 then [45] else []) ++ D ∧ 1 ≤ D.length ∧ D.length ≤ 64 ∧ (∀ c ∈ D, ∃ v : Nat, (v : Int) < b ∧ c = sgn v) ∧ ((D.getD 0 0 == 45) = false) ∧ (n ≠ 0 → (D.getD 0 0 == 48) = false) ∧ (¬ n < 0 → uTx b n = D) := by
  have h2 := baB_iff.1 hb
  unfold InC at hn
  obtain ⟨B, rfl⟩ : ∃ B : Nat, b = B := ⟨b.toNat, by omega⟩
  obtain ⟨u, hu⟩ : ∃ u : Nat, (if n < 0 then (-n).toNat else n.toNat) = u := ⟨_, rfl⟩
  have hu63 : u < 2 ^ (63 + 1) := by rw [← hu]; split <;> omega
  have hu0 : n ≠ 0 → u ≠ 0 := by intro h; rw [← hu]; split <;> omega
  have hall := uT_signs (b := B) (by omega) u
  have hbyte : ∀ v : Nat, v < B → (sgn v == 45) = false ∧ (v ≠ 0 → (sgn v == 48) = false) := by
    intro v hv
    have e := sgn_nat (v := v) (by omega)
    refine ⟨?_, fun h0 => ?_⟩
    · rw [beq_eq_false_iff_ne]; intro h; rw [h] at e; split at e <;> simp at e <;> omega
    · rw [beq_eq_false_iff_ne]; intro h; rw [h] at e; split at e <;> simp at e <;> omega
  refine ⟨uT B u, ?_, ?_, uT_len (by omega) 63 u hu63, fun c hc => ?_, ?_, fun h0 => ?_, fun h => ?_⟩
  · unfold dTx
    rw [if_pos hb, Int.toNat_natCast, ← hu]
    split <;> rfl
  · exact List.length_pos_iff.2 uT_ne
  · obtain ⟨v, hv, e⟩ := hall c hc
    exact ⟨v, by omega, e⟩
  · cases hD : uT B u with
    | nil => exact absurd hD uT_ne
    | cons c t =>
      obtain ⟨v, hv, rfl⟩ := hall c (by rw [hD]; simp)
      exact (hbyte v hv).1
  · obtain ⟨v, hv0, hv, t, e⟩ := uT_head hb u (hu0 h0)
    rw [e]
    exact (hbyte v hv).2 hv0
  · unfold uTx
    rw [if_pos hb, Int.toNat_natCast, ← hu, if_neg h, show n % 18446744073709551616 = n by omega]
theorem sign_q (v : Int) (S : ByteArray) (h : S = ⟨(sgL v).toArray⟩) (w : World) :
    Calls Tryd.prog 15 #[.int .i64 v] w fun e w' => e = .returned (.string S) ∧ w' = w := (sign_is v S h w).mono fun _ _ hh => ⟨hh.1, hh.2.symm⟩
/-- What holds at each round's head. -/
def FormSt (W : World) (m : Nat) (i : Value) (wr : World) : Prop := ∃ k : Nat, k ≤ m ∧ i = .int .i64 k ∧ Keeps W wr
/-- What is known of each sign. -/
def Signs (b : Int) (T : ByteArray) (m : Nat) : Prop := ∀ k : Nat, k < m → ∃ (v : Nat) (q : UInt8) (G : ByteArray), (∀ h, T[k]'h = q) ∧ T.extract k (k + 1) = G ∧ G = ⟨(sgL (v : Int)).toArray⟩ ∧ dgX (q.toNat : Int) b = v ∧ dgB (q.toNat : Int) b = true
theorem signs_of {b : Int} {D : List UInt8} (hb : baB b = true) (hd4 : ∀ c ∈ D, ∃ v : Nat, (v : Int) < b ∧ c = sgn v) (T : ByteArray) (hTx : T = ⟨D.toArray⟩) (m : Nat) (hm : D.length = m) : Signs b T m := by
  have hb2 := baB_iff.1 hb
  intro k hk
  obtain ⟨v, hv, e⟩ := hd4 (D[k]'(by omega)) (List.getElem_mem _)
  refine ⟨v, D[k]'(by omega), _, ?_, rfl, ?_, ?_, ?_⟩
  · intro h; subst hTx; rfl
  · rw [hTx, ByteArray.extract_mk, sgL_nat (by omega), ← e, show k + 1 - k = 1 by omega]
    congr 2
    rw [List.drop_eq_getElem_cons (by omega)]; rfl
  · rw [e, dig_yes _ _ (dgB_sgn hb hv), dgV_sgn (by omega)]
  · rw [e]; exact dgB_sgn hb hv
theorem u8_int (a c : UInt8) (h : (a == c) = false) : (((a.toNat : Nat) : Int) == ((c.toNat : Nat) : Int)) = false := by
  rw [← h, Bool.eq_iff_iff]; simp only [beq_iff_eq]
  exact ⟨fun h => UInt8.toNat_inj.1 (by omega), fun h => by rw [h]⟩
set_option maxHeartbeats 2000000 in
set_option maxRecDepth 100000 in
theorem numForm_pos (n b : Int) (T : ByteArray) (m : Nat) (q0 : UInt8) (W : World) (h0 : ¬ n < 0) (hb2 : 2 ≤ b ∧ b ≤ 36)
    (HA : Hid (Calls Tryd.prog 9 #[] W fun e w' => e = .returned (.bool true) ∧ Keeps W w'))
    (HX : Hid (∀ w, Calls Tryd.prog 11 #[.int .i64 n, .int .i64 b] w fun e w' => e = .returned (.string T) ∧ Keeps w w'))
    (HO : Hid (∀ w, Calls Tryd.prog 16 #[.int .i64 n] w fun e w' => e = .returned (.agg #[.int .i64 (dLo n), .int .i64 (dHi n)]) ∧ Grown w w'))
    (HD : Hid (∀ w, Calls Tryd.prog 13 #[.agg #[.int .i64 (dLo n), .int .i64 (dHi n)], .int .i64 b] w fun e w' => e = .returned (.string T) ∧ Keeps w w'))
    (HU : Hid (∀ w, Calls Tryd.prog 12 #[.int .i64 n, .int .i64 b] w fun e w' => e = .returned (.string T) ∧ Keeps w w'))
    (hz : T.size = m) (hm1 : 1 ≤ m) (hm64 : m ≤ 64) (e0 : ∀ k, T[(0 : Nat)]'k = q0) (hq45 : ((q0.toNat : Int) == 45) = false) (hq48 : ((q0.toNat : Int) == 48) = false ∨ ((q0.toNat : Int) == 48) = true ∧ n = 0) (HS : Hid (Signs b T m)) :
    Calls Tryd.prog 4 #[.int .i64 n, .int .i64 b] W fun e w' => e = .returned (.bool true) ∧ Keeps W w' := by
  have t1 : ((m : Int) == 0) = false := by simp; omega
  have t2 : decide (64 < (m : Int)) = false := by simp; omega
  have t3 : (0 : Int) < (m : Int) := by omega
  obtain ⟨lo, hlo⟩ : ∃ v, dLo n = v := ⟨_, rfl⟩
  obtain ⟨hi, hhi⟩ : ∃ v, dHi n = v := ⟨_, rfl⟩
  rw [hlo, hhi] at HO HD
  clear hlo hhi
  rcases hq48 with hq48 | ⟨hq48, rfl⟩
  all_goals
    go_enter Tryd.func4, Tryd.ntmps4
    go_wp2_with (first
      | (go_at_call 9; refine HA.out.mono ?_; rintro e w1 ⟨rfl, hk1⟩)
      | (go_at_call 11; refine (HX.out _).mono ?_; rintro e w2 ⟨rfl, hw2⟩; have hk2 := hk1.trans hw2))
    go_loopw [8] (fun i wr => FormSt W m i wr) (fun i _ => m - (intOf i).toNat)
    case atStart => exact ⟨0, by omega, rfl, hk2⟩
    case round =>
      obtain ⟨k, hk, rfl, hkr⟩ := hrel
      by_cases hlt : k < m
      · obtain ⟨v, q, G, hTq, hTe, hG, hx, hB⟩ := HS.out k hlt
        have HG := Lib.hid (digit_is (q.toNat : Int) b v true hx hB)
        have HSg := Lib.hid (sign_q v G hG)
        have hq8 : (0 : Int) ≤ (q.toNat : Int) ∧ (q.toNat : Int) ≤ 255 := by have := q.toNat_lt; omega
        have hki : (k : Int) < (m : Int) := by omega
        have hk1' : (k : Int) + 1 ≤ (m : Int) := by omega
        have hw1 : IntKind.i64.wrap ((k : Int) + 1) = (k : Int) + 1 := IntWalk.i64_in _ (by omega)
        have hk2' : ((k : Int) + 1).toNat = k + 1 := by omega
        clear hG hx hB
        go_wp2_with (go_at_call 14; refine (HG.out _).mono ?_; rintro e w' ⟨rfl, rfl⟩)
        go_quiet ((go_at_call 15; exact Calls.quiet_of_same (HSg.out _)))
        go_wp2
        go_roundw
        case rel => exact ⟨k + 1, by omega, by go_num, hkr.drewN _⟩
        case measure => simp [intOf]; omega
      · have hge : ¬ ((k : Int) < (m : Int)) := by omega
        go_wp2_with (first
          | (go_at_call 16; refine (HO.out _).mono ?_; rintro e w3 ⟨rfl, hw3⟩)
          | (go_at_call 13; refine (HD.out _).mono ?_; rintro e w4 ⟨rfl, hw4⟩)
          | (go_at_call 12; refine (HU.out _).mono ?_; rintro e w5 ⟨rfl, hw5⟩))
        go_ret
        exact ⟨rfl, ((hkr.trans (Keeps.of_grown hw3)).trans hw4).trans hw5⟩
set_option maxHeartbeats 2000000 in
set_option maxRecDepth 100000 in
theorem numForm_neg (n b : Int) (S T : ByteArray) (m : Nat) (q0 : UInt8) (W : World) (h0 : n < 0) (hb2 : 2 ≤ b ∧ b ≤ 36)
    (HA : Hid (Calls Tryd.prog 9 #[] W fun e w' => e = .returned (.bool true) ∧ Keeps W w'))
    (HX : Hid (∀ w, Calls Tryd.prog 11 #[.int .i64 n, .int .i64 b] w fun e w' => e = .returned (.string S) ∧ Keeps w w'))
    (HO : Hid (∀ w, Calls Tryd.prog 16 #[.int .i64 n] w fun e w' => e = .returned (.agg #[.int .i64 (dLo n), .int .i64 (dHi n)]) ∧ Grown w w'))
    (HD : Hid (∀ w, Calls Tryd.prog 13 #[.agg #[.int .i64 (dLo n), .int .i64 (dHi n)], .int .i64 b] w fun e w' => e = .returned (.string S) ∧ Keeps w w'))
    (hz : T.size = m) (hzS : S.size = m + 1) (eS : ∀ k, S[(0 : Nat)]'k = 45) (hST : S.extract 1 (m + 1) = T) (hm1 : 1 ≤ m) (hm64 : m ≤ 64) (e0 : ∀ k, T[(0 : Nat)]'k = q0) (hq48 : ((q0.toNat : Int) == 48) = false) (HS : Hid (Signs b T m)) :
    Calls Tryd.prog 4 #[.int .i64 n, .int .i64 b] W fun e w' => e = .returned (.bool true) ∧ Keeps W w' := by
  have t1 : ((m : Int) == 0) = false := by simp; omega
  have t2 : decide (64 < (m : Int)) = false := by simp; omega
  have t3 : (0 : Int) < (m : Int) := by omega
  obtain ⟨lo, hlo⟩ : ∃ v, dLo n = v := ⟨_, rfl⟩
  obtain ⟨hi, hhi⟩ : ∃ v, dHi n = v := ⟨_, rfl⟩
  rw [hlo, hhi] at HO HD
  clear hlo hhi
  all_goals
    go_enter Tryd.func4, Tryd.ntmps4
    go_wp2_with (first
      | (go_at_call 9; refine HA.out.mono ?_; rintro e w1 ⟨rfl, hk1⟩)
      | (go_at_call 11; refine (HX.out _).mono ?_; rintro e w2 ⟨rfl, hw2⟩; have hk2 := hk1.trans hw2))
    go_loopw [8] (fun i wr => FormSt W m i wr) (fun i _ => m - (intOf i).toNat)
    case atStart => exact ⟨0, by omega, rfl, hk2⟩
    case round =>
      obtain ⟨k, hk, rfl, hkr⟩ := hrel
      by_cases hlt : k < m
      · obtain ⟨v, q, G, hTq, hTe, hG, hx, hB⟩ := HS.out k hlt
        have HG := Lib.hid (digit_is (q.toNat : Int) b v true hx hB)
        have HSg := Lib.hid (sign_q v G hG)
        have hq8 : (0 : Int) ≤ (q.toNat : Int) ∧ (q.toNat : Int) ≤ 255 := by have := q.toNat_lt; omega
        have hki : (k : Int) < (m : Int) := by omega
        have hk1' : (k : Int) + 1 ≤ (m : Int) := by omega
        have hw1 : IntKind.i64.wrap ((k : Int) + 1) = (k : Int) + 1 := IntWalk.i64_in _ (by omega)
        have hk2' : ((k : Int) + 1).toNat = k + 1 := by omega
        clear hG hx hB
        go_wp2_with (go_at_call 14; refine (HG.out _).mono ?_; rintro e w' ⟨rfl, rfl⟩)
        go_quiet ((go_at_call 15; exact Calls.quiet_of_same (HSg.out _)))
        go_wp2
        go_roundw
        case rel => exact ⟨k + 1, by omega, by go_num, hkr.drewN _⟩
        case measure => simp [intOf]; omega
      · have hge : ¬ ((k : Int) < (m : Int)) := by omega
        go_wp2_with (first
          | (go_at_call 16; refine (HO.out _).mono ?_; rintro e w3 ⟨rfl, hw3⟩)
          | (go_at_call 13; refine (HD.out _).mono ?_; rintro e w4 ⟨rfl, hw4⟩))
        go_ret
        exact ⟨rfl, (hkr.trans (Keeps.of_grown hw3)).trans hw4⟩
theorem numForm_no (n b : Int) (W : World) (hT : Tabs W) (hb : baB b = false) :
    Calls Tryd.prog 4 #[.int .i64 n, .int .i64 b] W fun e w' => e = .returned (.bool true) ∧ Keeps W w' := by
  have HA := Lib.hid (awake_any W hT)
  have hbg : b < 2 ∨ (¬ b < 2 ∧ 36 < b) := by have := baB_no.1 hb; omega
  clear hT hb
  rcases hbg with h1 | ⟨h1, h2⟩
  all_goals
    go_enter Tryd.func4, Tryd.ntmps4
    go_wp2_with (go_at_call 9; refine HA.out.mono ?_; rintro e w1 ⟨rfl, hk1⟩)
    go_ret
    exact ⟨rfl, hk1⟩
theorem zero_head {b : Int} {D : List UInt8} (hb : baB b = true) (h : ¬ (0 : Int) < 0 → uTx b 0 = D) : (D.getD 0 0 == 48) = true := by
  have h2 := baB_iff.1 hb
  rw [← h (by decide)]
  unfold uTx
  rw [if_pos hb]
  show ((uT b.toNat 0).getD 0 0 == 48) = true
  rw [uT_small (by omega)]
  rfl
theorem u8_int_yes (a c : UInt8) (h : (a == c) = true) : (((a.toNat : Nat) : Int) == ((c.toNat : Nat) : Int)) = true := by
  have h' : a = c := by simpa using h
  subst h'; simp
theorem numForm_walk (n b : Int) (W : World) (hT : Tabs W) (hn : InC n) :
    Calls Tryd.prog 4 #[.int .i64 n, .int .i64 b] W fun e w' => e = .returned (.bool true) ∧ Keeps W w' := by
  cases hb : baB b with
  | false => exact numForm_no n b W hT hb
  | true =>
    obtain ⟨D, hd1, hd2, hd3, hd4, hd5, hd6, hd7⟩ := form_n hb hn
    have e0 : ∀ k, (⟨D.toArray⟩ : ByteArray)[(0 : Nat)]'k = D.getD 0 0 := by
      intro k
      cases D with
      | nil => simp at hd2
      | cons _ _ => rfl
    by_cases h0 : n < 0
    · rw [if_pos h0] at hd1
      exact numForm_neg n b ⟨(45 :: D).toArray⟩ ⟨D.toArray⟩ D.length (D.getD 0 0) W h0 (baB_iff.1 hb) (Lib.hid (awake_any W hT)) (Lib.hid (text_is n b hn _ (by rw [hd1]; rfl))) (Lib.hid (dof_any n hn)) (Lib.hid (dtext_is n b (inD_cell hn) _ (by rw [hd1]; rfl)))
        (size_mk D) (by rw [size_mk]; rfl) (fun _ => rfl) (by rw [ByteArray.extract_mk]; simp) hd2 hd3 e0 (u8_int _ 48 (hd6 (by omega))) (Lib.hid (signs_of hb hd4 _ rfl _ rfl))
    · rw [if_neg h0, List.nil_append] at hd1
      refine numForm_pos n b ⟨D.toArray⟩ D.length (D.getD 0 0) W h0 (baB_iff.1 hb) (Lib.hid (awake_any W hT)) (Lib.hid (text_is n b hn _ (by rw [hd1]))) (Lib.hid (dof_any n hn)) (Lib.hid (dtext_is n b (inD_cell hn) _ (by rw [hd1]))) (Lib.hid (utext_is n b hn _ (by rw [hd7 h0])))
        (size_mk D) hd2 hd3 e0 (u8_int _ 45 hd5) ?_ (Lib.hid (signs_of hb hd4 _ rfl _ rfl))
      by_cases hn0 : n = 0
      · subst hn0; exact .inr ⟨u8_int_yes _ 48 (zero_head hb hd7), rfl⟩
      · exact .inl (u8_int _ 48 (hd6 hn0))
end Go.Proofs.YthifehekhcmldaaDoor
