/-
  The call of the statement MemFills answers true at every memory, place and numbers; of what was there nothing has changed.
-/
import Derived.Test.YtkdpefkllchadaaMemAwake
namespace Go.Proofs.Ytkdpefkllchadaa
open Go.RowKit

theorem text_as (A : Option Addr) (n c : Nat) (l : List UInt8) (w : World) (a b : Int) (i k : Nat) (S : ByteArray) (ha : a = (i : Int)) (hb : b = (k : Int)) (hS : ⟨(mT l i k).toArray⟩ = S) (hn : n ≤ 1000000) (hm : Mem w A n c l) (hi : i + k ≤ n) :
    Calls Try.prog 10 #[.slice A n c, .int .i64 a, .int .i64 b] w fun e w' => e = .returned (.tuple #[.string S, .int .i64 0]) ∧ w = w' := by
  subst ha hb hS
  exact text_yes A n c l w i k hn hm hi
section
variable (A : Option Addr) (n c : Nat) (l : List UInt8) (w : World)
set_option maxRecDepth 100000 in
set_option maxHeartbeats 1000000 in
theorem memFills_no (a k x q : Int) (h2 : n ≤ 2000) (hm : Mem w A n c l) (ha : InC a) (h : thB n a k = false) :
    Calls Try.prog 4 #[.slice A n c, .int .i64 a, .int .i64 k, .int .i64 x, .int .i64 q] w fun e w' => e = .returned (.bool true) ∧ Below w.heap.size w w' := by
  have hn : n ≤ 1000000 := by omega
  have hd : decide ((2000 : Int) < (n : Int)) = false := decide_eq_false (by omega)
  have HM := Lib.hid hm
  have HH := Lib.hid h
  have hno := thB_no h
  clear hm h
  rcases Int.lt_or_le a 0 with h0 | h0
  · have d1 : decide (a < 0) = true := decide_eq_true h0
    clear hno
    go_enter Try.func4, Try.ntmps4
    go_wp2_with (first
      | (go_at_call 8; refine (mawake_any _).mono ?_; rintro e w1 ⟨rfl, hb1⟩; have HB1 := Lib.hid hb1; have HM1 := Lib.hid (HM.out.below hb1); have hs := HM1.out.str; clear hb1)
      | (go_at_call 11; refine (fill_no _ _ _ _ _ _ _ hn ha HH.out).mono ?_; rintro e w' ⟨rfl, rfl⟩))
    go_ret
    exact ⟨rfl, HB1.out⟩
  · have d1 : decide (a < 0) = false := decide_eq_false (by omega)
    rcases Int.lt_or_le k 0 with h1 | h1
    · have d2 : decide (k < 0) = true := decide_eq_true h1
      clear hno
      go_enter Try.func4, Try.ntmps4
      go_wp2_with (first
        | (go_at_call 8; refine (mawake_any _).mono ?_; rintro e w1 ⟨rfl, hb1⟩; have HB1 := Lib.hid hb1; have HM1 := Lib.hid (HM.out.below hb1); have hs := HM1.out.str; clear hb1)
        | (go_at_call 11; refine (fill_no _ _ _ _ _ _ _ hn ha HH.out).mono ?_; rintro e w' ⟨rfl, rfl⟩))
      go_ret
      exact ⟨rfl, HB1.out⟩
    · have d2 : decide (k < 0) = false := decide_eq_false (by omega)
      rcases Int.lt_or_le (n : Int) a with h3 | h3
      · have d3 : decide ((n : Int) < a) = true := decide_eq_true h3
        clear hno
        go_enter Try.func4, Try.ntmps4
        go_wp2_with (first
          | (go_at_call 8; refine (mawake_any _).mono ?_; rintro e w1 ⟨rfl, hb1⟩; have HB1 := Lib.hid hb1; have HM1 := Lib.hid (HM.out.below hb1); have hs := HM1.out.str; clear hb1)
          | (go_at_call 11; refine (fill_no _ _ _ _ _ _ _ hn ha HH.out).mono ?_; rintro e w' ⟨rfl, rfl⟩))
        go_ret
        exact ⟨rfl, HB1.out⟩
      · have d3 : decide ((n : Int) < a) = false := decide_eq_false (by omega)
        have d4 : decide ((n : Int) - a < k) = true := decide_eq_true (by omega)
        clear hno
        go_enter Try.func4, Try.ntmps4
        go_wp2_with (first
          | (go_at_call 8; refine (mawake_any _).mono ?_; rintro e w1 ⟨rfl, hb1⟩; have HB1 := Lib.hid hb1; have HM1 := Lib.hid (HM.out.below hb1); have hs := HM1.out.str; clear hb1)
          | (go_at_call 11; refine (fill_no _ _ _ _ _ _ _ hn ha HH.out).mono ?_; rintro e w' ⟨rfl, rfl⟩))
        go_ret
        exact ⟨rfl, HB1.out⟩
set_option maxRecDepth 100000 in
set_option maxHeartbeats 1000000 in
theorem memFills_some (i k : Nat) (x q : Int) (h2 : n ≤ 2000) (hm : Mem w A n c l) (hi : i + k ≤ n) (hk : 0 < k) :
    Calls Try.prog 4 #[.slice A n c, .int .i64 (i : Int), .int .i64 (k : Int), .int .i64 x, .int .i64 q] w fun e w' => e = .returned (.bool true) ∧ Below w.heap.size w w' := by
  have hn : n ≤ 1000000 := by omega
  have hd : decide ((2000 : Int) < (n : Int)) = false := decide_eq_false (by omega)
  have hlen := hm.1
  obtain ⟨S, hS⟩ : ∃ S : ByteArray, ⟨(mT (splice l i (List.replicate k (b8 x))) i k).toArray⟩ = S := ⟨_, rfl⟩
  have e3 : mT (splice l i (List.replicate k (b8 x))) i k = List.replicate k (b8 x) := mT_splice _ _ _ _ (by simp) (by omega)
  have hsz : S.size = k := by rw [← hS, e3]; simp [ByteArray.size]
  have HV : Hid (∀ j (hj : j < S.size), (wrap64 (S[j].toNat : Int) != x % 256) = false) := by
    intro j hj
    subst hS
    have e : (⟨(mT (splice l i (List.replicate k (b8 x))) i k).toArray⟩ : ByteArray)[j] = b8 x := by
      simp only [ByteArray.getElem_eq_getElem_data]
      simp [e3]
    rw [e, b8_val, wrap64_id ⟨by omega, by omega⟩]
    simp
  obtain ⟨m, hmod, hmk⟩ : ∃ m : Nat, (bits .and .i64 q 65535).tmod ((k : Int) + 1) = (m : Int) ∧ m ≤ k := by
    rw [and65535, Int.tmod_eq_emod_of_nonneg (by omega)]
    have h0 := Int.emod_nonneg (q % 65536) (b := (k : Int) + 1) (by omega)
    have h1 := Int.emod_lt_of_pos (q % 65536) (b := (k : Int) + 1) (by omega)
    exact ⟨(q % 65536 % ((k : Int) + 1)).toNat, by omega, by omega⟩
  have hcat : (⟨(mT l i m).toArray⟩ : ByteArray) ++ ⟨(mT l (i + m) (k - m)).toArray⟩ = ⟨(mT l i k).toArray⟩ := by
    rw [← mT_parts l i m k hmk (by omega)]
    apply ByteArray.ext
    simp [ByteArray.data_append]
  have hbig : ¬ 9223372036854775807 < (mT l i m).length + (mT l (i + m) (k - m)).length := by rw [mT_length l i m (by omega), mT_length l (i + m) (k - m) (by omega)]; omega
  have hx := and255 x
  have HS := Lib.hid hS
  have HM := Lib.hid hm
  have HI := Lib.hid hi
  have HMOD := Lib.hid hmod
  have HCAT := Lib.hid hcat
  have HI1 : Hid (i + m ≤ n) := show _ ≤ _ by omega
  have HI2 : Hid (i + m + (k - m) ≤ n) := show _ ≤ _ by omega
  have HA : Hid ((i : Int) + (m : Int) = ((i + m : Nat) : Int)) := show _ = _ by omega
  have HB : Hid ((k : Int) - (m : Int) = ((k - m : Nat) : Int)) := show _ = _ by omega
  have d0 : decide ((0 : Int) < (k : Int)) = true := decide_eq_true (by omega)
  have d0' : decide (0 < k) = true := decide_eq_true (by omega)
  clear hS e3 hm hmod hcat
  go_enter Try.func4, Try.ntmps4
  go_wp2_with (first
    | (go_at_call 8; refine (mawake_any _).mono ?_; rintro e w1 ⟨rfl, hb1⟩; have HB1 := Lib.hid hb1; have HM1 := Lib.hid (HM.out.below hb1); clear hb1)
    | (go_at_call 11; refine (fill_yes _ _ _ _ _ _ _ _ hn HM1.out HI.out).mono ?_; rintro e w2 ⟨A2, c2, rfl, hm2, hb2⟩; have H2 := Lib.hid hm2; have HB2 := Lib.hid hb2; have HM2 := Lib.hid (HM1.out.below hb2); clear hm2 hb2)
    | (go_at_call 10; refine (text_as _ _ _ _ _ _ _ i k S rfl rfl HS.out hn H2.out HI.out).mono ?_; rintro e w' ⟨rfl, rfl⟩))
  go_loop [16] (fun t => ∃ j : Nat, j ≤ k ∧ t = .int .i64 j) (fun t => ((k : Int) - intOf t).toNat)
  case atStart => exact ⟨0, by omega, rfl⟩
  case round =>
    obtain ⟨j, hj, rfl⟩ := hrel
    by_cases hlt : j < k
    · have hlt' : j < S.size := by omega
      have hv := HV.out j hlt'
      go_wp2
      go_round
      case rel => exact ⟨j + 1, by omega, by go_num⟩
      case measure => simp [intOf]; omega
    · obtain rfl : k = j := by omega
      have hmod := HMOD.out
      have hcat := HCAT.out
      go_wp2_with (first
        | (go_at_call 10; (with_reducible refine (text_yes _ _ _ _ _ i k hn HM2.out HI.out).mono ?_); rintro e w' ⟨rfl, rfl⟩)
        | (go_at_call 10; (with_reducible refine (text_yes _ _ _ _ _ i m hn HM2.out HI1.out).mono ?_); rintro e w' ⟨rfl, rfl⟩)
        | (go_at_call 10; (with_reducible refine (text_as _ _ _ _ _ _ _ (i + m) (k - m) _ HA.out HB.out rfl hn HM2.out HI2.out).mono ?_); rintro e w' ⟨rfl, rfl⟩))
      go_ret
      exact ⟨rfl, below_then HB1.out HB2.out⟩
set_option maxRecDepth 100000 in
set_option maxHeartbeats 1000000 in
theorem memFills_none (i k : Nat) (x q : Int) (h2 : n ≤ 2000) (hm : Mem w A n c l) (hi : i + k ≤ n) (hk : k = 0) :
    Calls Try.prog 4 #[.slice A n c, .int .i64 (i : Int), .int .i64 (k : Int), .int .i64 x, .int .i64 q] w fun e w' => e = .returned (.bool true) ∧ Below w.heap.size w w' := by
  have hn : n ≤ 1000000 := by omega
  have hd : decide ((2000 : Int) < (n : Int)) = false := decide_eq_false (by omega)
  have hlen := hm.1
  obtain ⟨S, hS⟩ : ∃ S : ByteArray, ⟨(mT (splice l i (List.replicate k (b8 x))) i k).toArray⟩ = S := ⟨_, rfl⟩
  have e3 : mT (splice l i (List.replicate k (b8 x))) i k = List.replicate k (b8 x) := mT_splice _ _ _ _ (by simp) (by omega)
  have hsz : S.size = k := by rw [← hS, e3]; simp [ByteArray.size]
  have HV : Hid (∀ j (hj : j < S.size), (wrap64 (S[j].toNat : Int) != x % 256) = false) := by
    intro j hj
    subst hS
    have e : (⟨(mT (splice l i (List.replicate k (b8 x))) i k).toArray⟩ : ByteArray)[j] = b8 x := by
      simp only [ByteArray.getElem_eq_getElem_data]
      simp [e3]
    rw [e, b8_val, wrap64_id ⟨by omega, by omega⟩]
    simp
  obtain ⟨m, hmod, hmk⟩ : ∃ m : Nat, (bits .and .i64 q 65535).tmod ((k : Int) + 1) = (m : Int) ∧ m ≤ k := by
    rw [and65535, Int.tmod_eq_emod_of_nonneg (by omega)]
    have h0 := Int.emod_nonneg (q % 65536) (b := (k : Int) + 1) (by omega)
    have h1 := Int.emod_lt_of_pos (q % 65536) (b := (k : Int) + 1) (by omega)
    exact ⟨(q % 65536 % ((k : Int) + 1)).toNat, by omega, by omega⟩
  have hcat : (⟨(mT l i m).toArray⟩ : ByteArray) ++ ⟨(mT l (i + m) (k - m)).toArray⟩ = ⟨(mT l i k).toArray⟩ := by
    rw [← mT_parts l i m k hmk (by omega)]
    apply ByteArray.ext
    simp [ByteArray.data_append]
  have HL : Hid (splice l i (List.replicate k (b8 x)) = l) := by
    show _ = _
    subst hk
    exact splice_nil l i
  have hbig : ¬ 9223372036854775807 < (mT l i m).length + (mT l (i + m) (k - m)).length := by rw [mT_length l i m (by omega), mT_length l (i + m) (k - m) (by omega)]; omega
  have hx := and255 x
  have HS := Lib.hid hS
  have HM := Lib.hid hm
  have HI := Lib.hid hi
  have HMOD := Lib.hid hmod
  have HCAT := Lib.hid hcat
  have HI1 : Hid (i + m ≤ n) := show _ ≤ _ by omega
  have HI2 : Hid (i + m + (k - m) ≤ n) := show _ ≤ _ by omega
  have HA : Hid ((i : Int) + (m : Int) = ((i + m : Nat) : Int)) := show _ = _ by omega
  have HB : Hid ((k : Int) - (m : Int) = ((k - m : Nat) : Int)) := show _ = _ by omega
  have d0 : decide ((0 : Int) < (k : Int)) = false := decide_eq_false (by omega)
  have d0' : decide (0 < k) = false := decide_eq_false (by omega)
  clear hS e3 hm hmod hcat hk
  go_enter Try.func4, Try.ntmps4
  go_wp2_with (first
    | (go_at_call 8; refine (mawake_any _).mono ?_; rintro e w1 ⟨rfl, hb1⟩; have HB1 := Lib.hid hb1; have HM1 := Lib.hid (HM.out.below hb1); clear hb1)
    | (go_at_call 11; refine (fill_yes _ _ _ _ _ _ _ _ hn HM1.out HI.out).mono ?_; rintro e w2 ⟨A2, c2, rfl, hm2, hb2⟩; have H2 := Lib.hid hm2; have HB2 := Lib.hid hb2; have HM2 := Lib.hid (HM1.out.below hb2); clear hm2 hb2)
    | (go_at_call 10; refine (text_as _ _ _ _ _ _ _ i k S rfl rfl HS.out hn H2.out HI.out).mono ?_; rintro e w' ⟨rfl, rfl⟩))
  go_loop [16] (fun t => ∃ j : Nat, j ≤ k ∧ t = .int .i64 j) (fun t => ((k : Int) - intOf t).toNat)
  case atStart => exact ⟨0, by omega, rfl⟩
  case round =>
    obtain ⟨j, hj, rfl⟩ := hrel
    by_cases hlt : j < k
    · have hlt' : j < S.size := by omega
      have hv := HV.out j hlt'
      go_wp2
      go_round
      case rel => exact ⟨j + 1, by omega, by go_num⟩
      case measure => simp [intOf]; omega
    · obtain rfl : k = j := by omega
      have hmod := HMOD.out
      have hcat := HCAT.out
      have hs1 := (H2.out.as HL.out).str
      have hs2 := HM2.out.str
      go_wp2_with (first
        | (go_at_call 10; (with_reducible refine (text_yes _ _ _ _ _ i k hn HM2.out HI.out).mono ?_); rintro e w' ⟨rfl, rfl⟩)
        | (go_at_call 10; (with_reducible refine (text_yes _ _ _ _ _ i m hn HM2.out HI1.out).mono ?_); rintro e w' ⟨rfl, rfl⟩)
        | (go_at_call 10; (with_reducible refine (text_as _ _ _ _ _ _ _ (i + m) (k - m) _ HA.out HB.out rfl hn HM2.out HI2.out).mono ?_); rintro e w' ⟨rfl, rfl⟩))
      go_ret
      exact ⟨rfl, below_then HB1.out HB2.out⟩
set_option maxHeartbeats 1000000 in
theorem memFills_walk (a k x q : Int) (hm : Mem w A n c l) (ha : InC a) :
    Calls Try.prog 4 #[.slice A n c, .int .i64 a, .int .i64 k, .int .i64 x, .int .i64 q] w fun e w' => e = .returned (.bool true) ∧ Below w.heap.size w w' := by
  by_cases h2 : n ≤ 2000
  · cases h : thB n a k
    · exact memFills_no A n c l w a k x q h2 hm ha h
    · obtain ⟨i, m, rfl, rfl, hL⟩ := thB_yes h
      rcases Nat.eq_zero_or_pos m with h0 | h0
      · exact memFills_none A n c l w i m x q h2 hm hL h0
      · exact memFills_some A n c l w i m x q h2 hm hL h0
  · have hd : decide ((2000 : Int) < (n : Int)) = true := decide_eq_true (by omega)
    clear hm
    go_enter Try.func4, Try.ntmps4
    go_wp2_with (go_at_call 8; refine (mawake_any _).mono ?_; rintro e w1 ⟨rfl, hb1⟩; have HB1 := Lib.hid hb1; clear hb1)
    go_ret
    exact ⟨rfl, HB1.out⟩
end
end Go.Proofs.Ytkdpefkllchadaa
