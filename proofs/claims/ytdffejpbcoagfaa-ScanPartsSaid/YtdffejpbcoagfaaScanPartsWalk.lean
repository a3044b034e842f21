/-
  The call of the statement ScanParts answers true at every text, number and byte; of what was there nothing has changed.
-/
import Derived.Test.YtdffejpbcoagfaaScanAwake
namespace Go.Proofs.Ytdffejpbcoagfaa
open Go.RowKit

set_option maxHeartbeats 1000000 in
theorem scanParts_big (S : ByteArray) (i : Int) (c : UInt8) (h : (1000 : Int) < (S.size : Int)) (W : World) (hM : MaxL W) :
    Calls Try.prog 5 #[.string S, .int .i64 i, .int .u8 (c.toNat : Int)] W fun e w' => e = .returned (.bool true) ∧ Below W.heap.size W w' := by
  have HM := Lib.hid hM
  clear hM
  go_enter Try.func5, Try.ntmps5
  go_wp2_with (go_at_call 9; refine (awake_any _ HM.out).mono ?_; rintro e w1 ⟨rfl, hb1⟩)
  go_ret
  exact ⟨rfl, hb1⟩
/-- No byte of it ends what is parsed. -/
def NoEnd (c : UInt8) (P : ByteArray) : Prop := ∀ m (h : m < P.size), ((P[m].toNat : Int) == (c.toNat : Int)) = false ∧ ((c.toNat : Int) = 32 → (32 : Int) < (P[m].toNat : Int))

set_option maxRecDepth 100000 in
set_option maxHeartbeats 2000000 in
theorem scanParts_end (S F : ByteArray) (i n : Int) (c : UInt8) (hs : S.size ≤ 1000) (hf : F.size ≤ 1000)  (W : World) (hM : MaxL W) (hno : NoEnd c F)
    (HL1 : Hid (∀ w, Calls Try.prog 17 #[.agg #[.string S, .int .i64 i]] w fun e w' => e = .returned (.string F) ∧ Below w.heap.size w w'))
    (HP : Hid (∀ w, Calls Try.prog 13 #[.agg #[.string S, .int .i64 i], .int .i64 (c.toNat : Int)] w fun e w' => e = .returned (.tuple #[.string F, .agg #[.string S, .int .i64 n]]) ∧ Below w.heap.size w w'))
    (HL2 : Hid (∀ w, Calls Try.prog 17 #[.agg #[.string S, .int .i64 n]] w fun e w' => e = .returned (.string ⟨#[]⟩) ∧ Below w.heap.size w w')) :
    Calls Try.prog 5 #[.string S, .int .i64 i, .int .u8 (c.toNat : Int)] W fun e w' => e = .returned (.bool true) ∧ Below W.heap.size W w' := by
  have HM := Lib.hid hM
  have HN := Lib.hid hno
  have hc8 : (0 : Int) ≤ (c.toNat : Int) ∧ (c.toNat : Int) ≤ 255 := by have := c.toNat_lt; omega
  have hd : decide ((1000 : Int) < (S.size : Int)) = false := decide_eq_false (by omega)
  clear hM hno
  have hc32 : ((c.toNat : Int) == 32) = true ∨ ((c.toNat : Int) == 32) = false := by cases ((c.toNat : Int) == 32) <;> simp
  rcases hc32 with hc32 | hc32
  all_goals
    go_enter Try.func5, Try.ntmps5
    go_wp2_with (first
      | (go_at_call 9; refine (awake_any _ HM.out).mono ?_; rintro e w1 ⟨rfl, hb1⟩; have H1 := Lib.hid hb1; clear hb1)
      | (go_at_call 13; (with_reducible refine (HP.out _).mono ?_); rintro e w3 ⟨rfl, hb3⟩; have H3 := Lib.hid (below_then H2.out hb3); clear hb3)
      | (go_at_call 17; have hh := H3; (with_reducible refine (HL2.out _).mono ?_); rintro e w4 ⟨rfl, hb4⟩; have H4 := Lib.hid (below_then (H3.out.alloc H3.out.size _) hb4); clear hb4)
      | (go_at_call 17; (with_reducible refine (HL1.out _).mono ?_); rintro e w2 ⟨rfl, hb2⟩; have X2 := Lib.hid ((Src.new w1 25 S i).keep hb2); have xs := X2.out.s; have xn := X2.out.n; have H2 := Lib.hid (below_then (H1.out.alloc H1.out.size _) hb2); clear hb2))
    clear xs xn
    go_loop [13] (fun t => ∃ m : Nat, t = .int .i64 m ∧ m ≤ F.size) (fun t => F.size - (intOf t).toNat)
    case atStart => exact ⟨0, rfl, Nat.zero_le _⟩
    case round =>
      obtain ⟨m, rfl, hm⟩ := hrel
      by_cases hp : m < F.size
      · obtain ⟨d, hd2⟩ : ∃ d, F[m]'hp = d := ⟨_, rfl⟩
        obtain ⟨q1, q2⟩ := HN.out m hp
        rw [hd2] at q1 q2
        have q3 : ((c.toNat : Int) == 32) = true → decide ((d.toNat : Int) < 32) = false := fun h => decide_eq_false (by have := q2 (by simpa using h); omega)
        clear q2
        try (have q4 := q3 hc32)
        clear q3
        go_wp2
        go_round
        case rel => exact ⟨m + 1, by go_num, by omega⟩
        case measure => simp [intOf]; omega
      · go_wp2
        go_ret
        exact ⟨rfl, H4.out⟩

set_option maxRecDepth 100000 in
set_option maxHeartbeats 2000000 in
theorem scanParts_cut (S F : ByteArray) (i n : Int) (c : UInt8) (hs : S.size ≤ 1000) (hf : F.size ≤ 1000) (P R : ByteArray) (d : UInt8) (hpz : P.size ≤ 1000) (hrz : R.size ≤ 1000) (hsum : F.size = P.size + 1 + R.size) (hx1 : F.extract 0 P.size = P) (hx2 : F.extract (P.size + 1) F.size = R) (hx3 : ∀ h, F[P.size]'h = d) (hD : ((d.toNat : Int) == (c.toNat : Int)) = true ∨ (((d.toNat : Int) == (c.toNat : Int)) = false ∧ ((c.toNat : Int) == 32) = true ∧ decide ((d.toNat : Int) < 32) = true)) (W : World) (hM : MaxL W) (hno : NoEnd c P)
    (HL1 : Hid (∀ w, Calls Try.prog 17 #[.agg #[.string S, .int .i64 i]] w fun e w' => e = .returned (.string F) ∧ Below w.heap.size w w'))
    (HP : Hid (∀ w, Calls Try.prog 13 #[.agg #[.string S, .int .i64 i], .int .i64 (c.toNat : Int)] w fun e w' => e = .returned (.tuple #[.string P, .agg #[.string S, .int .i64 n]]) ∧ Below w.heap.size w w'))
    (HL2 : Hid (∀ w, Calls Try.prog 17 #[.agg #[.string S, .int .i64 n]] w fun e w' => e = .returned (.string R) ∧ Below w.heap.size w w')) :
    Calls Try.prog 5 #[.string S, .int .i64 i, .int .u8 (c.toNat : Int)] W fun e w' => e = .returned (.bool true) ∧ Below W.heap.size W w' := by
  have HM := Lib.hid hM
  have HN := Lib.hid hno
  have hc8 : (0 : Int) ≤ (c.toNat : Int) ∧ (c.toNat : Int) ≤ 255 := by have := c.toNat_lt; omega
  have hd : decide ((1000 : Int) < (S.size : Int)) = false := decide_eq_false (by omega)
  clear hM hno
  have hc32 : ((c.toNat : Int) == 32) = true ∨ ((c.toNat : Int) == 32) = false := by cases ((c.toNat : Int) == 32) <;> simp
  rcases hc32 with hc32 | hc32
  all_goals
    go_enter Try.func5, Try.ntmps5
    go_wp2_with (first
      | (go_at_call 9; refine (awake_any _ HM.out).mono ?_; rintro e w1 ⟨rfl, hb1⟩; have H1 := Lib.hid hb1; clear hb1)
      | (go_at_call 13; (with_reducible refine (HP.out _).mono ?_); rintro e w3 ⟨rfl, hb3⟩; have H3 := Lib.hid (below_then H2.out hb3); clear hb3)
      | (go_at_call 17; have hh := H3; (with_reducible refine (HL2.out _).mono ?_); rintro e w4 ⟨rfl, hb4⟩; have H4 := Lib.hid (below_then (H3.out.alloc H3.out.size _) hb4); clear hb4)
      | (go_at_call 17; (with_reducible refine (HL1.out _).mono ?_); rintro e w2 ⟨rfl, hb2⟩; have X2 := Lib.hid ((Src.new w1 25 S i).keep hb2); have xs := X2.out.s; have xn := X2.out.n; have H2 := Lib.hid (below_then (H1.out.alloc H1.out.size _) hb2); clear hb2))
    clear xs xn
    go_loop [13] (fun t => ∃ m : Nat, t = .int .i64 m ∧ m ≤ P.size) (fun t => P.size - (intOf t).toNat)
    case atStart => exact ⟨0, rfl, Nat.zero_le _⟩
    case round =>
      obtain ⟨m, rfl, hm⟩ := hrel
      by_cases hp : m < P.size
      · obtain ⟨d, hd2⟩ : ∃ d, P[m]'hp = d := ⟨_, rfl⟩
        obtain ⟨q1, q2⟩ := HN.out m hp
        rw [hd2] at q1 q2
        have q3 : ((c.toNat : Int) == 32) = true → decide ((d.toNat : Int) < 32) = false := fun h => decide_eq_false (by have := q2 (by simpa using h); omega)
        clear q2
        try (have q4 := q3 hc32)
        clear q3
        go_wp2
        go_round
        case rel => exact ⟨m + 1, by go_num, by omega⟩
        case measure => simp [intOf]; omega
      · have b1 : (P.size + R.size == F.size) = false := by simp; omega
        have b2 : (P.size + 1 + R.size == F.size) = true := by simp; omega
        have b3 : ((P.size : Int) + (R.size : Int) == (F.size : Int)) = false := by simp; omega
        have b4 : ((P.size : Int) + 1 + (R.size : Int) == (F.size : Int)) = true := by simp; omega
        have b5 : P.size < F.size := by omega
        have b6 : P.size + 1 ≤ F.size := by omega
        have b7 : (P.size : Int) + 1 ≤ (F.size : Int) := by omega
        have HS := Lib.hid hsum
        clear hsum
        rcases hD with e1 | ⟨e1, e2, e3⟩
        · go_wp2
          go_ret
          exact ⟨rfl, H4.out⟩
        · first
            | (simp [hc32] at e2; done)
            | (clear hc32; go_wp2; go_ret; exact ⟨rfl, H4.out⟩)

theorem scE_no {c d : UInt8} (h : scE (c.toNat : Int) d = false) : ((d.toNat : Int) == (c.toNat : Int)) = false ∧ ((c.toNat : Int) = 32 → (32 : Int) < (d.toNat : Int)) := by
  unfold scE at h
  split at h
  · rename_i hc
    simp at h
    refine ⟨by rw [hc]; simp; omega, fun _ => by omega⟩
  · rename_i hc
    simp at h
    exact ⟨by simp; omega, fun h' => absurd h' hc⟩
theorem scE_yes {c d : UInt8} (h : scE (c.toNat : Int) d = true) : ((d.toNat : Int) == (c.toNat : Int)) = true ∨ (((d.toNat : Int) == (c.toNat : Int)) = false ∧ ((c.toNat : Int) == 32) = true ∧ decide ((d.toNat : Int) < 32) = true) := by
  unfold scE at h
  split at h
  · rename_i hc
    simp at h
    by_cases h2 : d.toNat = 32
    · left; simp; omega
    · right; refine ⟨by simp; omega, by simp [hc], by simp; omega⟩
  · rename_i hc
    simp at h
    left; simp; omega
theorem scanParts_walk (l : List UInt8) (i : Int) (c : UInt8) (W : World) (hM : MaxL W) :
    Calls Try.prog 5 #[.string ⟨l.toArray⟩, .int .i64 i, .int .u8 (c.toNat : Int)] W fun e w' => e = .returned (.bool true) ∧ Below W.heap.size W w' := by
  by_cases hl : 1000 < l.length
  · exact scanParts_big _ i c (by rw [size_mk]; omega) W hM
  · have hl2 : l.length ≤ 2000 := by omega
    obtain ⟨k, hk⟩ : ∃ k, scA l i = k := ⟨_, rfl⟩
    have hkl : k ≤ l.length := by rw [← hk]; exact scA_le l i
    obtain ⟨j, hj⟩ : ∃ j, scS (scN (c.toNat : Int)) l k = j := ⟨_, rfl⟩
    have hjl : j ≤ l.length := by rw [← hj]; exact scS_le _ _ _ hkl
    have hkj : k ≤ j := by rw [← hj]; exact scS_ge _ _ _
    obtain ⟨n, hn⟩ : ∃ n, min (j + 1) l.length = n := ⟨_, rfl⟩
    have hnl : n ≤ l.length := by omega
    have hTl := scT_length l k j hjl
    have HL1 := Lib.hid (left_is l i k _ _ rfl hl2 hk rfl)
    have HP := Lib.hid (parse_is l i (c.toNat : Int) k j n _ _ rfl hl2 hk hj hn rfl)
    have HL2 := Lib.hid (left_is l (n : Int) n _ _ rfl hl2 (scA_nat l n hnl) rfl)
    have hno : NoEnd c ⟨(scT l k j).toArray⟩ := by
      intro m hm
      have hm' : m < j - k := by rw [size_mk, hTl] at hm; exact hm
      have e : (⟨(scT l k j).toArray⟩ : ByteArray)[m]'hm = l[k + m]'(by omega) := by
        have := scT_get l k j m hm' hjl
        rw [← this]
        rfl
      rw [e]
      have h := scS_in (scN (c.toNat : Int)) l k (k + m) (by omega) (by rw [hj]; omega) (by omega)
      unfold scN at h
      exact scE_no (by simpa using h)
    by_cases hje : j = l.length
    · have hne : n = l.length := by omega
      have hF : scT l k j = l.drop k := by rw [hje, scT_own]
      rw [hF] at HP hno
      have hR : l.drop n = [] := by rw [hne]; simp
      rw [hR] at HL2
      exact scanParts_end _ _ i (n : Int) c (by rw [size_mk]; omega) (by rw [size_mk]; simp; omega) W hM hno HL1 HP HL2
    · have hne : n = j + 1 := by omega
      have hjlt : j < l.length := by omega
      refine scanParts_cut _ _ i (n : Int) c (by rw [size_mk]; omega) (by rw [size_mk]; simp; omega) _ _ (l[j]) (by rw [size_mk]; omega) ?_ ?_ ?_ ?_ ?_ ?_ W hM hno HL1 HP HL2
      · rw [size_mk]; simp; omega
      · rw [size_mk, size_mk, size_mk, hTl]; simp; omega
      · rw [size_mk, hTl]
        exact (ext_of (l := l.drop k) rfl 0 (j - k) (by unfold scT; simp))
      · rw [size_mk, size_mk, hTl]
        refine (ext_of (l := l.drop k) rfl _ _ ?_)
        rw [scT_own, List.drop_drop, hne]
        congr 3
        omega
      · intro h
        have e : ∀ q (hq : q < (l.drop k).length), (⟨(l.drop k).toArray⟩ : ByteArray)[q]'(by rw [size_mk]; exact hq) = l[k + q]'(by simp at hq; omega) := fun q hq => by
          show (l.drop k)[q] = _
          simp
        have h2 : (⟨(scT l k j).toArray⟩ : ByteArray).size = j - k := by rw [size_mk, hTl]
        simp only [h2]
        rw [e (j - k) (by simp; omega)]
        simp only [show k + (j - k) = j by omega]
      · refine scE_yes ?_
        have h := scS_stop (scN (c.toNat : Int)) l k (by rw [hj]; exact hjlt)
        simp only [hj] at h
        unfold scN at h
        simpa using h

end Go.Proofs.Ytdffejpbcoagfaa
