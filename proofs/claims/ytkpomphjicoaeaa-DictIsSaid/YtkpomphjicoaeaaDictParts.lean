/-
  What the smaller calls of package dict answer: capitals, names, whether an operation is found, places and their numbers.
-/
import Derived.Test.YtkpomphjicoaeaaDictEq
import Derived.Test.YtkpomphjicoaeaaOpCalls
namespace Go.Proofs.Ytkpomphjicoaeaa
open Go.RowKit

theorem upperS_is (S T : ByteArray) (hs : S.size ≤ 2000) (hT : up S = T) (w : World) :
    Calls Try.prog 31 #[.string S] w fun e w' => e = .returned (.string T) ∧ Below w.heap.size w w' :=
  upper_is S.data.toList S T (own_mk S) (by rw [len_size]; exact hs) hT.symm w
theorem mayName_is (S : ByteArray) (b : Bool) (h : nmB S = b) (w : World) :
    Calls Try.prog 33 #[.string S] w fun e w' => e = .returned (.bool b) ∧ w = w' := by
  unfold nmB at h
  by_cases h1 : 1 ≤ S.size
  · have g1 : decide (1 ≤ S.size) = true := by simpa using h1
    by_cases h2 : S.size ≤ 31
    · have g2 : decide ((S.size : Int) ≤ 31) = true := by simp; omega
      obtain rfl : b = true := by rw [← h]; simp; omega
      clear h
      go_enter Try.func33, Try.ntmps33
      go_wp2
      go_ret
      exact ⟨rfl, rfl⟩
    · have g2 : decide ((S.size : Int) ≤ 31) = false := by simp; omega
      obtain rfl : b = false := by rw [← h]; simp; omega
      clear h
      go_enter Try.func33, Try.ntmps33
      go_wp2
      go_ret
      exact ⟨rfl, rfl⟩
  · have g1 : decide (1 ≤ S.size) = false := by simpa using h1
    obtain rfl : b = false := by rw [← h]; simp; omega
    clear h
    go_enter Try.func33, Try.ntmps33
    go_wp2
    go_ret
    exact ⟨rfl, rfl⟩
theorem mayFind_is (v : Int) (b : Bool) (h : opB v = b) (w : World) :
    Calls Try.prog 36 #[.int .i64 v] w fun e w' => e = .returned (.bool b) ∧ Below w.heap.size w w' := by
  unfold opB at h
  obtain ⟨A, hA⟩ : ∃ A : ByteArray, A = ⟨(opR v).1.toArray⟩ := ⟨_, rfl⟩
  have HN := Lib.hid (name_is v A hA)
  by_cases hv : 0 ≤ v ∧ v < 111
  · obtain ⟨k, rfl⟩ : ∃ k : Nat, v = (k : Int) := ⟨v.toNat, by omega⟩
    have h0 : (A.toList == []) = false := by rw [hA, ByteArray.toList_mk]; simpa using opR_some k (by omega)
    have h1 : (A.toList != []) = true := by unfold bne; rw [h0]; rfl
    have HH := Lib.hid (hidden_is (k : Int) (!b) (by rw [← h]; simp; omega))
    clear h hA
    cases b
    all_goals
      go_enter Try.func36, Try.ntmps36
      go_wp2_with (first
        | (go_at_call 29; refine (HN.out _).mono ?_; rintro e w1 ⟨rfl, hb1⟩; have HB := Lib.hid hb1; clear hb1)
        | (go_at_call 30; refine (HH.out _).mono ?_; rintro e w2 ⟨rfl, hb2⟩; have HB2 := Lib.hid (below_then HB.out hb2); clear hb2))
      go_ret
      exact ⟨rfl, HB2.out⟩
  · rw [opR_out v (by omega)] at hA
    obtain rfl : b = false := by rw [← h, decide_eq_false hv]; rfl
    have h0 : (A.toList == []) = true := by rw [hA, ByteArray.toList_mk]; rfl
    have h1 : (A.toList != []) = false := by unfold bne; rw [h0]; rfl
    clear h hA
    go_enter Try.func36, Try.ntmps36
    go_wp2_with (go_at_call 29; refine (HN.out _).mono ?_; rintro e w1 ⟨rfl, hb1⟩; have HB := Lib.hid hb1; clear hb1)
    go_ret
    exact ⟨rfl, HB.out⟩
set_option maxHeartbeats 400000 in
theorem unbroken_is (S : ByteArray) (b : Bool) (hs : S.size ≤ 2000) (h : bkB S = b) (w : World) :
    Calls Try.prog 35 #[.string S] w fun e w' => e = .returned (.bool b) ∧ Below w.heap.size w w' := by
  obtain ⟨T, hT⟩ : ∃ T : ByteArray, T = ⟨(scT S.data.toList (scS scB S.data.toList 0) (scS (scN 32) S.data.toList (scS scB S.data.toList 0))).toArray⟩ := ⟨_, rfl⟩
  obtain ⟨n, hn⟩ : ∃ n : Nat, min (scS (scN 32) S.data.toList (scS scB S.data.toList 0) + 1) S.data.toList.length = n := ⟨_, rfl⟩
  have HW := Lib.hid (word_is S.data.toList 0 _ _ _ S T (own_mk S) (by rw [len_size]; exact hs) rfl rfl hn hT)
  have hq : nEq T S = b := by
    rw [← h]
    unfold nEq bkB
    rw [Bool.eq_iff_iff, decide_eq_true_eq, ← unbroken_iff, hT]
  have g := nEq_toL hq
  clear h hT hq hn
  go_enter Try.func35, Try.ntmps35
  go_wp2_with (go_at_call 43; refine (HW.out _).mono ?_; rintro e w1 ⟨rfl, hb1⟩; have HB := Lib.hid hb1; clear hb1)
  go_ret
  exact ⟨rfl, HB.out.trans ((below_one _ _).mono HB.out.size)⟩
set_option maxHeartbeats 400000 in
theorem addr_is (t p r : Int) (h : dP t p = r) (w : World) :
    Calls Try.prog 24 #[.agg #[.int .i64 t, .int .i64 p]] w fun e w' => e = .returned (.int .i64 r) ∧ Below w.heap.size w w' := by
  by_cases h1 : t < 0
  · obtain rfl : r = -1 := by rw [← h, dP_no (by omega)]
    clear h
    go_enter Try.func24, Try.ntmps24
    go_wp2
    go_ret
    exact ⟨rfl, below_one _ _⟩
  · by_cases h2 : 1000000 < t
    · obtain rfl : r = -1 := by rw [← h, dP_no (by omega)]
      clear h
      go_enter Try.func24, Try.ntmps24
      go_wp2
      go_ret
      exact ⟨rfl, below_one _ _⟩
    · by_cases h3 : p < 0
      · obtain rfl : r = -1 := by rw [← h, dP_no (by omega)]
        clear h
        go_enter Try.func24, Try.ntmps24
        go_wp2
        go_ret
        exact ⟨rfl, below_one _ _⟩
      · by_cases h4 : 4096 ≤ p
        · obtain rfl : r = -1 := by rw [← h, dP_no (by omega)]
          clear h
          go_enter Try.func24, Try.ntmps24
          go_wp2
          go_ret
          exact ⟨rfl, below_one _ _⟩
        · obtain rfl : r = t * 4096 + p := by rw [← h, dP_yes (by omega)]
          clear h
          have g1 : 0 ≤ t := by omega
          have g2 : t ≤ 1000000 := by omega
          have g3 : 0 ≤ p := by omega
          have g4 : p < 4096 := by omega
          go_enter Try.func24, Try.ntmps24
          go_wp2
          go_ret
          exact ⟨rfl, below_one _ _⟩
set_option maxHeartbeats 400000 in
theorem at_is (n t p : Int) (b : Bool) (hn : n ≤ 9223372036854775807) (hb : dOk n = b) (ht : dT n = t) (hp : dQ n = p) (w : World) :
    Calls Try.prog 19 #[.int .i64 n] w fun e w' => e = .returned (.tuple #[.agg #[.int .i64 t, .int .i64 p], .bool b]) ∧ Below w.heap.size w w' := by
  unfold dT at ht
  unfold dQ at hp
  rw [hb] at ht hp
  unfold dOk at hb
  by_cases h1 : n < 0
  · obtain rfl : b = false := by rw [← hb]; simp; omega
    obtain rfl : t = 0 := ht.symm
    obtain rfl : p = 0 := hp.symm
    clear hb ht hp
    go_enter Try.func19, Try.ntmps19
    go_wp2
    refine bodyPost_ret (v := .tuple #[.agg #[.int .i64 0, .int .i64 0], .bool false]) (by simp [results, Try.results19, go_sem]) rfl ⟨rfl, ?_⟩
    exact below_one _ _
  · have g1 : 0 ≤ n := by omega
    have hw : wrap64 (n.tdiv 4096) = n / 4096 := by rw [Int.tdiv_eq_ediv_of_nonneg g1]; unfold wrap64; omega
    clear hn h1
    by_cases h2 : 1000000 < n / 4096
    · obtain rfl : b = false := by rw [← hb]; simp; omega
      obtain rfl : t = 0 := ht.symm
      obtain rfl : p = 0 := hp.symm
      clear hb ht hp
      go_enter Try.func19, Try.ntmps19
      go_wp2
      refine bodyPost_ret (v := .tuple #[.agg #[.int .i64 0, .int .i64 0], .bool false]) (by simp [results, Try.results19, go_sem]) rfl ⟨rfl, ?_⟩
      exact below_one _ _
    · obtain rfl : b = true := by rw [← hb]; simp; omega
      obtain rfl : t = n / 4096 := ht.symm
      obtain rfl : p = n % 4096 := hp.symm
      clear hb
      go_enter Try.func19, Try.ntmps19
      go_wp2
      refine bodyPost_ret (v := .tuple #[.agg #[.int .i64 (n / 4096), .int .i64 (n % 4096)], .bool true]) (by simp [results, Try.results19, go_sem]) rfl ⟨rfl, ?_⟩
      exact below_one _ _
end Go.Proofs.Ytkpomphjicoaeaa
