/-
  What the document's own calls of layer 11 answer: places and their numbers, whether a name or a word may be, who is found.
-/
import Derived.Test.YtkpomphjicoaeaaDictAt
import Derived.Test.YtkpomphjicoaeaaRef07Words
namespace Go.Proofs.Ytkpomphjicoaeaa
open Go.RowKit

theorem rupS_is (S T : ByteArray) (hs : S.size ≤ 2000) (hT : up S = T) (w : World) :
    Calls Try.prog 32 #[.string S] w fun e w' => e = .returned (.string T) ∧ Below w.heap.size w w' :=
  rupper_is S.data.toList S T (own_mk S) (by rw [len_size]; exact hs) hT.symm w
set_option maxHeartbeats 400000 in
theorem raddr11_is (t p r : Int) (h : dP t p = r) (w : World) :
    Calls Try.prog 25 #[.agg #[.int .i64 t, .int .i64 p]] w fun e w' => e = .returned (.int .i64 r) ∧ Below w.heap.size w w' := by
  by_cases h1 : t < 0
  · obtain rfl : r = -1 := by rw [← h, dP_no (by omega)]
    clear h
    go_enter Try.func25, Try.ntmps25
    go_wp2
    go_ret
    exact ⟨rfl, below_one _ _⟩
  · by_cases h2 : 1000000 < t
    · obtain rfl : r = -1 := by rw [← h, dP_no (by omega)]
      clear h
      go_enter Try.func25, Try.ntmps25
      go_wp2
      go_ret
      exact ⟨rfl, below_one _ _⟩
    · by_cases h3 : p < 0
      · obtain rfl : r = -1 := by rw [← h, dP_no (by omega)]
        clear h
        go_enter Try.func25, Try.ntmps25
        go_wp2
        go_ret
        exact ⟨rfl, below_one _ _⟩
      · by_cases h4 : 4096 ≤ p
        · obtain rfl : r = -1 := by rw [← h, dP_no (by omega)]
          clear h
          go_enter Try.func25, Try.ntmps25
          go_wp2
          go_ret
          exact ⟨rfl, below_one _ _⟩
        · obtain rfl : r = t * 4096 + p := by rw [← h, dP_yes (by omega)]
          clear h
          have g1 : 0 ≤ t := by omega
          have g2 : t ≤ 1000000 := by omega
          have g3 : 0 ≤ p := by omega
          have g4 : p < 4096 := by omega
          go_enter Try.func25, Try.ntmps25
          go_wp2
          go_ret
          exact ⟨rfl, below_one _ _⟩
set_option maxHeartbeats 400000 in
theorem rat11_is (n t p : Int) (b : Bool) (hn : n ≤ 9223372036854775807) (hb : dOk n = b) (ht : dT n = t) (hp : dQ n = p) (w : World) :
    Calls Try.prog 20 #[.int .i64 n] w fun e w' => e = .returned (.tuple #[.agg #[.int .i64 t, .int .i64 p], .bool b]) ∧ Below w.heap.size w w' := by
  unfold dT at ht
  unfold dQ at hp
  rw [hb] at ht hp
  unfold dOk at hb
  by_cases h1 : n < 0
  · obtain rfl : b = false := by rw [← hb]; simp; omega
    obtain rfl : t = 0 := ht.symm
    obtain rfl : p = 0 := hp.symm
    clear hb ht hp
    go_enter Try.func20, Try.ntmps20
    go_wp2
    refine bodyPost_ret (v := .tuple #[.agg #[.int .i64 0, .int .i64 0], .bool false]) (by simp [results, Try.results20, go_sem]) rfl ⟨rfl, ?_⟩
    exact below_one _ _
  · have g1 : 0 ≤ n := by omega
    have hw : wrap64 (n.tdiv 4096) = n / 4096 := by rw [Int.tdiv_eq_ediv_of_nonneg g1]; unfold wrap64; omega
    clear hn h1
    by_cases h2 : 1000000 < n / 4096
    · obtain rfl : b = false := by rw [← hb]; simp; omega
      obtain rfl : t = 0 := ht.symm
      obtain rfl : p = 0 := hp.symm
      clear hb ht hp
      go_enter Try.func20, Try.ntmps20
      go_wp2
      refine bodyPost_ret (v := .tuple #[.agg #[.int .i64 0, .int .i64 0], .bool false]) (by simp [results, Try.results20, go_sem]) rfl ⟨rfl, ?_⟩
      exact below_one _ _
    · obtain rfl : b = true := by rw [← hb]; simp; omega
      obtain rfl : t = n / 4096 := ht.symm
      obtain rfl : p = n % 4096 := hp.symm
      clear hb
      go_enter Try.func20, Try.ntmps20
      go_wp2
      refine bodyPost_ret (v := .tuple #[.agg #[.int .i64 (n / 4096), .int .i64 (n % 4096)], .bool true]) (by simp [results, Try.results20, go_sem]) rfl ⟨rfl, ?_⟩
      exact below_one _ _
/-- The byte at a place of a text. -/
theorem byte_at (S : ByteArray) (j : Nat) (h : j < S.size) : ∃ c : UInt8, S.data.toList[j]? = some c ∧ S[j]'h = c := by
  refine ⟨S[j]'h, ?_, rfl⟩
  rw [List.getElem?_eq_getElem (by rw [len_size]; exact h)]
  simp [ByteArray.getElem_eq_getElem_data]
theorem all_nextB (f : UInt8 → Bool) (l : List UInt8) (j : Nat) (c : UInt8) (h : l[j]? = some c) : (l.take (j + 1)).all f = ((l.take j).all f && f c) := by
  have hj : j < l.length := by
    rcases Nat.lt_or_ge j l.length with h1 | h1
    · exact h1
    · rw [List.getElem?_eq_none h1] at h; cases h
  rw [List.take_succ_eq_append_getElem hj, List.all_append]
  rw [List.getElem?_eq_getElem hj] at h
  injection h with h
  rw [h]
  simp
theorem all_notB (f : UInt8 → Bool) (l : List UInt8) (j : Nat) (c : UInt8) (h : l[j]? = some c) (hc : f c = false) : l.all f = false := by
  rw [List.all_eq_false]
  exact ⟨c, List.mem_of_getElem? h, by rw [hc]; decide⟩
def rnB (S : ByteArray) : Bool := nmB S && (cpB S && bkB S)
set_option maxHeartbeats 1000000 in
theorem rnamed_is (S : ByteArray) (b : Bool) (hs : S.size ≤ 2000) (h : rnB S = b) (w : World) :
    Calls Try.prog 37 #[.string S] w fun e w' => e = .returned (.bool b) ∧ Below w.heap.size w w' := by
  obtain ⟨T, hT⟩ : ∃ T, up S = T := ⟨_, rfl⟩
  have HT := Lib.hid hT
  have HB := Lib.hid h
  have hcp : nEq T S = cpB S := by
    rw [← hT]; unfold cpB
    rw [Bool.eq_iff_iff, nEq_iff, nEq_iff]; exact eq_comm
  have HC := Lib.hid hcp
  clear h hT hcp
  go_enter Try.func37, Try.ntmps37
  go_wp2
  go_loop [3] (fun i => ∃ j : Nat, i = .int .i64 j ∧ j ≤ S.size ∧ ((S.data.toList.take j).all fun c => !scB c) = true) (fun i => S.size - (intOf i).toNat)
  case atStart => exact ⟨0, rfl, Nat.zero_le _, rfl⟩
  case round =>
    obtain ⟨j, rfl, hj, ha⟩ := hrel
    have HA := Lib.hid ha
    clear ha
    by_cases hlt : j < S.size
    · obtain ⟨c, hc, hg⟩ := byte_at S j hlt
      have HN := Lib.hid (all_nextB (fun c => !scB c) _ j c hc)
      have HO := Lib.hid (all_notB (fun c => !scB c) _ j c hc)
      have hgl : S[j]'hlt = c := hg
      clear hc hg
      by_cases hb : scB c = true
      · obtain rfl : false = b := by
          rw [← HB.out]; unfold rnB bkB
          rw [HO.out (by rw [hb]; rfl)]; simp
        have g : decide ((c.toNat : Int) ≤ 32) = true := by
          unfold scB at hb
          simp at hb ⊢
          omega
        clear hb
        go_wp2
        go_ret
        exact ⟨rfl, Below.refl _ _⟩
      · have hb2 : scB c = false := by simpa using hb
        have g : decide ((c.toNat : Int) ≤ 32) = false := by
          unfold scB at hb2
          simp at hb2 ⊢
          omega
        have HX : Hid (((S.data.toList.take (j + 1)).all fun c => !scB c) = true) := Lib.hid (by rw [HN.out, HA.out, hb2]; rfl)
        clear hb hb2
        go_wp2
        go_round
        case rel => exact ⟨j + 1, by go_num, by omega, HX.out⟩
        case measure => simp [intOf] <;> omega
    · obtain rfl : j = S.size := by omega
      have hbk : bkB S = true := by
        unfold bkB
        have := HA.out
        rw [List.take_of_length_le (by rw [len_size]; exact Nat.le_refl _)] at this
        exact this
      have hb := HB.out
      unfold rnB at hb
      rw [hbk, Bool.and_true] at hb
      clear hbk
      by_cases h1 : 1 ≤ S.size
      · have g1 : decide (1 ≤ S.size) = true := by simpa using h1
        by_cases h2 : S.size ≤ 31
        · have g2 : decide ((S.size : Int) ≤ 31) = true := by simp; omega
          have hn : nmB S = true := by unfold nmB; simp; omega
          rw [hn, Bool.true_and, ← HC.out] at hb
          have g := nEq_toL hb
          clear hb hn
          go_wp2_with (go_at_call 32; refine (rupS_is _ _ hs HT.out _).mono ?_; rintro e w1 ⟨rfl, hb1⟩; have HB1 := Lib.hid hb1; clear hb1)
          go_ret
          exact ⟨rfl, HB1.out⟩
        · have g2 : decide ((S.size : Int) ≤ 31) = false := by simp; omega
          have hn : nmB S = false := by unfold nmB; simp; omega
          rw [hn, Bool.false_and] at hb
          subst hb
          clear hn
          go_wp2
          go_ret
          exact ⟨rfl, Below.refl _ _⟩
      · have g1 : decide (1 ≤ S.size) = false := by simpa using h1
        have hn : nmB S = false := by unfold nmB; simp; omega
        rw [hn, Bool.false_and] at hb
        subst hb
        clear hn
        go_wp2
        go_ret
        exact ⟨rfl, Below.refl _ _⟩
set_option maxHeartbeats 1000000 in
theorem rfind11_any (A : Option Addr) (n c : Nat) (l : List En) (S : ByteArray) (o : Option Nat) (w : World) (hn : n ≤ 100000) (hs : S.size ≤ 2000) (h : Ens w A n c l) (ho : dF l S = o) :
    Calls Try.prog 13 #[.slice A n c, .string S] w (FindPost o w) := by
  unfold dF at ho
  obtain ⟨T, hT⟩ : ∃ T, up S = T := ⟨_, rfl⟩
  have HT := Lib.hid hT
  have H := Lib.hid h
  have hTz : T.size = S.size := by rw [← hT, up_size]
  rw [hT, h.len] at ho
  have HO := Lib.hid ho
  by_cases h0 : S.size = 0
  · have g0 : (T.toList == []) = true := by rw [emp_yes (by omega : T.size = 0), toL]; rfl
    have g1 : (T.toList != []) = false := by unfold bne; rw [g0]; rfl
    have HX : Hid (none = o) := Lib.hid (by rw [← HO.out, if_pos h0])
    clear h ho hT hTz h0
    go_enter Try.func13, Try.ntmps13
    go_wp2_with (go_at_call 32; refine (rupS_is _ _ hs HT.out _).mono ?_; rintro e w1 ⟨rfl, hb1⟩; have HB := Lib.hid hb1; clear hb1)
    go_loop [7] (fun i => ∃ z : Int, i = .int .i64 z ∧ -1 ≤ z ∧ z < (n : Int)) (fun i => (intOf i + 1).toNat)
    case atStart => exact ⟨(n : Int) - 1, rfl, by omega, by omega⟩
    case round =>
      obtain ⟨z, rfl, hz, hz2⟩ := hrel
      by_cases hp : 0 ≤ z
      · obtain ⟨q, rfl⟩ : ∃ q : Nat, z = (q : Int) := ⟨z.toNat, by omega⟩
        have hq : q < n := by omega
        obtain ⟨xb, xo, rfl, hbl, f0, f1, f2, f3, f4, f5⟩ := (H.out.below HB.out).at_ q hq
        generalize l.getD q e0 = e at *
        obtain ⟨R, m, k, v, t, p⟩ := e
        simp only at f0 f1 f2 f3 f4 f5
        cases he : nEq R T
        · have g := nEq_toL he
          clear he
          go_wp2
          go_round
          case rel => exact ⟨(q : Int) - 1, rfl, by omega, by omega⟩
          case measure => simp [intOf] <;> omega
        · have g := nEq_toL he
          clear he
          go_wp2
          go_round
          case rel => exact ⟨(q : Int) - 1, rfl, by omega, by omega⟩
          case measure => simp [intOf] <;> omega
      · obtain rfl : z = -1 := by omega
        go_wp2
        go_ret2
        exact ⟨by rw [← HX.out]; rfl, HB.out⟩
  · have g0 : (T.toList == []) = false := emp_no (by omega)
    have g1 : (T.toList != []) = true := by unfold bne; rw [g0]; rfl
    have HO2 : Hid (dG l T n = o) := Lib.hid (by rw [← HO.out, if_neg h0])
    clear h ho hT hTz h0 HO
    go_enter Try.func13, Try.ntmps13
    go_wp2_with (go_at_call 32; refine (rupS_is _ _ hs HT.out _).mono ?_; rintro e w1 ⟨rfl, hb1⟩; have HB := Lib.hid hb1; clear hb1)
    go_loop [7] (fun i => ∃ z : Int, i = .int .i64 z ∧ -1 ≤ z ∧ z < (n : Int) ∧ dG l T (z + 1).toNat = dG l T n) (fun i => (intOf i + 1).toNat)
    case atStart => exact ⟨(n : Int) - 1, rfl, by omega, by omega, by rw [show ((n : Int) - 1 + 1).toNat = n by omega]⟩
    case round =>
      obtain ⟨z, rfl, hz, hz2, hg⟩ := hrel
      have HG := Lib.hid hg
      clear hg
      by_cases hp : 0 ≤ z
      · obtain ⟨q, rfl⟩ : ∃ q : Nat, z = (q : Int) := ⟨z.toNat, by omega⟩
        have hq : q < n := by omega
        obtain ⟨xb, xo, rfl, hbl, f0, f1, f2, f3, f4, f5⟩ := (H.out.below HB.out).at_ q hq
        have HY := Lib.hid (fun h => dG_yes (l := l) (U := T) (n := q) h)
        have HN := Lib.hid (fun h => dG_no (l := l) (U := T) (n := q) h)
        generalize l.getD q e0 = e at *
        obtain ⟨R, m, k, v, t, p⟩ := e
        simp only at f0 f1 f2 f3 f4 f5
        cases he : nEq R T
        · have g := nEq_toL he
          have HX : Hid (dG l T ((q : Int) - 1 + 1).toNat = dG l T n) := Lib.hid (by rw [show ((q : Int) - 1 + 1).toNat = q by omega, ← HG.out, show ((q : Int) + 1).toNat = q + 1 by omega, HN.out he])
          clear he
          go_wp2
          go_round
          case rel => exact ⟨(q : Int) - 1, rfl, by omega, by omega, HX.out⟩
          case measure => simp [intOf] <;> omega
        · have g := nEq_toL he
          have HX : Hid (o = some q) := Lib.hid (by rw [← HO2.out, ← HG.out, show ((q : Int) + 1).toNat = q + 1 by omega, HY.out he])
          clear he
          go_wp2
          go_ret2
          exact ⟨by rw [HX.out]; rfl, HB.out⟩
      · obtain rfl : z = -1 := by omega
        have HX : Hid (o = none) := Lib.hid (by rw [← HO2.out, ← HG.out]; rfl)
        go_wp2
        go_ret2
        exact ⟨by rw [HX.out]; rfl, HB.out⟩
/-- A word that may be, as the document tells it. -/
theorem saneB_ref (e : En) : saneB e = (rnB e.s && kdB e) := rfl
set_option maxHeartbeats 1000000 in
theorem rsane11_is (S : ByteArray) (m : Bool) (k v t p : Int) (b : Bool) (hs : S.size ≤ 2000) (h : saneB ⟨S, m, k, v, t, p⟩ = b) (w : World) :
    Calls Try.prog 27 #[.agg #[.string S, .bool m, .int .i64 k, .int .i64 v, .int .i64 t, .int .i64 p]] w fun e w' => e = .returned (.bool b) ∧ Below w.heap.size w w' := by
  rw [saneB_ref] at h
  have q := eqPP
  have X0 := Lib.hid (Ev.new w 26 ⟨S, m, k, v, t, p⟩)
  have HB := Lib.hid (below_one w (.cells #[.string S, .bool m, .int .i64 k, .int .i64 v, .int .i64 t, .int .i64 p] 26))
  obtain ⟨n1, hn⟩ : ∃ b, rnB S = b := ⟨_, rfl⟩
  obtain ⟨n4, hd⟩ : ∃ b, kdB ⟨S, m, k, v, t, p⟩ = b := ⟨_, rfl⟩
  have HN := Lib.hid hn
  have HD := Lib.hid hd
  rw [hn, hd] at h
  clear hn hd
  cases n1
  · obtain rfl : false = b := h
    go_enter Try.func27, Try.ntmps27
    go_wp2_with (go_at_call 37; refine (rnamed_is _ _ hs HN.out _).mono ?_; rintro e w1 ⟨rfl, hb1⟩; have HB1 := Lib.hid (below_then HB.out hb1); clear hb1)
    go_ret
    exact ⟨rfl, HB1.out⟩
  · obtain rfl : n4 = b := h
    rcases kd_cases k with rfl | rfl | rfl | rfl | rfl | hk
    · by_cases hv : 0 ≤ v ∧ v < 111
      · obtain ⟨b, hb⟩ : ∃ b, opH (opR v).1 = b := ⟨_, rfl⟩
        have HH := Lib.hid hb
        have hr : (!b && (t == 0 && p == 0)) = n4 := by
          rw [← HD.out, ← hb]; unfold kdB opB
          rw [if_pos rfl, decide_eq_true hv, Bool.true_and]
        have g1 : decide (0 ≤ v) = true := decide_eq_true hv.1
        have g2 : decide (v < 111) = true := decide_eq_true hv.2
        clear hb hv HD
        cases b
        · rw [Bool.not_false, Bool.true_and] at hr
          go_enter Try.func27, Try.ntmps27
          go_wp2_with (first
            | (go_at_call 37; refine (rnamed_is _ _ hs HN.out _).mono ?_; rintro e w1 ⟨rfl, hb1⟩; have HB1 := Lib.hid (below_then HB.out hb1); have X1 := Lib.hid (X0.out.keep hb1); clear hb1; have x2 := X1.out.c2; have x3 := X1.out.c3; have x4 := X1.out.c4; have x5 := X1.out.c5; have xlt := X1.out.lt)
            | (go_at_call 38; refine (rhidden_is _ _ HH.out _).mono ?_; rintro e w2 ⟨rfl, hb2⟩; have HB2 := Lib.hid (below_then HB1.out hb2); have X2 := Lib.hid (X1.out.keep hb2); clear hb2 x2 x3 x4 x5 xlt; have x4 := X2.out.c4; have x5 := X2.out.c5; have xlt := X2.out.lt))
          go_ret
          exact ⟨by rw [← hr]; rfl, HB2.out⟩
        · obtain rfl : false = n4 := hr
          go_enter Try.func27, Try.ntmps27
          go_wp2_with (first
            | (go_at_call 37; refine (rnamed_is _ _ hs HN.out _).mono ?_; rintro e w1 ⟨rfl, hb1⟩; have HB1 := Lib.hid (below_then HB.out hb1); have X1 := Lib.hid (X0.out.keep hb1); clear hb1; have x2 := X1.out.c2; have x3 := X1.out.c3; have x4 := X1.out.c4; have x5 := X1.out.c5; have xlt := X1.out.lt)
            | (go_at_call 38; refine (rhidden_is _ _ HH.out _).mono ?_; rintro e w2 ⟨rfl, hb2⟩; have HB2 := Lib.hid (below_then HB1.out hb2); have X2 := Lib.hid (X1.out.keep hb2); clear hb2 x2 x3 x4 x5 xlt; have x4 := X2.out.c4; have x5 := X2.out.c5; have xlt := X2.out.lt))
          go_ret
          exact ⟨rfl, HB2.out⟩
      · have hz : n4 = false := by
          rw [← HD.out]; unfold kdB opB
          rw [if_pos rfl, decide_eq_false hv, Bool.false_and, Bool.false_and]
        subst hz
        clear HD
        by_cases h0 : 0 ≤ v
        · have g1 : decide (0 ≤ v) = true := decide_eq_true h0
          have g2 : decide (v < 111) = false := decide_eq_false (by omega)
          clear hv h0
          go_enter Try.func27, Try.ntmps27
          go_wp2_with (first
            | (go_at_call 37; refine (rnamed_is _ _ hs HN.out _).mono ?_; rintro e w1 ⟨rfl, hb1⟩; have HB1 := Lib.hid (below_then HB.out hb1); have X1 := Lib.hid (X0.out.keep hb1); clear hb1; have x2 := X1.out.c2; have x3 := X1.out.c3; have x4 := X1.out.c4; have x5 := X1.out.c5; have xlt := X1.out.lt))
          go_ret
          exact ⟨rfl, HB1.out⟩
        · have g1 : decide (0 ≤ v) = false := decide_eq_false h0
          clear hv h0
          go_enter Try.func27, Try.ntmps27
          go_wp2_with (first
            | (go_at_call 37; refine (rnamed_is _ _ hs HN.out _).mono ?_; rintro e w1 ⟨rfl, hb1⟩; have HB1 := Lib.hid (below_then HB.out hb1); have X1 := Lib.hid (X0.out.keep hb1); clear hb1; have x2 := X1.out.c2; have x3 := X1.out.c3; have x4 := X1.out.c4; have x5 := X1.out.c5; have xlt := X1.out.lt))
          go_ret
          exact ⟨rfl, HB1.out⟩
    · obtain ⟨r, hr⟩ : ∃ r, dP t p = r := ⟨_, rfl⟩
      have HR := Lib.hid hr
      have hd : decide (0 ≤ r) = n4 := by rw [← HD.out, ← hr]; rfl
      clear hr HD
      go_enter Try.func27, Try.ntmps27
      go_wp2_with (first
        | (go_at_call 37; refine (rnamed_is _ _ hs HN.out _).mono ?_; rintro e w1 ⟨rfl, hb1⟩; have HB1 := Lib.hid (below_then HB.out hb1); have X1 := Lib.hid (X0.out.keep hb1); clear hb1; have x2 := X1.out.c2; have x3 := X1.out.c3; have x4 := X1.out.c4; have x5 := X1.out.c5; have xlt := X1.out.lt)
        | (go_at_call 25; refine (raddr11_is _ _ _ HR.out _).mono ?_; rintro e w2 ⟨rfl, hb2⟩; have HB2 := Lib.hid (below_then HB1.out hb2); clear hb2))
      go_ret
      exact ⟨by rw [← hd]; rfl, HB2.out⟩
    · obtain rfl : true = n4 := HD.out
      clear HD
      go_enter Try.func27, Try.ntmps27
      go_wp2_with (first
        | (go_at_call 37; refine (rnamed_is _ _ hs HN.out _).mono ?_; rintro e w1 ⟨rfl, hb1⟩; have HB1 := Lib.hid (below_then HB.out hb1); have X1 := Lib.hid (X0.out.keep hb1); clear hb1; have x2 := X1.out.c2; have x3 := X1.out.c3; have x4 := X1.out.c4; have x5 := X1.out.c5; have xlt := X1.out.lt))
      go_ret
      exact ⟨rfl, HB1.out⟩
    · obtain rfl : true = n4 := HD.out
      clear HD
      go_enter Try.func27, Try.ntmps27
      go_wp2_with (first
        | (go_at_call 37; refine (rnamed_is _ _ hs HN.out _).mono ?_; rintro e w1 ⟨rfl, hb1⟩; have HB1 := Lib.hid (below_then HB.out hb1); have X1 := Lib.hid (X0.out.keep hb1); clear hb1; have x2 := X1.out.c2; have x3 := X1.out.c3; have x4 := X1.out.c4; have x5 := X1.out.c5; have xlt := X1.out.lt))
      go_ret
      exact ⟨rfl, HB1.out⟩
    · obtain ⟨r, hr⟩ : ∃ r, dP t p = r := ⟨_, rfl⟩
      have HR := Lib.hid hr
      have hd : decide (0 ≤ r) = n4 := by rw [← HD.out, ← hr]; rfl
      clear hr HD
      go_enter Try.func27, Try.ntmps27
      go_wp2_with (first
        | (go_at_call 37; refine (rnamed_is _ _ hs HN.out _).mono ?_; rintro e w1 ⟨rfl, hb1⟩; have HB1 := Lib.hid (below_then HB.out hb1); have X1 := Lib.hid (X0.out.keep hb1); clear hb1; have x2 := X1.out.c2; have x3 := X1.out.c3; have x4 := X1.out.c4; have x5 := X1.out.c5; have xlt := X1.out.lt)
        | (go_at_call 25; refine (raddr11_is _ _ _ HR.out _).mono ?_; rintro e w2 ⟨rfl, hb2⟩; have HB2 := Lib.hid (below_then HB1.out hb2); clear hb2))
      go_ret
      exact ⟨by rw [← hd]; rfl, HB2.out⟩
    · obtain ⟨k0, k1, k2, k3, k4⟩ := hk
      simp only [beq_eq_false_iff_ne] at k0 k1 k2 k3 k4
      have hz : n4 = false := by
        rw [← HD.out]; unfold kdB
        simp [k0, k1, k2, k3, k4]
      subst hz
      clear HD
      by_cases h0 : k < 0
      · have g1 : decide (k < 0) = true := decide_eq_true h0
        clear h0 k0 k1 k2 k3 k4
        go_enter Try.func27, Try.ntmps27
        go_wp2_with (first
          | (go_at_call 37; refine (rnamed_is _ _ hs HN.out _).mono ?_; rintro e w1 ⟨rfl, hb1⟩; have HB1 := Lib.hid (below_then HB.out hb1); have X1 := Lib.hid (X0.out.keep hb1); clear hb1; have x2 := X1.out.c2; have x3 := X1.out.c3; have x4 := X1.out.c4; have x5 := X1.out.c5; have xlt := X1.out.lt))
        go_ret
        exact ⟨rfl, HB1.out⟩
      · have g1 : decide (k < 0) = false := decide_eq_false h0
        have g2 : decide (4 < k) = true := decide_eq_true (by omega)
        clear h0 k0 k1 k2 k3 k4
        go_enter Try.func27, Try.ntmps27
        go_wp2_with (first
          | (go_at_call 37; refine (rnamed_is _ _ hs HN.out _).mono ?_; rintro e w1 ⟨rfl, hb1⟩; have HB1 := Lib.hid (below_then HB.out hb1); have X1 := Lib.hid (X0.out.keep hb1); clear hb1; have x2 := X1.out.c2; have x3 := X1.out.c3; have x4 := X1.out.c4; have x5 := X1.out.c5; have xlt := X1.out.lt))
        go_ret
        exact ⟨rfl, HB1.out⟩
end Go.Proofs.Ytkpomphjicoaeaa
