/-
  The call of the statement ScanWords answers true at every text; of what was there nothing has changed.
-/
import Derived.Test.YtdffejpbcoagfaaScanAwake
import Derived.Test.YtdffejpbcoagfaaScanWordMath
import Derived.Test.YtdffejpbcoagfaaScanRows
namespace Go.Proofs.Ytdffejpbcoagfaa
open Go.RowKit

theorem add_mk (a b : List UInt8) : (⟨a.toArray⟩ : ByteArray) ++ ⟨b.toArray⟩ = ⟨(a ++ b).toArray⟩ := by
  apply ByteArray.ext
  simp
set_option maxHeartbeats 1000000 in
theorem scanWords_big (S : ByteArray) (h : (1000 : Int) < (S.size : Int)) (W : World) (hM : MaxL W) :
    Calls Try.prog 4 #[.string S] W fun e w' => e = .returned (.bool true) ∧ Below W.heap.size W w' := by
  have HM := Lib.hid hM
  clear hM
  go_enter Try.func4, Try.ntmps4
  go_wp2_with (go_at_call 9; refine (awake_any _ HM.out).mono ?_; rintro e w1 ⟨rfl, hb1⟩)
  go_ret
  exact ⟨rfl, hb1⟩
/-- What holds at a round's head: k is how far the text has come, A is what was told. -/
def WrdSt (W : World) (B : Nat) (S : ByteArray) (l : List UInt8) (m : Nat) (Q : ByteArray) (wr : World) : Prop :=
  ∃ (k : Nat) (A : List UInt8), k ≤ l.length ∧ min m l.length ≤ k ∧ Q = ⟨A.toArray⟩ ∧ A ++ nbL (l.drop k) = nbL l ∧ Src wr B 25 S (k : Int) ∧ Below W.heap.size W wr
set_option maxRecDepth 100000 in
set_option maxHeartbeats 2000000 in
theorem scanWords_small (l : List UInt8) (S : ByteArray) (W : World) (hM : MaxL W) (hS : S = ⟨l.toArray⟩) (hl : l.length ≤ 1000) :
    Calls Try.prog 4 #[.string S] W fun e w' => e = .returned (.bool true) ∧ Below W.heap.size W w' := by
  have hz : S.size = l.length := by rw [hS, size_mk]
  have hd : decide ((1000 : Int) < (S.size : Int)) = false := decide_eq_false (by omega)
  have hsz : S.size ≤ 1000 := by omega
  have HM := Lib.hid hM
  have HS := Lib.hid hS
  have HZ := Lib.hid hz
  clear hM hS hz
  go_enter Try.func4, Try.ntmps4
  go_wp2_with (go_at_call 9; refine (awake_any _ HM.out).mono ?_; rintro e w1 ⟨rfl, hb1⟩; have H1 := Lib.hid hb1; clear hb1)
  have HB : Hid (W.heap.size ≤ w1.heap.size) := Lib.hid H1.out.size
  go_loopw [5, 6, 7, 8, 9] (fun t i _ _ _ wr => ∃ (m : Nat) (Q : ByteArray), t = .string Q ∧ i = .int .i64 m ∧ m ≤ S.size + 2 ∧ WrdSt W w1.heap.size S l m Q wr) (fun _ i _ _ _ _ => S.size + 2 - (intOf i).toNat)
  case atStart => exact ⟨0, _, rfl, rfl, Nat.zero_le _, 0, [], Nat.zero_le _, by omega, rfl, by simp, Src.new w1 _ S 0, H1.out.alloc H1.out.size _⟩
  case round =>
    obtain ⟨m, Q, rfl, rfl, hm, k, A, hk, hmk, hQ, hA, hx, hb⟩ := hrel
    have HX := Lib.hid hx
    have HBl := Lib.hid hb
    have HA := Lib.hid hA
    have HQ := Lib.hid hQ
    have xs := hx.s
    have xn := hx.n
    have xfs := hx.fs
    have xfn := hx.fn
    clear hx hb hA hQ
    by_cases hp : m ≤ S.size + 1
    · obtain ⟨a, ha⟩ : ∃ a, scS scB l k = a := ⟨_, rfl⟩
      obtain ⟨j, hj⟩ : ∃ j, scS (scN 32) l a = j := ⟨_, rfl⟩
      obtain ⟨n, hn⟩ : ∃ n, min (j + 1) l.length = n := ⟨_, rfl⟩
      obtain ⟨f1, f2, f3, f4, f5, f6⟩ := word_facts l k a j n hk ha hj hn
      obtain ⟨x, hx⟩ : ∃ x, scT l a j = x := ⟨_, rfl⟩
      rw [hx] at f4 f5 f6
      obtain ⟨T, hT⟩ : ∃ T : ByteArray, T = ⟨x.toArray⟩ := ⟨_, rfl⟩
      have HW := Lib.hid (word_is l (k : Int) a j n S T HS.out (by omega) (by rw [scA_nat l k hk]; exact ha) hj hn (by rw [hT, hx]))
      have hAx : A ++ x ++ nbL (l.drop n) = nbL l := by rw [List.append_assoc, ← f6, HA.out]
      have HAX := Lib.hid hAx
      have hlen : A.length ≤ 1000 ∧ x.length ≤ 1000 := by
        have h1 := congrArg List.length hAx
        have h2 := nbL_le l
        simp at h1
        omega
      have hTz : T.size = x.length := by rw [hT, size_mk]
      have hQz : Q.size = A.length := by rw [HQ.out, size_mk]
      have hT1 : T.size ≤ 1000 := by omega
      have s1 : ¬ 9223372036854775807 < Q.size + T.size := by omega
      have hNB : ∀ q (hq : q < T.size), decide ((T[q].toNat : Int) ≤ 32) = false := by
        intro q hq
        subst hT
        have hq' : q < x.length := by rw [hTz] at hq; exact hq
        exact scB_iff (f5 x[q] (List.getElem_mem hq'))
      have HNB := Lib.hid hNB
      have HQT : Hid (Q ++ T = ⟨(A ++ x).toArray⟩) := Lib.hid (by rw [HQ.out, hT, add_mk])
      have d1 : decide (n < k) = false := decide_eq_false (by omega)
      have d2 : decide (S.size < n) = false := decide_eq_false (by have := HZ.out; omega)
      have hcs : T = ⟨#[]⟩ ∨ ((T.toList == []) = false ∧ decide (n ≤ k) = false) := by
        cases hxx : x with
        | nil => left; rw [hT, hxx]
        | cons c r =>
          right
          refine ⟨by rw [hT, hxx, ByteArray.toList_mk]; rfl, decide_eq_false ?_⟩
          have := f4 (by rw [hxx]; simp)
          omega
      have hmn : min (m + 1) l.length ≤ n := by omega
      have hnl : n ≤ l.length := f2
      clear f1 f2 f3 f4 f5 f6 hlen hTz hQz hT hNB hx ha hj hn hAx
      have hpi : (m : Int) ≤ (S.size : Int) + 1 := by omega
      rcases hcs with hcs | ⟨e1, d3⟩
      · have hT0 : T.toList = [] := by rw [hcs, show (⟨#[]⟩ : ByteArray) = ⟨([] : List UInt8).toArray⟩ from rfl, ByteArray.toList_mk]
        have hT9 : T.size = 0 := by rw [hcs]; rfl
        clear hcs
        go_wp2_with (go_at_call 10; refine (HW.out _).mono ?_; rintro e w2 ⟨rfl, hb2⟩; have X2 := Lib.hid ((HX.out.keep hb2).alloc (.cells #[.string S, .int .i64 (n : Int)] 25)); have ys := X2.out.s; have yn := X2.out.n; have yfs := X2.out.fs; have yfn := X2.out.fn; have H2 := Lib.hid ((below_then HBl.out hb2).alloc (below_then HBl.out hb2).size (.cells #[.string S, .int .i64 (n : Int)] 25)); clear hb2)
        go_loop [9] (fun t => ∃ q : Nat, t = .int .i64 q ∧ q ≤ T.size) (fun t => T.size - (intOf t).toNat)
        case atStart => exact ⟨0, rfl, Nat.zero_le _⟩
        case round =>
          obtain ⟨q, rfl, hq⟩ := hrel
          by_cases hpq : q < T.size
          · omega
          · go_wp2
            go_roundw
            case rel => exact ⟨m + 1, Q ++ T, rfl, by go_num, by omega, n, A ++ x, hnl, hmn, HQT.out, HAX.out, X2.out.set S n, (H2.out.setCell HB.out _).setCell HB.out _⟩
            case measure => simp [intOf]; omega
      · go_wp2_with (go_at_call 10; refine (HW.out _).mono ?_; rintro e w2 ⟨rfl, hb2⟩; have X2 := Lib.hid ((HX.out.keep hb2).alloc (.cells #[.string S, .int .i64 (n : Int)] 25)); have ys := X2.out.s; have yn := X2.out.n; have yfs := X2.out.fs; have yfn := X2.out.fn; have H2 := Lib.hid ((below_then HBl.out hb2).alloc (below_then HBl.out hb2).size (.cells #[.string S, .int .i64 (n : Int)] 25)); clear hb2)
        go_loop [9] (fun t => ∃ q : Nat, t = .int .i64 q ∧ q ≤ T.size) (fun t => T.size - (intOf t).toNat)
        case atStart => exact ⟨0, rfl, Nat.zero_le _⟩
        case round =>
          obtain ⟨q, rfl, hq⟩ := hrel
          by_cases hpq : q < T.size
          · have hnb := HNB.out q hpq
            obtain ⟨c, hc⟩ : ∃ c, T[q]'hpq = c := ⟨_, rfl⟩
            rw [hc] at hnb
            go_wp2
            go_round
            case rel => exact ⟨q + 1, by go_num, by omega⟩
            case measure => simp [intOf]; omega
          · go_wp2
            go_roundw
            case rel => exact ⟨m + 1, Q ++ T, rfl, by go_num, by omega, n, A ++ x, hnl, hmn, HQT.out, HAX.out, X2.out.set S n, (H2.out.setCell HB.out _).setCell HB.out _⟩
            case measure => simp [intOf]; omega
    · have hk2 : k = S.size := by have := HZ.out; omega
      subst hk2
      obtain ⟨i0, hi, hz0, hz1, hz2⟩ := info_parts infoB
      have HI := Lib.hid hi
      have HZ0 := Lib.hid (And.intro hz0 (And.intro hz1 hz2))
      have hQn : Q = ⟨(nbL l).toArray⟩ := by
        have h := HA.out
        rw [List.drop_eq_nil_of_le (by have := HZ.out; omega)] at h
        rw [HQ.out, ← h]
        simp [nbL]
      have HQN := Lib.hid hQn
      clear hi hz0 hz1 hz2 hQn xs xn xfs xfn
      have hpi : (S.size : Int) + 1 < (m : Int) := by omega
      have HLe : Hid (∀ q, (nbL (l.take q)).length ≤ 1000) := Lib.hid (fun q => by have h1 := nbL_le (l.take q); have h2 : (l.take q).length ≤ l.length := List.length_take_le' q l; omega)
      go_wp2
      go_loopw [10, 11] (fun v i ws => ∃ q : Nat, i = .int .i64 q ∧ q ≤ S.size ∧ RowSt wr 5 (bytOf (nbL (l.take q))) v ws) (fun _ i _ => S.size - (intOf i).toNat)
      case atStart => exact ⟨0, rfl, Nat.zero_le _, RowSt.made wr 5⟩
      case round =>
        obtain ⟨q, rfl, hq, hst⟩ := hrel
        have HST := Lib.hid hst
        have hws := hst.2.size
        clear hst
        by_cases hpq : q < S.size
        · have hql : q < l.length := by rw [← HZ.out]; exact hpq
          obtain ⟨d, hd2⟩ : ∃ d, l[q] = d := ⟨_, rfl⟩
          have hSq : S[q]'hpq = d := by rw [← hd2]; have := HS.out; subst this; rfl
          have hnx := nbL_next l q hql
          rw [hd2] at hnx
          have hd8 : (0 : Int) ≤ (d.toNat : Int) ∧ (d.toNat : Int) ≤ 255 := by have := d.toNat_lt; omega
          cases hbl : scB d with
          | true =>
            have hdb : decide ((32 : Int) < (d.toNat : Int)) = false := by have := scB_iff hbl; simp at this ⊢; omega
            rw [hbl, if_pos rfl, List.append_nil] at hnx
            have HNX := Lib.hid hnx
            clear hnx hd2 hbl
            go_wp2
            go_roundw
            case rel => exact ⟨q + 1, by go_num, by omega, by rw [HNX.out]; exact HST.out⟩
            case measure => simp [intOf]; omega
          | false =>
            have hdb : decide ((32 : Int) < (d.toNat : Int)) = true := by have := scB_iff hbl; simp at this ⊢; omega
            rw [hbl, if_neg (by decide)] at hnx
            have HNX : Hid (bytOf (nbL (l.take (q + 1))) = bytOf (nbL (l.take q)) ++ [.int .u8 (d.toNat : Int)]) := Lib.hid (by rw [hnx]; simp [bytOf])
            have hle : (bytOf (nbL (l.take q))).length ≤ 1000 := by have := HLe.out q; simpa [bytOf] using this
            clear hnx hd2 hbl
            go_wp2_with (at_builtin; refine wpList_append_own _ rfl _ _ 42 rfl _ 5 i0 (.int .u8 0) 1 1 Try.underlying42 HI.out HZ0.out.1 HZ0.out.2.1 HZ0.out.2.2 rfl (by decide) _ _ _ rfl (HST.out.1.alloc _) ⟨wr.heap.size, 0, none⟩ 1 1 [.int .u8 (d.toNat : Int)] rfl rfl (one_cell _ _ _) (by simp [Value.oneCell']) (by unfold maxLen; omega) (by omega) (by simp; omega) ?_; intro v' w5 hown' hgrow _; have HR := Lib.hid (HST.out.next hown' hgrow); clear hown' hgrow)
            go_roundw
            case rel => exact ⟨q + 1, by go_num, by omega, by rw [HNX.out]; exact HR.out⟩
            case measure => simp [intOf]; omega
        · have hcv := RowSt.str HST.out Q (by rw [HQN.out, List.take_of_length_le (by have := HZ.out; omega)])
          have X5 := HX.out.keep HST.out.2
          have xn := X5.n
          go_wp2
          go_ret
          exact ⟨rfl, below_then HBl.out HST.out.2⟩
theorem scanWords_walk (l : List UInt8) (W : World) (hM : MaxL W) :
    Calls Try.prog 4 #[.string ⟨l.toArray⟩] W fun e w' => e = .returned (.bool true) ∧ Below W.heap.size W w' := by
  by_cases hl : 1000 < l.length
  · exact scanWords_big _ (by rw [size_mk]; omega) W hM
  · exact scanWords_small l _ W hM rfl (by omega)
end Go.Proofs.Ytdffejpbcoagfaa
