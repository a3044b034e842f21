/-
  What Find answers: the one whose name a text is in capitals, if it is not hidden; of what was there nothing has changed.
-/
import Derived.Test.YtlpacdheabcpdaaOpCalls
import Derived.Test.YtlpacdheabcpdaaScanUpper
namespace Go.Proofs.Ytlpacdheabcpdaa
open Go.RowKit

theorem opQ_true {u : List UInt8} {k : Nat} (h : opQ u k = true) : (opR (k : Int)).1 = u ∧ opH (opR (k : Int)).1 = false := by
  unfold opQ at h
  simp at h
  exact h
theorem opQ_false {u : List UInt8} {k : Nat} (h : opQ u k = false) : (opR (k : Int)).1 ≠ u ∨ opH (opR (k : Int)).1 = true := by
  unfold opQ at h
  simp at h
  by_cases e : (opR (k : Int)).1 = u
  · exact .inr (h e)
  · exact .inl e
theorem mk_ne {l u : List UInt8} {S U : ByteArray} (hS : S = ⟨l.toArray⟩) (hU : U = ⟨u.toArray⟩) (h : l ≠ u) : (S.toList == U.toList) = false := by
  subst hS hU
  rw [ByteArray.toList_mk, ByteArray.toList_mk]
  simpa using h

set_option maxRecDepth 4000 in
set_option maxHeartbeats 1000000 in
theorem find_is (l : List UInt8) (S : ByteArray) (hS : S = ⟨l.toArray⟩) (hl : l.length ≤ 2000) (v : Int) (b : Bool) (h : opF (l.map scU) = (v, b)) (w : World) :
    Calls Try.prog 7 #[.string S] w fun e w' => e = .returned (.tuple #[.int .i64 v, .bool b]) ∧ Below w.heap.size w w' := by
  obtain ⟨U, hU⟩ : ∃ U : ByteArray, U = ⟨(l.map scU).toArray⟩ := ⟨_, rfl⟩
  have HU := Lib.hid (upper_is l S U hS hl hU)
  have HE := Lib.hid hU
  have HV := Lib.hid h
  clear hS hU h
  go_enter Try.func7, Try.ntmps7
  go_wp2_with (go_at_call 19; refine (HU.out _).mono ?_; rintro e w1 ⟨rfl, hb1⟩; have HB := Lib.hid hb1; clear hb1)
  go_loopw [8] (fun t wr => ∃ k : Nat, t = .int .i64 k ∧ k ≤ 111 ∧ (∀ i, i < k → opQ (l.map scU) i = false) ∧ Below w.heap.size w wr) (fun t _ => 111 - (intOf t).toNat)
  case atStart => exact ⟨0, rfl, by omega, fun i hi => by omega, HB.out⟩
  case round =>
    obtain ⟨k, rfl, hk, hq, hb⟩ := hrel
    have HQ := Lib.hid hq
    have HW := Lib.hid hb
    clear hq hb
    by_cases hp : k < 111
    · obtain ⟨T, hT⟩ : ∃ T : ByteArray, T = ⟨(opR (k : Int)).1.toArray⟩ := ⟨_, rfl⟩
      have HN := Lib.hid (name_is (k : Int) T hT)
      have HH := Lib.hid (fun b hb => hidden_is (k : Int) b hb)
      have HT := Lib.hid hT
      clear hT
      cases hc : opQ (l.map scU) k with
      | true =>
        obtain ⟨h1, h2⟩ := opQ_true hc
        obtain rfl : T = U := by rw [HT.out, HE.out, h1]
        have H2 := Lib.hid h2
        have HC := Lib.hid hc
        clear h1 h2 hc
        go_wp2_with (first
          | (go_at_call 11; refine (HN.out _).mono ?_; rintro e w2 ⟨rfl, hb2⟩; have HB2 := Lib.hid (below_then HW.out hb2); clear hb2)
          | (go_at_call 17; refine (HH.out false H2.out _).mono ?_; rintro e w3 ⟨rfl, hb3⟩; have HB3 := Lib.hid (below_then HB2.out hb3); clear hb3))
        go_ret2
        have e := (opF_yes _ k hp HC.out HQ.out).symm.trans HV.out
        simp only [Prod.mk.injEq] at e
        obtain ⟨rfl, rfl⟩ := e
        exact ⟨rfl, HB3.out⟩
      | false =>
        have HR : Hid (∀ i, i < k + 1 → opQ (l.map scU) i = false) := Lib.hid fun i hi => by
          rcases Nat.lt_or_eq_of_le (Nat.le_of_lt_succ hi) with h | rfl
          · exact HQ.out i h
          · exact hc
        rcases opQ_false hc with h1 | h1
        · have hne := mk_ne HT.out HE.out h1
          clear h1 hc
          go_wp2_with (first
            | (go_at_call 11; refine (HN.out _).mono ?_; rintro e w2 ⟨rfl, hb2⟩; have HB2 := Lib.hid (below_then HW.out hb2); clear hb2))
          go_roundw
          case rel => exact ⟨k + 1, by go_num, by omega, HR.out, HB2.out⟩
          case measure => simp [intOf]; omega
        · obtain ⟨HX, c, hc⟩ : ∃ (_ : Hid (opH (opR (k : Int)).1 = true)) (c : Bool), (T.toList == U.toList) = c := ⟨Lib.hid h1, _, rfl⟩
          clear h1
          cases c with
          | true =>
            go_wp2_with (first
              | (go_at_call 11; refine (HN.out _).mono ?_; rintro e w2 ⟨rfl, hb2⟩; have HB2 := Lib.hid (below_then HW.out hb2); clear hb2)
              | (go_at_call 17; refine (HH.out true HX.out _).mono ?_; rintro e w3 ⟨rfl, hb3⟩; have HB3 := Lib.hid (below_then HB2.out hb3); clear hb3))
            go_roundw
            case rel => exact ⟨k + 1, by go_num, by omega, HR.out, HB3.out⟩
            case measure => simp [intOf]; omega
          | false =>
            go_wp2_with (first
              | (go_at_call 11; refine (HN.out _).mono ?_; rintro e w2 ⟨rfl, hb2⟩; have HB2 := Lib.hid (below_then HW.out hb2); clear hb2))
            go_roundw
            case rel => exact ⟨k + 1, by go_num, by omega, HR.out, HB2.out⟩
            case measure => simp [intOf]; omega
    · obtain rfl : k = 111 := by omega
      have e := (opF_no _ HQ.out).symm.trans HV.out
      simp only [Prod.mk.injEq] at e
      obtain ⟨rfl, rfl⟩ := e
      go_wp2
      go_ret2
      exact ⟨rfl, HW.out⟩
end Go.Proofs.Ytlpacdheabcpdaa
