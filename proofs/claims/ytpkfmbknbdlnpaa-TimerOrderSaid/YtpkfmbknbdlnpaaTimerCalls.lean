/-
  What package timer's small calls answer: may a nap be, where a number's nap stands.
-/
import Derived.Test.YtpkfmbknbdlnpaaTimerHeld
import Derived.Test.YtpkfmbknbdlnpaaTimerPlaceMath
namespace Go.Proofs.Ytpkfmbknbdlnpaa
open Go.RowKit

set_option maxHeartbeats 1000000 in
theorem isNap_is (d t : Int) (r : Bool) (h : npB ⟨d, t⟩ = r) (w : World) :
    Calls Try.prog 23 #[.agg #[.int .i64 d, .int .i64 t]] w fun e w' => e = .returned (.bool r) ∧ Below w.heap.size w w' := by
  by_cases h1 : 0 ≤ d
  · by_cases h2 : d < 8
    · by_cases h3 : 0 ≤ t
      · by_cases h4 : t ≤ 1125899906842624
        · obtain rfl : true = r := by rw [← h]; exact (np_iff.2 ⟨h1, h2, h3, h4⟩).symm
          clear h
          go_enter Try.func23, Try.ntmps23
          go_wp2
          go_ret
          exact ⟨rfl, below_one _ _⟩
        · obtain rfl : false = r := by rw [← h]; unfold npB; simp; omega
          clear h
          go_enter Try.func23, Try.ntmps23
          go_wp2
          go_ret
          exact ⟨rfl, below_one _ _⟩
      · obtain rfl : false = r := by rw [← h]; unfold npB; simp; omega
        clear h
        go_enter Try.func23, Try.ntmps23
        go_wp2
        go_ret
        exact ⟨rfl, below_one _ _⟩
    · obtain rfl : false = r := by rw [← h]; unfold npB; simp; omega
      clear h
      go_enter Try.func23, Try.ntmps23
      go_wp2
      go_ret
      exact ⟨rfl, below_one _ _⟩
  · obtain rfl : false = r := by rw [← h]; unfold npB; simp; omega
    clear h
    go_enter Try.func23, Try.ntmps23
    go_wp2
    go_ret
    exact ⟨rfl, below_one _ _⟩
set_option maxHeartbeats 400000 in
theorem nplace1_is (d t d' : Int) (b : Nat) (r : Bool) (h : ndP d' ⟨d, t⟩ = r) (w : World) (hc : w.cell? ⟨b, 0, none⟩ = some (.int .i64 d')) (hb : b < w.heap.size) :
    Calls Try.prog 31 #[.agg #[.int .i64 d, .int .i64 t], .pointer (some ⟨b, 0, none⟩)] w fun e w' => e = .returned (.bool r) ∧ Below w.heap.size w w' := by
  have c0 : (w.alloc (.cells #[.int .i64 d, .int .i64 t] 49)).cell? ⟨b, 0, none⟩ = some (.int .i64 d') := ((below_one w _).cell (p := ⟨b, 0, none⟩) hb).trans hc
  have hr : (d == d') = r := h
  go_enter Try.func31, Try.ntmps31
  go_wp2
  go_ret
  exact ⟨rfl, below_one _ _⟩
set_option maxHeartbeats 1000000 in
theorem nindex_any (A : Option Addr) (n c : Nat) (l : List Np) (d' : Int) (b : Nat) (r : Int) (w : World) (hc : w.cell? ⟨b, 0, none⟩ = some (.int .i64 d')) (hb : b < w.heap.size) (hn : n ≤ 100000) (h : Nps w A n c l) (hr : nfI (ndP d') l = r) :
    Calls Try.prog 30 #[.slice A n c, .func (.func 31) #[] #[.pointer (some ⟨b, 0, none⟩)]] w fun e w' => e = .returned (.int .i64 r) ∧ Below w.heap.size w w' := by
  have H := Lib.hid h
  have HL := Lib.hid h.len
  have HR := Lib.hid hr
  have HC := Lib.hid hc
  clear hc
  clear h hr
  go_enter Try.func30, Try.ntmps30
  go_wp2
  go_loopw [8] (fun i wr => ∃ j : Nat, j ≤ n ∧ i = .int .i64 j ∧ (∀ q, q < j → (ndP d') (l.getD q nz) = false) ∧ Below w.heap.size w wr) (fun i _ => ((n : Int) - intOf i).toNat)
  case atStart => exact ⟨0, by omega, rfl, fun q hq => absurd hq (by omega), Below.refl _ _⟩
  case round =>
    obtain ⟨j, hj, rfl, hp, hb⟩ := hrel
    have HP := Lib.hid hp
    have HV := Lib.hid hb
    clear hp hb
    by_cases hlt : j < n
    · obtain ⟨xb, xo, rfl, hbl, f0, f1⟩ := (H.out.below HV.out).at_ j hlt
      obtain ⟨v, hv⟩ : ∃ v, (ndP d') (l.getD j nz) = v := ⟨_, rfl⟩
      have HQ := Lib.hid hv
      have HQ2 := Lib.hid hv
      clear hv
      generalize l.getD j nz = e at HQ f0 f1
      obtain ⟨d, t⟩ := e
      simp only at f0 f1
      cases v
      · go_wp2_with (go_at_call 31; refine (nplace1_is d t d' b _ HQ.out _ (((HV.out).cell (p := ⟨b, 0, none⟩) hb).trans HC.out) (Nat.lt_of_lt_of_le hb HV.out.size)).mono ?_; rintro e w1 ⟨rfl, hb1⟩; have HB := Lib.hid (below_then HV.out hb1); clear hb1)
        go_roundw
        case rel => exact ⟨j + 1, by omega, by go_num, fun q hq => by
          rcases Nat.lt_succ_iff_lt_or_eq.1 hq with g | rfl
          · exact HP.out q g
          · exact HQ2.out, HB.out⟩
        case measure => simp [intOf]; omega
      · go_wp2_with (go_at_call 31; refine (nplace1_is d t d' b _ HQ.out _ (((HV.out).cell (p := ⟨b, 0, none⟩) hb).trans HC.out) (Nat.lt_of_lt_of_le hb HV.out.size)).mono ?_; rintro e w1 ⟨rfl, hb1⟩; have HB := Lib.hid (below_then HV.out hb1); clear hb1)
        go_ret
        exact ⟨by rw [← HR.out, nf_yes (by rw [HL.out]; exact hlt) HP.out HQ2.out]; rfl, HB.out⟩
    · obtain rfl : j = n := by omega
      go_wp2
      go_ret
      exact ⟨by rw [← HR.out, nf_none (fun q hq => HP.out q (by rw [HL.out] at hq; exact hq))]; rfl, HV.out⟩
set_option maxHeartbeats 400000 in
theorem nplace_is (A : Option Addr) (n c : Nat) (l : List Np) (d : Int) (r : Int) (w : World) (hn : n ≤ 100000) (h : Nps w A n c l) (hr : nfI (ndP d) l = r) :
    Calls Try.prog 24 #[.slice A n c, .int .i64 d] w fun e w' => e = .returned (.int .i64 r) ∧ Below w.heap.size w w' := by
  have HR := Lib.hid hr
  have HB := Lib.hid (below_one w (.cells #[.int .i64 d] 3))
  have H := Lib.hid (h.below HB.out)
  have hc : (w.alloc (.cells #[.int .i64 d] 3)).cell? ⟨w.heap.size, 0, none⟩ = some (.int .i64 d) := by simp [go_sem]
  have HC := Lib.hid hc
  clear hr h hc
  go_enter Try.func24, Try.ntmps24
  go_wp2_with (go_at_call 30; refine (nindex_any A n c l d w.heap.size r _ HC.out (by simp) hn H.out HR.out).mono ?_; rintro e w1 ⟨rfl, hb1⟩; have HD := Lib.hid (below_then HB.out hb1); clear hb1)
  go_ret
  exact ⟨rfl, HD.out⟩
end Go.Proofs.Ytpkfmbknbdlnpaa
