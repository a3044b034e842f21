/-
  The call of the statement MemSwaps answers true at every memory, place and numbers; of what was there nothing has changed.
-/
import Derived.Test.YtkdpefkllchadaaMemAwake
namespace Go.Proofs.Ytkdpefkllchadaa
open Go.RowKit

set_option maxRecDepth 100000 in
set_option maxHeartbeats 1000000 in
theorem memSwaps_walk (A : Option Addr) (n c : Nat) (l : List UInt8) (w : World) (a old x : Int) (hm : Mem w A n c l) (ha : InC a) (hx : InC x) :
    Calls Try.prog 5 #[.slice A n c, .int .i64 a, .int .i64 old, .int .i64 x] w fun e w' => e = .returned (.bool true) ∧ Below w.heap.size w w' := by
  have HM := Lib.hid hm
  by_cases h2 : n ≤ 2000
  · have hn : n ≤ 1000000 := by omega
    have hd : decide ((2000 : Int) < (n : Int)) = false := decide_eq_false (by omega)
    by_cases hE : mE n a = 0
    · obtain ⟨i, rfl, hle, _, _⟩ := mE_ok hE
      have HE := Lib.hid hE
      have hlen := hm.1
      clear hE hm
      by_cases ho : mC (mT l i 8) = old
      · have h1 : (mC (mT l i 8) != old) = false := by simp [ho]
        have h3 : mC (mT (splice l i (mB x)) i 8) = x := by rw [mT_splice _ _ _ _ (mB_length x) (by omega)]; exact mC_mB hx
        have h4 : (mC (mT (splice l i (mB x)) i 8) != x) = false := by simp [h3]
        have HL : Hid (splice (splice l i (mB x)) i (mB old) = l) := by
          show _ = _
          rw [splice_twice _ _ _ _ (by rw [mB_length, mB_length]) (by rw [mB_length]; omega), ← ho, mB_mC (mT_length l i 8 (by omega)), splice_own _ _ _ (by omega)]
        have H3 := Lib.hid h3
        have H4 := Lib.hid h4
        have H5 := Lib.hid h1
        have HO := Lib.hid ho
        clear h4 h1 hlen hle ho
        go_enter Try.func5, Try.ntmps5
        go_wp2_with (first
          | (go_at_call 8; refine (mawake_any _).mono ?_; rintro e w1 ⟨rfl, hb1⟩; have HB1 := Lib.hid hb1; have HM1 := Lib.hid (HM.out.below hb1); clear hb1)
          | (go_at_call 12; refine (get_yes _ _ _ _ _ _ hn H2.out HE.out).mono ?_; rintro e w' ⟨rfl, rfl⟩)
          | (go_at_call 12; refine (get_yes _ _ _ _ _ _ hn HM1.out HE.out).mono ?_; rintro e w' ⟨rfl, rfl⟩; have ho := HO.out)
          | (go_at_call 13; refine (swap_yes _ _ _ _ _ _ _ _ hn H2.out HE.out H4.out).mono ?_; rintro e w3 ⟨A3, c3, rfl, hm3, hb3⟩; have hs3 := (hm3.as HL.out).str; have hs := ((HM1.out.below HB2.out).below hb3).str; have HB3 := Lib.hid hb3; clear hb3 hm3)
          | (go_at_call 13; refine (swap_yes _ _ _ _ _ _ _ _ hn HM1.out HE.out H5.out).mono ?_; rintro e w2 ⟨A2, c2, rfl, hm2, hb2⟩; have H2 := Lib.hid hm2; have HB2 := Lib.hid hb2; clear hm2 hb2))
        go_ret
        exact ⟨rfl, below_then (below_then HB1.out HB2.out) HB3.out⟩
      · have h1 : (mC (mT l i 8) != old) = true := by simp [ho]
        have H5 := Lib.hid h1
        clear ho hlen hle
        go_enter Try.func5, Try.ntmps5
        go_wp2_with (first
          | (go_at_call 8; refine (mawake_any _).mono ?_; rintro e w1 ⟨rfl, hb1⟩; have HB1 := Lib.hid hb1; have HM1 := Lib.hid (HM.out.below hb1); have hs := HM1.out.str; clear hb1)
          | (go_at_call 12; refine (get_yes _ _ _ _ _ _ hn HM1.out HE.out).mono ?_; rintro e w' ⟨rfl, rfl⟩)
          | (go_at_call 13; refine (swap_not _ _ _ _ _ _ _ _ hn HM1.out HE.out H5.out).mono ?_; rintro e w' ⟨rfl, rfl⟩))
        go_ret
        exact ⟨rfl, HB1.out⟩
    · have h1 : (mE n a != 0) = true := by simp [hE]
      clear hE hm
      go_enter Try.func5, Try.ntmps5
      go_wp2_with (first
        | (go_at_call 8; refine (mawake_any _).mono ?_; rintro e w1 ⟨rfl, hb1⟩; have HB1 := Lib.hid hb1; have HM1 := Lib.hid (HM.out.below hb1); have hs := HM1.out.str; clear hb1)
        | (go_at_call 12; refine (get_no _ _ _ _ _ hn ha h1).mono ?_; rintro e w' ⟨rfl, rfl⟩)
        | (go_at_call 13; refine (swap_bad _ _ _ _ _ _ _ hn ha h1).mono ?_; rintro e w' ⟨rfl, rfl⟩))
      go_ret
      exact ⟨rfl, HB1.out⟩
  · have hd : decide ((2000 : Int) < (n : Int)) = true := decide_eq_true (by omega)
    clear hm
    go_enter Try.func5, Try.ntmps5
    go_wp2_with (go_at_call 8; refine (mawake_any _).mono ?_; rintro e w1 ⟨rfl, hb1⟩; have HB1 := Lib.hid hb1; clear hb1)
    go_ret
    exact ⟨rfl, HB1.out⟩
end Go.Proofs.Ytkdpefkllchadaa
