/-
  The call of the statement MemMoves answers true at every memory, places and numbers; of what was there nothing has changed.
-/
import Derived.Test.YtkdpefkllchadaaMemAwake
import Derived.Deep.QuietTactic
import Derived.BigQuiet
namespace Go.Proofs.Ytkdpefkllchadaa
open Go.RowKit

theorem Mem.at_ {w : World} {A : Option Addr} {n c : Nat} {l : List UInt8} (h : Mem w A n c l) (q : Nat) (hq : q < n) : ∃ b o, A = some ⟨b, o, none⟩ ∧ w.cell? ⟨b, o + q, none⟩ = some (.int .u8 ((l.getD q 0).toNat : Int)) := by
  obtain ⟨b, o, rfl, _, hc⟩ := h.2.2 (by omega)
  have hl : q < l.length := by rw [h.1]; exact hq
  exact ⟨b, o, rfl, by rw [hc q hl]; simp [List.getD, hl]⟩
theorem below_drewN' {B : Nat} {a w : World} (h : Below B a w) (n : Nat) : Below B a (w.drewN n) := ⟨h.os, h.tape, h.output, h.size, h.block⟩

section
variable (A : Option Addr) (n c : Nat) (l : List UInt8) (w : World)
set_option maxRecDepth 100000 in
set_option maxHeartbeats 1000000 in
/-- The places are there, and q is none of those that are laid. -/
theorem memMoves_out (f t k : Nat) (q : Int) (h2 : n ≤ 2000) (hm : Mem w A n c l) (hf : f + k ≤ n) (ht : t + k ≤ n) (hq0 : 0 ≤ q) (hqn : q < n) (ho : q < (t : Int) ∨ (k : Int) ≤ q - (t : Int)) :
    Calls Try.prog 3 #[.slice A n c, .int .i64 (f : Int), .int .i64 (t : Int), .int .i64 (k : Int), .int .i64 q] w fun e w' => e = .returned (.bool true) ∧ Below w.heap.size w w' := by
  have hn : n ≤ 1000000 := by omega
  have hd : decide ((2000 : Int) < (n : Int)) = false := decide_eq_false (by omega)
  have hlen := hm.1
  have h3 : mT (splice l t (mT l f k)) t k = mT l f k := mT_splice _ _ _ _ (mT_length l f k (by omega)) (by omega)
  have hg : (splice l t (mT l f k)).getD q.toNat 0 = l.getD q.toNat 0 := by
    have hl := mT_length l f k (by omega)
    rw [List.getD_eq_getElem?_getD, List.getD_eq_getElem?_getD, splice_get _ _ _ _ (by omega), if_neg (by omega)]
  obtain ⟨b, o, rfl, hc⟩ := hm.at_ q.toNat (by omega)
  have HQ : Hid (q.toNat < n) := show _ < _ by omega
  have hlt : b < w.heap.size := World.block_lt_of_cell? w _ hc
  have HC := Lib.hid hc
  have HG := Lib.hid hg
  have HM := Lib.hid hm
  have HF := Lib.hid hf
  have HT := Lib.hid ht
  have d1 : decide (0 ≤ q) = true := decide_eq_true hq0
  have d2 : decide (q < (n : Int)) = true := decide_eq_true hqn
  clear hc hg hm
  rcases Int.lt_or_le q (t : Int) with hqt | hqt
  · have d3 : decide (q < (t : Int)) = true := decide_eq_true hqt
    clear ho
    go_enter Try.func3, Try.ntmps3
    go_wp2_with (first
      | (go_at_call 8; refine (mawake_any _).mono ?_; rintro e w1 ⟨rfl, hb1⟩; have HB1 := Lib.hid hb1; have HM1 := Lib.hid (HM.out.below hb1); clear hb1)
      | (go_at_call 9; refine (move_yes _ _ _ _ _ _ _ _ hn HM1.out HF.out HT.out).mono ?_; rintro e w2 ⟨A2, c2, rfl, hm2, hb2⟩; obtain ⟨b2, o2, rfl, hc2⟩ := hm2.at_ q.toNat HQ.out; rw [HG.out] at hc2; have H2 := Lib.hid hm2; have HB2 := Lib.hid hb2; have HM2 := Lib.hid (HM1.out.below hb2); have hc1 := ((below_then HB1.out hb2).cell (p := ⟨b, o + q.toNat, none⟩) hlt).trans HC.out; clear hm2 hb2)
      | (go_at_call 10; (with_reducible refine (text_yes _ _ _ _ _ _ _ hn HM2.out HF.out).mono ?_); rintro e w' ⟨rfl, rfl⟩)
      | (go_at_call 10; (with_reducible refine (text_yes _ _ _ _ _ _ _ hn H2.out HT.out).mono ?_); rintro e w' ⟨rfl, rfl⟩))
    go_quiet (fail)
    go_wp2
    go_ret
    exact ⟨rfl, below_drewN' (below_then HB1.out HB2.out) _⟩
  · have d3 : decide (q < (t : Int)) = false := decide_eq_false (by omega)
    have d4 : decide ((k : Int) ≤ q - (t : Int)) = true := decide_eq_true (by omega)
    clear ho
    go_enter Try.func3, Try.ntmps3
    go_wp2_with (first
      | (go_at_call 8; refine (mawake_any _).mono ?_; rintro e w1 ⟨rfl, hb1⟩; have HB1 := Lib.hid hb1; have HM1 := Lib.hid (HM.out.below hb1); clear hb1)
      | (go_at_call 9; refine (move_yes _ _ _ _ _ _ _ _ hn HM1.out HF.out HT.out).mono ?_; rintro e w2 ⟨A2, c2, rfl, hm2, hb2⟩; obtain ⟨b2, o2, rfl, hc2⟩ := hm2.at_ q.toNat HQ.out; rw [HG.out] at hc2; have H2 := Lib.hid hm2; have HB2 := Lib.hid hb2; have HM2 := Lib.hid (HM1.out.below hb2); have hc1 := ((below_then HB1.out hb2).cell (p := ⟨b, o + q.toNat, none⟩) hlt).trans HC.out; clear hm2 hb2)
      | (go_at_call 10; (with_reducible refine (text_yes _ _ _ _ _ _ _ hn HM2.out HF.out).mono ?_); rintro e w' ⟨rfl, rfl⟩)
      | (go_at_call 10; (with_reducible refine (text_yes _ _ _ _ _ _ _ hn H2.out HT.out).mono ?_); rintro e w' ⟨rfl, rfl⟩))
    go_quiet (fail)
    go_wp2
    go_ret
    exact ⟨rfl, below_drewN' (below_then HB1.out HB2.out) _⟩
set_option maxRecDepth 100000 in
set_option maxHeartbeats 1000000 in
/-- The places are there; q is not there, or one of those that are laid. -/
theorem memMoves_in (f t k : Nat) (q : Int) (h2 : n ≤ 2000) (hm : Mem w A n c l) (hf : f + k ≤ n) (ht : t + k ≤ n) (ho : ¬ (0 ≤ q ∧ q < n ∧ (q < (t : Int) ∨ (k : Int) ≤ q - (t : Int)))) :
    Calls Try.prog 3 #[.slice A n c, .int .i64 (f : Int), .int .i64 (t : Int), .int .i64 (k : Int), .int .i64 q] w fun e w' => e = .returned (.bool true) ∧ Below w.heap.size w w' := by
  have hn : n ≤ 1000000 := by omega
  have hd : decide ((2000 : Int) < (n : Int)) = false := decide_eq_false (by omega)
  have hlen := hm.1
  have h3 : mT (splice l t (mT l f k)) t k = mT l f k := mT_splice _ _ _ _ (mT_length l f k (by omega)) (by omega)
  have HM := Lib.hid hm
  have HF := Lib.hid hf
  have HT := Lib.hid ht
  clear hm
  rcases Int.lt_or_le q 0 with h0 | h0
  · have d1 : decide (0 ≤ q) = false := decide_eq_false (by omega)
    clear ho
    go_enter Try.func3, Try.ntmps3
    go_wp2_with (first
      | (go_at_call 8; refine (mawake_any _).mono ?_; rintro e w1 ⟨rfl, hb1⟩; have HB1 := Lib.hid hb1; have HM1 := Lib.hid (HM.out.below hb1); clear hb1)
      | (go_at_call 9; refine (move_yes _ _ _ _ _ _ _ _ hn HM1.out HF.out HT.out).mono ?_; rintro e w2 ⟨A2, c2, rfl, hm2, hb2⟩; have H2 := Lib.hid hm2; have HB2 := Lib.hid hb2; have HM2 := Lib.hid (HM1.out.below hb2); clear hm2 hb2)
      | (go_at_call 10; (with_reducible refine (text_yes _ _ _ _ _ _ _ hn HM2.out HF.out).mono ?_); rintro e w' ⟨rfl, rfl⟩)
      | (go_at_call 10; (with_reducible refine (text_yes _ _ _ _ _ _ _ hn H2.out HT.out).mono ?_); rintro e w' ⟨rfl, rfl⟩))
    go_quiet (fail)
    go_wp2
    go_ret
    exact ⟨rfl, below_drewN' (below_then HB1.out HB2.out) _⟩
  · have d1 : decide (0 ≤ q) = true := decide_eq_true h0
    rcases Int.lt_or_le q (n : Int) with h1 | h1
    · have d2 : decide (q < (n : Int)) = true := decide_eq_true h1
      have d3 : decide (q < (t : Int)) = false := decide_eq_false (by omega)
      have d4 : decide ((k : Int) ≤ q - (t : Int)) = false := decide_eq_false (by omega)
      clear ho
      go_enter Try.func3, Try.ntmps3
      go_wp2_with (first
        | (go_at_call 8; refine (mawake_any _).mono ?_; rintro e w1 ⟨rfl, hb1⟩; have HB1 := Lib.hid hb1; have HM1 := Lib.hid (HM.out.below hb1); clear hb1)
        | (go_at_call 9; refine (move_yes _ _ _ _ _ _ _ _ hn HM1.out HF.out HT.out).mono ?_; rintro e w2 ⟨A2, c2, rfl, hm2, hb2⟩; have H2 := Lib.hid hm2; have HB2 := Lib.hid hb2; have HM2 := Lib.hid (HM1.out.below hb2); clear hm2 hb2)
        | (go_at_call 10; (with_reducible refine (text_yes _ _ _ _ _ _ _ hn HM2.out HF.out).mono ?_); rintro e w' ⟨rfl, rfl⟩)
        | (go_at_call 10; (with_reducible refine (text_yes _ _ _ _ _ _ _ hn H2.out HT.out).mono ?_); rintro e w' ⟨rfl, rfl⟩))
      go_quiet (fail)
      go_wp2
      go_ret
      exact ⟨rfl, below_drewN' (below_then HB1.out HB2.out) _⟩
    · have d2 : decide (q < (n : Int)) = false := decide_eq_false (by omega)
      clear ho
      go_enter Try.func3, Try.ntmps3
      go_wp2_with (first
        | (go_at_call 8; refine (mawake_any _).mono ?_; rintro e w1 ⟨rfl, hb1⟩; have HB1 := Lib.hid hb1; have HM1 := Lib.hid (HM.out.below hb1); clear hb1)
        | (go_at_call 9; refine (move_yes _ _ _ _ _ _ _ _ hn HM1.out HF.out HT.out).mono ?_; rintro e w2 ⟨A2, c2, rfl, hm2, hb2⟩; have H2 := Lib.hid hm2; have HB2 := Lib.hid hb2; have HM2 := Lib.hid (HM1.out.below hb2); clear hm2 hb2)
        | (go_at_call 10; (with_reducible refine (text_yes _ _ _ _ _ _ _ hn HM2.out HF.out).mono ?_); rintro e w' ⟨rfl, rfl⟩)
        | (go_at_call 10; (with_reducible refine (text_yes _ _ _ _ _ _ _ hn H2.out HT.out).mono ?_); rintro e w' ⟨rfl, rfl⟩))
      go_quiet (fail)
      go_wp2
      go_ret
      exact ⟨rfl, below_drewN' (below_then HB1.out HB2.out) _⟩
set_option maxRecDepth 100000 in
set_option maxHeartbeats 1000000 in
/-- One of the places is not there. -/
theorem memMoves_no (f t k q : Int) (h2 : n ≤ 2000) (hm : Mem w A n c l) (hf : InC f) (ht : InC t) (h : (thB n f k && thB n t k) = false) :
    Calls Try.prog 3 #[.slice A n c, .int .i64 f, .int .i64 t, .int .i64 k, .int .i64 q] w fun e w' => e = .returned (.bool true) ∧ Below w.heap.size w w' := by
  have hn : n ≤ 1000000 := by omega
  have hd : decide ((2000 : Int) < (n : Int)) = false := decide_eq_false (by omega)
  have HM := Lib.hid hm
  have HH := Lib.hid h
  clear hm
  cases h1 : thB n f k
  · clear h
    have HP := Lib.hid h1
    clear h1
    cases h4 : thB n t k
    · have HR := Lib.hid h4
      clear h4
      go_enter Try.func3, Try.ntmps3
      go_wp2_with (first
        | (go_at_call 8; refine (mawake_any _).mono ?_; rintro e w1 ⟨rfl, hb1⟩; have HB1 := Lib.hid hb1; have HM1 := Lib.hid (HM.out.below hb1); have hs := HM1.out.str; clear hb1)
        | (go_at_call 9; refine (move_no _ _ _ _ _ _ _ hn hf ht HH.out).mono ?_; rintro e w' ⟨rfl, rfl⟩)
        | (go_at_call 10; (with_reducible refine (text_no _ _ _ _ _ _ hn hf HP.out).mono ?_); rintro e w' ⟨rfl, rfl⟩)
        | (go_at_call 10; (with_reducible refine (text_no _ _ _ _ _ _ hn ht HR.out).mono ?_); rintro e w' ⟨rfl, rfl⟩))
      go_ret
      exact ⟨rfl, HB1.out⟩
    · obtain ⟨i, m, rfl, rfl, hL⟩ := thB_yes h4
      have HL := Lib.hid hL
      clear h4 hL
      go_enter Try.func3, Try.ntmps3
      go_wp2_with (first
        | (go_at_call 8; refine (mawake_any _).mono ?_; rintro e w1 ⟨rfl, hb1⟩; have HB1 := Lib.hid hb1; have HM1 := Lib.hid (HM.out.below hb1); have hs := HM1.out.str; clear hb1)
        | (go_at_call 9; refine (move_no _ _ _ _ _ _ _ hn hf ht HH.out).mono ?_; rintro e w' ⟨rfl, rfl⟩)
        | (go_at_call 10; (with_reducible refine (text_no _ _ _ _ _ _ hn hf HP.out).mono ?_); rintro e w' ⟨rfl, rfl⟩)
        | (go_at_call 10; (with_reducible refine (text_yes _ _ _ _ _ _ _ hn HM1.out HL.out).mono ?_); rintro e w' ⟨rfl, rfl⟩))
      go_ret
      exact ⟨rfl, HB1.out⟩
  · have h4 : thB n t k = false := by rw [h1] at h; simpa using h
    obtain ⟨i, m, rfl, rfl, hL⟩ := thB_yes h1
    have HL := Lib.hid hL
    have HR := Lib.hid h4
    clear h h1 h4 hL
    go_enter Try.func3, Try.ntmps3
    go_wp2_with (first
      | (go_at_call 8; refine (mawake_any _).mono ?_; rintro e w1 ⟨rfl, hb1⟩; have HB1 := Lib.hid hb1; have HM1 := Lib.hid (HM.out.below hb1); have hs := HM1.out.str; clear hb1)
      | (go_at_call 9; refine (move_no _ _ _ _ _ _ _ hn hf ht HH.out).mono ?_; rintro e w' ⟨rfl, rfl⟩)
      | (go_at_call 10; (with_reducible refine (text_no _ _ _ _ _ _ hn ht HR.out).mono ?_); rintro e w' ⟨rfl, rfl⟩)
      | (go_at_call 10; (with_reducible refine (text_yes _ _ _ _ _ _ _ hn HM1.out HL.out).mono ?_); rintro e w' ⟨rfl, rfl⟩))
    go_ret
    exact ⟨rfl, HB1.out⟩
set_option maxHeartbeats 1000000 in
theorem memMoves_walk (f t k q : Int) (hm : Mem w A n c l) (hf : InC f) (ht : InC t) :
    Calls Try.prog 3 #[.slice A n c, .int .i64 f, .int .i64 t, .int .i64 k, .int .i64 q] w fun e w' => e = .returned (.bool true) ∧ Below w.heap.size w w' := by
  by_cases h2 : n ≤ 2000
  · cases h : thB n f k && thB n t k
    · exact memMoves_no A n c l w f t k q h2 hm hf ht h
    · have h' : thB n f k = true ∧ thB n t k = true := by simpa using h
      obtain ⟨i, m, rfl, rfl, hL⟩ := thB_yes h'.1
      obtain ⟨j, m', rfl, hm', hL'⟩ := thB_yes h'.2
      obtain rfl : m = m' := by omega
      by_cases ho : 0 ≤ q ∧ q < n ∧ (q < (j : Int) ∨ (m : Int) ≤ q - (j : Int))
      · exact memMoves_out A n c l w i j m q h2 hm hL hL' ho.1 ho.2.1 ho.2.2
      · exact memMoves_in A n c l w i j m q h2 hm hL hL' ho
  · have hd : decide ((2000 : Int) < (n : Int)) = true := decide_eq_true (by omega)
    clear hm
    go_enter Try.func3, Try.ntmps3
    go_wp2_with (go_at_call 8; refine (mawake_any _).mono ?_; rintro e w1 ⟨rfl, hb1⟩; have HB1 := Lib.hid hb1; clear hb1)
    go_ret
    exact ⟨rfl, HB1.out⟩
end
end Go.Proofs.Ytkdpefkllchadaa
