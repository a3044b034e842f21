/-
  TimerOrder answers true, whatever sleeps and whatever the numbers are.
-/
import Derived.Test.YtpkfmbknbdlnpaaTimerAwake
import Derived.Test.YtpkfmbknbdlnpaaTimerOrderMath
import Derived.Test.YtpkfmbknbdlnpaaBelowThen
namespace Go.Proofs.Ytpkfmbknbdlnpaa
open Go.RowKit

theorem ob_lt (p j : Nat) (h : j < p) : decide (p < j) = false := decide_eq_false (by omega)
set_option maxHeartbeats 8000000 in
set_option maxRecDepth 8000 in
theorem order_any (A : Option Addr) (n c : Nat) (l : List Np) (d t : Int) (w : World) (h : Nps w A n c l) :
    Calls Try.prog 5 #[.slice A n c, .int .i64 d, .int .i64 t] w fun e w' => e = .returned (.bool true) ∧ Below w.heap.size w w' := by
  have H := Lib.hid h
  have HL := Lib.hid h.len
  clear h
  by_cases hn : n ≤ 30
  rotate_left
  · have d1 : decide ((30 : Int) < (n : Int)) = true := decide_eq_true (by omega)
    go_enter Try.func5, Try.ntmps5
    go_wp2_with (go_at_call 7; (with_reducible refine (tawake_any _).mono ?_); rintro e w1 ⟨rfl, hb⟩; have HB := Lib.hid hb; have H := Lib.hid (H.out.below hb); clear hb)
    go_ret
    exact ⟨rfl, HB.out⟩
  have d1 : decide ((30 : Int) < (n : Int)) = false := decide_eq_false (by omega)
  by_cases hs : Sn l
  rotate_left
  · have HS := Lib.hid (decide_eq_false hs)
    clear hs
    go_enter Try.func5, Try.ntmps5
    go_wp2_with (first
    | (go_at_call 7; (with_reducible refine (tawake_any _).mono ?_); rintro e w1 ⟨rfl, hb⟩; have HB := Lib.hid hb; have H := Lib.hid (H.out.below hb); clear hb)
    | (go_at_call 9; (with_reducible refine (naps_is A n c l _ (by omega) H.out).mono ?_); rintro e w2 ⟨A2, c2, rfl, hi, hb⟩; have HB := Lib.hid (below_then HB.out hb); have H := Lib.hid (H.out.below hb); have HN := Lib.hid hi; clear hi hb)
    | (go_at_call 20; (with_reducible refine (tsane_is A2 n c2 l false _ (by omega) HN.out HS.out).mono ?_); rintro e w3 ⟨rfl, hb⟩; have HB := Lib.hid (below_then HB.out hb); have H := Lib.hid (H.out.below hb); clear hb))
    go_ret
    exact ⟨rfl, HB.out⟩
  have HS := Lib.hid (decide_eq_true hs)
  have HSn := Lib.hid hs
  clear hs
  cases hpb : pnB l d t
  · have HP := Lib.hid hpb
    clear hpb
    go_enter Try.func5, Try.ntmps5
    go_upto_region 4 with (first
    | (go_at_call 7; (with_reducible refine (tawake_any _).mono ?_); rintro e w1 ⟨rfl, hb⟩; have HB := Lib.hid hb; have H := Lib.hid (H.out.below hb); clear hb)
    | (go_at_call 9; (with_reducible refine (naps_is A n c l _ (by omega) H.out).mono ?_); rintro e w2 ⟨A2, c2, rfl, hi, hb⟩; have HB := Lib.hid (below_then HB.out hb); have H := Lib.hid (H.out.below hb); have HN := Lib.hid hi; clear hi hb)
    | (go_at_call 20; (with_reducible refine (tsane_is A2 n c2 l true _ (by omega) HN.out HS.out).mono ?_); rintro e w3 ⟨rfl, hb⟩; have HB := Lib.hid (below_then HB.out hb); have H := Lib.hid (H.out.below hb); clear hb))
    go_upto_region 5 with (first
    | (go_at_call 9; (with_reducible refine (naps_is A n c l _ (by omega) H.out).mono ?_); rintro e w4 ⟨A4, c4, rfl, hi, hb⟩; have HB := Lib.hid (below_then HB.out hb); have H := Lib.hid (H.out.below hb); have HN := Lib.hid hi; clear hi hb)
    | (go_at_call 8; (with_reducible refine (tput_at A4 n c4 l d t l false _ HSn.out (pn_no HP.out) HP.out HN.out).mono ?_); rintro e w5 ⟨A5, n5, c5, rfl, hi, hb⟩; have HB := Lib.hid (below_then HB.out hb); have H := Lib.hid (H.out.below hb); have HM := Lib.hid hi; clear hi hb))
    go_wp2_with (first
    | (go_at_call 18; (with_reducible refine (slept_is A5 n5 c5 _ _ (by have h1 := HM.out.len; have h2 := HL.out; omega) HM.out).mono ?_); rintro e w6 ⟨A6, c6, rfl, hi, hb⟩; have HB := Lib.hid (below_then HB.out hb); have H := Lib.hid (H.out.below hb); have HM := Lib.hid (HM.out.below hb); have HZ := Lib.hid hi; clear hi hb)
    | (go_at_call 17; (with_reducible refine (rnsame_is A6 n5 c6 A n c l _ (by have h1 := HM.out.len; have h2 := HL.out; omega) HZ.out H.out).mono ?_); rintro e w7 ⟨rfl, hb⟩; have HB := Lib.hid (below_then HB.out hb); clear hb))
    go_ret
    exact ⟨rfl, HB.out⟩
  have hg := HSn.out.2
  have HP := Lib.hid hpb
  have hsm := sn_put d t HSn.out
  have HE := Lib.hid (pn_earliest hg hpb)
  have HU := Lib.hid (fun j hj hp => pn_behind (l := l) (d := d) (t := t) hpb j hj hp)
  have HI := Lib.hid (fun j hj => pn_here (l := l) (d := d) (t := t) hpb j hj)
  have HPL := Lib.hid (pn_place hpb)
  have HLM := Lib.hid (pn_len hg hpb)
  have HDL := Lib.hid (pn_dpL hg hpb)
  have HDB := Lib.hid (pn_dpB hpb)
  have HNB := Lib.hid (pn_neB hpb)
  clear hpb hg
  obtain ⟨M, hM⟩ : ∃ M, pnL l d t = M := ⟨_, rfl⟩
  have HM0 := Lib.hid hM
  obtain ⟨X, hX⟩ : ∃ X, neI M = X := ⟨_, rfl⟩
  have HX := Lib.hid hX
  obtain ⟨p, hp⟩ : ∃ p, (upL l t).length = p := ⟨_, rfl⟩
  rw [hM] at HE HU HI HPL HLM HDL HDB HNB hsm
  rw [hX] at HE
  rw [hp] at HPL HI HU
  have HSM := Lib.hid hsm
  have HSD := Lib.hid (decide_eq_true hsm)
  clear hM hX hp hsm
  go_enter Try.func5, Try.ntmps5
  go_upto_region 4 with (first
    | (go_at_call 7; (with_reducible refine (tawake_any _).mono ?_); rintro e w1 ⟨rfl, hb⟩; have HB := Lib.hid hb; have H := Lib.hid (H.out.below hb); clear hb)
    | (go_at_call 9; (with_reducible refine (naps_is A n c l _ (by omega) H.out).mono ?_); rintro e w2 ⟨A2, c2, rfl, hi, hb⟩; have HB := Lib.hid (below_then HB.out hb); have H := Lib.hid (H.out.below hb); have HN := Lib.hid hi; clear hi hb)
    | (go_at_call 20; (with_reducible refine (tsane_is A2 n c2 l true _ (by omega) HN.out HS.out).mono ?_); rintro e w3 ⟨rfl, hb⟩; have HB := Lib.hid (below_then HB.out hb); have H := Lib.hid (H.out.below hb); clear hb))
  go_upto_region 5 with (first
    | (go_at_call 9; (with_reducible refine (naps_is A n c l _ (by omega) H.out).mono ?_); rintro e w4 ⟨A4, c4, rfl, hi, hb⟩; have HB := Lib.hid (below_then HB.out hb); have H := Lib.hid (H.out.below hb); have HN := Lib.hid hi; clear hi hb)
    | (go_at_call 8; (with_reducible refine (tput_at A4 n c4 l d t M true _ HSn.out HM0.out HP.out HN.out).mono ?_); rintro e w5 ⟨A5, n5, c5, rfl, hi, hb⟩; have HB := Lib.hid (below_then HB.out hb); have H := Lib.hid (H.out.below hb); have HM := Lib.hid hi; clear hi hb))
  go_upto_region 8 with (go_at_call 13; (with_reducible refine (tdrop_at A5 n5 c5 M d l true _ HSM.out HDL.out HDB.out HM.out).mono ?_); rintro e w6 ⟨A6, n6, c6, rfl, hi, hb⟩; have HB := Lib.hid (below_then HB.out hb); have H := Lib.hid (H.out.below hb); have HM := Lib.hid (HM.out.below hb); have HD := Lib.hid hi; clear hi hb)
  go_upto_region 9 with (go_at_call 15; (with_reducible refine (tnext_at A5 n5 c5 M X true _ HSM.out HX.out HNB.out HM.out).mono ?_); rintro e w7 ⟨rfl, hb⟩; have HB := Lib.hid (below_then HB.out hb); have H := Lib.hid (H.out.below hb); have HM := Lib.hid (HM.out.below hb); have HD := Lib.hid (HD.out.below hb); clear hb)
  go_upto_region 11 with (fail)
  obtain rfl : M.length = n5 := HM.out.len
  have HLN := Lib.hid (HLM.out.trans (by rw [HL.out]))
  have hML : M.length ≤ 8 := HSM.out.1
  go_loop [14, 15] (fun v i => ∃ j : Nat, j ≤ M.length ∧ i = .int .i64 j ∧ v = .bool (decide (p < j))) (fun _ i => ((M.length : Int) - intOf i).toNat)
  case atStart => exact ⟨0, by omega, rfl, rfl⟩
  case round =>
    obtain ⟨j, hj, rfl, rfl⟩ := hrel
    by_cases hlt : j < M.length
    · obtain ⟨xb, xo, rfl, hbl, f0, f1⟩ := HM.out.at_ j hlt
      have g1 := HE.out j hlt
      have g2 := HU.out j hlt
      have g3 := HI.out j hlt
      obtain ⟨y, hy⟩ : ∃ y, (M.getD j nz).d = y := ⟨_, rfl⟩
      obtain ⟨z, hz⟩ : ∃ z, (M.getD j nz).t = z := ⟨_, rfl⟩
      rw [hy] at f0 g3
      rw [hz] at f1 g1 g2
      have q1 : decide (z < X) = false := decide_eq_false (by omega)
      clear hy hz g1
      by_cases hpj : p < j
      · have q2 : decide (z ≤ t) = false := decide_eq_false (by have := g2 hpj; omega)
        have q3 : decide (p < j) = true := decide_eq_true hpj
        have q4 := Lib.hid (decide_eq_true (show p < j + 1 by omega))
        clear g2 g3
        go_wp2
        go_round
        case rel => exact ⟨j + 1, by omega, by go_num, by rw [q4.out]⟩
        case measure => simp [intOf]; omega
      · have q3 : decide (p < j) = false := decide_eq_false hpj
        have q4 := Lib.hid (show decide (p < j + 1) = decide (j = p) from decide_eq_decide.2 (by omega))
        clear g2
        go_wp2
        go_round
        case rel => exact ⟨j + 1, by omega, by go_num, by rw [q4.out]⟩
        case measure => simp [intOf]; omega
    · obtain rfl : j = M.length := by omega
      have q3 : decide (p < M.length) = true := decide_eq_true HPL.out
      have q5 : ((M.length : Int) == (n : Int) + 1) = true := by have := HLN.out; simp; omega
      have q6 : IntKind.i64.wrap ((n : Int) + 1) = (n : Int) + 1 := by rw [IntKind.wrap_i64]; omega
      go_wp2_with (first
    | (go_at_call 18; (with_reducible refine (slept_is A6 n6 c6 l _ (by have h1 := HD.out.len; have h2 := HL.out; omega) HD.out).mono ?_); rintro e w8 ⟨A8, c8, rfl, hi, hb⟩; have HB := Lib.hid (below_then HB.out hb); have H := Lib.hid (H.out.below hb); have HM := Lib.hid (HM.out.below hb); have HD := Lib.hid (HD.out.below hb); have HZ := Lib.hid hi; clear hi hb)
    | (go_at_call 17; (with_reducible refine (rnsame_is A8 n6 c8 A n c l _ (by have h1 := HD.out.len; have h2 := HL.out; omega) HZ.out H.out).mono ?_); rintro e w9 ⟨rfl, hb⟩; have HB := Lib.hid (below_then HB.out hb); have H := Lib.hid (H.out.below hb); have HM := Lib.hid (HM.out.below hb); have HD := Lib.hid (HD.out.below hb); clear hb)
    | (go_at_call 20; (with_reducible refine (tsane_is A5 M.length c5 M true _ (by have := HLN.out; omega) HM.out HSD.out).mono ?_); rintro e w10 ⟨rfl, hb⟩; have HB := Lib.hid (below_then HB.out hb); clear hb))
      go_ret
      exact ⟨rfl, HB.out⟩
end Go.Proofs.Ytpkfmbknbdlnpaa
