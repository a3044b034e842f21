/-
  TimerIs answers true, whatever sleeps and whatever the numbers are: package timer's calls answer what the document's own do.
-/
import Derived.Test.YtpkfmbknbdlnpaaTimerAwake
import Derived.Test.YtpkfmbknbdlnpaaBelowThen
namespace Go.Proofs.Ytpkfmbknbdlnpaa
open Go.RowKit

theorem ltput (A : Option Addr) (n c : Nat) (l : List Np) (d t : Int) (PL : List Np) (PB : Bool) (w : World) (hn : n ≤ 1000) (h : Nps w A n c l) (h1 : pnL (tnL l) d t = PL) (h2 : pnB (tnL l) d t = PB) :
    Calls Try.prog 8 #[.slice A n c, .int .i64 d, .int .i64 t] w (NBPost PL PB w) := by
  subst h1 h2
  exact tput_is A n c l d t w (by omega) h

theorem ltdue (A : Option Addr) (n c : Nat) (l : List Np) (t : Int) (OL : List Np) (KL : List Int) (w : World) (hn : n ≤ 1000) (h : Nps w A n c l) (h1 : ovL (tnL l) t = OL) (h2 : niL (upL (tnL l) t) = KL) :
    Calls Try.prog 11 #[.slice A n c, .int .i64 t] w (NIPost OL KL w) := by
  subst h1 h2
  exact tdue_is A n c l t w (by omega) h

theorem ltdrop (A : Option Addr) (n c : Nat) (l : List Np) (d : Int) (DL : List Np) (DB : Bool) (w : World) (hn : n ≤ 1000) (h : Nps w A n c l) (h1 : dpL (tnL l) d = DL) (h2 : dpB (tnL l) d = DB) :
    Calls Try.prog 13 #[.slice A n c, .int .i64 d] w (NBPost DL DB w) := by
  subst h1 h2
  exact tdrop_is A n c l d w (by omega) h

theorem ltnext (A : Option Addr) (n c : Nat) (l : List Np) (XI : Int) (XB : Bool) (w : World) (hn : n ≤ 1000) (h : Nps w A n c l) (h1 : neI (tnL l) = XI) (h2 : neB (tnL l) = XB) :
    Calls Try.prog 15 #[.slice A n c] w (fun e w' => e = .returned (.tuple #[.int .i64 XI, .bool XB]) ∧ Below w.heap.size w w') := by
  subst h1 h2
  exact tnext_is A n c l w (by omega) h

theorem lrput (A : Option Addr) (n c : Nat) (l : List Np) (d t : Int) (PL : List Np) (PB : Bool) (w : World) (hn : n ≤ 1000) (h : Nps w A n c l) (h1 : pnL (tnL l) d t = PL) (h2 : pnB (tnL l) d t = PB) :
    Calls Try.prog 10 #[.slice A n c, .int .i64 d, .int .i64 t] w (NBPost PL PB w) := by
  subst h1 h2
  exact rnput_is A n c l d t w (by omega) h

theorem lrdue (A : Option Addr) (n c : Nat) (l : List Np) (t : Int) (OL : List Np) (KL : List Int) (w : World) (hn : n ≤ 1000) (h : Nps w A n c l) (h1 : ovL (tnL l) t = OL) (h2 : niL (upL (tnL l) t) = KL) :
    Calls Try.prog 12 #[.slice A n c, .int .i64 t] w (NIPost OL KL w) := by
  subst h1 h2
  exact rndue_is A n c l t w (by omega) h

theorem lrdrop (A : Option Addr) (n c : Nat) (l : List Np) (d : Int) (DL : List Np) (DB : Bool) (w : World) (hn : n ≤ 1000) (h : Nps w A n c l) (h1 : dpL (tnL l) d = DL) (h2 : dpB (tnL l) d = DB) :
    Calls Try.prog 14 #[.slice A n c, .int .i64 d] w (NBPost DL DB w) := by
  subst h1 h2
  exact rndrop_is A n c l d w (by omega) h

theorem lrnext (A : Option Addr) (n c : Nat) (l : List Np) (XI : Int) (XB : Bool) (w : World) (hn : n ≤ 1000) (h : Nps w A n c l) (h1 : neI (tnL l) = XI) (h2 : neB (tnL l) = XB) :
    Calls Try.prog 16 #[.slice A n c] w (fun e w' => e = .returned (.tuple #[.int .i64 XI, .bool XB]) ∧ Below w.heap.size w w') := by
  subst h1 h2
  exact rnnext_is A n c l w (by omega) h

theorem tb_refl (b : Bool) : (b == b) = true := beq_self_eq_true b
theorem ti_refl (b : Int) : (b == b) = true := beq_self_eq_true b
set_option maxHeartbeats 8000000 in
set_option maxRecDepth 8000 in
theorem is_any (A : Option Addr) (n c : Nat) (l : List Np) (d t : Int) (w : World) (h : Nps w A n c l) :
    Calls Try.prog 3 #[.slice A n c, .int .i64 d, .int .i64 t] w fun e w' => e = .returned (.bool true) ∧ Below w.heap.size w w' := by
  have hPL : (pnL (tnL l) d t).length ≤ 8 := (sn_put d t (sn_tn l)).1
  have hOL : (ovL (tnL l) t).length ≤ 8 := (sn_ov t (sn_tn l)).1
  have hDL : (dpL (tnL l) d).length ≤ 8 := (sn_dp d (sn_tn l)).1
  have hKL : (niL (upL (tnL l) t)).length ≤ 8 := by rw [ni_len]; exact Nat.le_trans (up_le _ _) (sn_tn l).1
  obtain ⟨PL, hH1⟩ : ∃ x, pnL (tnL l) d t = x := ⟨_, rfl⟩
  rw [hH1] at hPL
  have H1 := Lib.hid hH1
  clear hH1
  obtain ⟨PB, hH2⟩ : ∃ x, pnB (tnL l) d t = x := ⟨_, rfl⟩
  have H2 := Lib.hid hH2
  clear hH2
  obtain ⟨OL, hH3⟩ : ∃ x, ovL (tnL l) t = x := ⟨_, rfl⟩
  rw [hH3] at hOL
  have H3 := Lib.hid hH3
  clear hH3
  obtain ⟨KL, hH4⟩ : ∃ x, niL (upL (tnL l) t) = x := ⟨_, rfl⟩
  rw [hH4] at hKL
  have H4 := Lib.hid hH4
  clear hH4
  obtain ⟨DL, hH5⟩ : ∃ x, dpL (tnL l) d = x := ⟨_, rfl⟩
  rw [hH5] at hDL
  have H5 := Lib.hid hH5
  clear hH5
  obtain ⟨DB, hH6⟩ : ∃ x, dpB (tnL l) d = x := ⟨_, rfl⟩
  have H6 := Lib.hid hH6
  clear hH6
  obtain ⟨XI, hH7⟩ : ∃ x, neI (tnL l) = x := ⟨_, rfl⟩
  have H7 := Lib.hid hH7
  clear hH7
  obtain ⟨XB, hH8⟩ : ∃ x, neB (tnL l) = x := ⟨_, rfl⟩
  have H8 := Lib.hid hH8
  clear hH8
  obtain ⟨SB, hH9⟩ : ∃ x, decide (Sn l) = x := ⟨_, rfl⟩
  have H9 := Lib.hid hH9
  clear hH9
  have qPB := tb_refl PB
  have qDB := tb_refl DB
  have qXB := tb_refl XB
  have qSB := tb_refl SB
  have qXI := ti_refl XI
  have HP := Lib.hid hPL
  have HO := Lib.hid hOL
  have HD := Lib.hid hDL
  have HK := Lib.hid hKL
  clear hPL hOL hDL hKL
  have H := Lib.hid h
  clear h
  by_cases hn : n ≤ 30
  rotate_left
  · have d1 : decide ((30 : Int) < (n : Int)) = true := decide_eq_true (by omega)
    clear H
    go_enter Try.func3, Try.ntmps3
    go_wp2_with (go_at_call 7; (with_reducible refine (tawake_any _).mono ?_); rintro e w1 ⟨rfl, hb⟩; have HB := Lib.hid hb; clear hb)
    go_ret
    exact ⟨rfl, HB.out⟩
  have d1 : decide ((30 : Int) < (n : Int)) = false := decide_eq_false (by omega)
  go_enter Try.func3, Try.ntmps3
  go_upto_region 2 with (go_at_call 7; (with_reducible refine (tawake_any _).mono ?_); rintro e w1 ⟨rfl, hb⟩; have HB := Lib.hid hb; have H := Lib.hid (H.out.below hb); clear hb)
  go_upto_region 5 with (first
    | (go_at_call 9; (with_reducible refine (naps_is A n c l _ (by omega) H.out).mono ?_); rintro e w2 ⟨A2, c2, rfl, hi, hb⟩; have HB := Lib.hid (below_then HB.out hb); have H := Lib.hid (H.out.below hb); have HN := Lib.hid hi; clear hi hb)
    | (go_at_call 8; (with_reducible refine (ltput A2 n c2 l d t PL PB _ (by omega) HN.out H1.out H2.out).mono ?_); rintro e w3 ⟨A3, n3, c3, rfl, hi, hb⟩; have HB := Lib.hid (below_then HB.out hb); have H := Lib.hid (H.out.below hb); have Na := Lib.hid hi; clear hi hb))
  go_upto_region 6 with (first
    | (go_at_call 10; (with_reducible refine (lrput A n c l d t PL PB _ (by omega) H.out H1.out H2.out).mono ?_); rintro e w4 ⟨A4, n4, c4, rfl, hi, hb⟩; have HB := Lib.hid (below_then HB.out hb); have H := Lib.hid (H.out.below hb); have Na := Lib.hid (Na.out.below hb); have Nb := Lib.hid hi; clear hi hb))
  go_upto_region 7 with (first
    | (go_at_call 9; (with_reducible refine (naps_is A n c l _ (by omega) H.out).mono ?_); rintro e w5 ⟨A5, c5, rfl, hi, hb⟩; have HB := Lib.hid (below_then HB.out hb); have H := Lib.hid (H.out.below hb); have Na := Lib.hid (Na.out.below hb); have Nb := Lib.hid (Nb.out.below hb); have HN := Lib.hid hi; clear hi hb)
    | (go_at_call 11; (with_reducible refine (ltdue A5 n c5 l t OL KL _ (by omega) HN.out H3.out H4.out).mono ?_); rintro e w6 ⟨A6, n6, c6, B6, m6, d6, rfl, hi, hk, hb⟩; have HB := Lib.hid (below_then HB.out hb); have H := Lib.hid (H.out.below hb); have Na := Lib.hid (Na.out.below hb); have Nb := Lib.hid (Nb.out.below hb); have Nc := Lib.hid hi; have Kx := Lib.hid hk; clear hi hk hb))
  go_upto_region 8 with (first
    | (go_at_call 12; (with_reducible refine (lrdue A n c l t OL KL _ (by omega) H.out H3.out H4.out).mono ?_); rintro e w7 ⟨A7, n7, c7, B7, m7, d7, rfl, hi, hk, hb⟩; have HB := Lib.hid (below_then HB.out hb); have H := Lib.hid (H.out.below hb); have Na := Lib.hid (Na.out.below hb); have Nb := Lib.hid (Nb.out.below hb); have Nc := Lib.hid (Nc.out.below hb); have Kx := Lib.hid (Kx.out.below hb); have Nd := Lib.hid hi; have Ky := Lib.hid hk; clear hi hk hb))
  go_upto_region 9 with (first
    | (go_at_call 9; (with_reducible refine (naps_is A n c l _ (by omega) H.out).mono ?_); rintro e w8 ⟨A8, c8, rfl, hi, hb⟩; have HB := Lib.hid (below_then HB.out hb); have H := Lib.hid (H.out.below hb); have Na := Lib.hid (Na.out.below hb); have Nb := Lib.hid (Nb.out.below hb); have Nc := Lib.hid (Nc.out.below hb); have Kx := Lib.hid (Kx.out.below hb); have Nd := Lib.hid (Nd.out.below hb); have Ky := Lib.hid (Ky.out.below hb); have HN := Lib.hid hi; clear hi hb)
    | (go_at_call 13; (with_reducible refine (ltdrop A8 n c8 l d DL DB _ (by omega) HN.out H5.out H6.out).mono ?_); rintro e w9 ⟨A9, n9, c9, rfl, hi, hb⟩; have HB := Lib.hid (below_then HB.out hb); have H := Lib.hid (H.out.below hb); have Na := Lib.hid (Na.out.below hb); have Nb := Lib.hid (Nb.out.below hb); have Nc := Lib.hid (Nc.out.below hb); have Kx := Lib.hid (Kx.out.below hb); have Nd := Lib.hid (Nd.out.below hb); have Ky := Lib.hid (Ky.out.below hb); have Ne := Lib.hid hi; clear hi hb))
  go_upto_region 10 with (first
    | (go_at_call 14; (with_reducible refine (lrdrop A n c l d DL DB _ (by omega) H.out H5.out H6.out).mono ?_); rintro e w10 ⟨A10, n10, c10, rfl, hi, hb⟩; have HB := Lib.hid (below_then HB.out hb); have H := Lib.hid (H.out.below hb); have Na := Lib.hid (Na.out.below hb); have Nb := Lib.hid (Nb.out.below hb); have Nc := Lib.hid (Nc.out.below hb); have Kx := Lib.hid (Kx.out.below hb); have Nd := Lib.hid (Nd.out.below hb); have Ky := Lib.hid (Ky.out.below hb); have Ne := Lib.hid (Ne.out.below hb); have Nf := Lib.hid hi; clear hi hb))
  go_upto_region 11 with (first
    | (go_at_call 9; (with_reducible refine (naps_is A n c l _ (by omega) H.out).mono ?_); rintro e w11 ⟨A11, c11, rfl, hi, hb⟩; have HB := Lib.hid (below_then HB.out hb); have H := Lib.hid (H.out.below hb); have Na := Lib.hid (Na.out.below hb); have Nb := Lib.hid (Nb.out.below hb); have Nc := Lib.hid (Nc.out.below hb); have Kx := Lib.hid (Kx.out.below hb); have Nd := Lib.hid (Nd.out.below hb); have Ky := Lib.hid (Ky.out.below hb); have Ne := Lib.hid (Ne.out.below hb); have Nf := Lib.hid (Nf.out.below hb); have HN := Lib.hid hi; clear hi hb)
    | (go_at_call 15; (with_reducible refine (ltnext A11 n c11 l XI XB _ (by omega) HN.out H7.out H8.out).mono ?_); rintro e w12 ⟨rfl, hb⟩; have HB := Lib.hid (below_then HB.out hb); have H := Lib.hid (H.out.below hb); have Na := Lib.hid (Na.out.below hb); have Nb := Lib.hid (Nb.out.below hb); have Nc := Lib.hid (Nc.out.below hb); have Kx := Lib.hid (Kx.out.below hb); have Nd := Lib.hid (Nd.out.below hb); have Ky := Lib.hid (Ky.out.below hb); have Ne := Lib.hid (Ne.out.below hb); have Nf := Lib.hid (Nf.out.below hb); clear hb))
  go_upto_region 12 with (first
    | (go_at_call 16; (with_reducible refine (lrnext A n c l XI XB _ (by omega) H.out H7.out H8.out).mono ?_); rintro e w13 ⟨rfl, hb⟩; have HB := Lib.hid (below_then HB.out hb); have H := Lib.hid (H.out.below hb); have Na := Lib.hid (Na.out.below hb); have Nb := Lib.hid (Nb.out.below hb); have Nc := Lib.hid (Nc.out.below hb); have Kx := Lib.hid (Kx.out.below hb); have Nd := Lib.hid (Nd.out.below hb); have Ky := Lib.hid (Ky.out.below hb); have Ne := Lib.hid (Ne.out.below hb); have Nf := Lib.hid (Nf.out.below hb); clear hb))
  go_wp2_with (first
    | (go_at_call 18; (with_reducible refine (slept_is A3 n3 c3 _ _ (by have h1 := Na.out.len; have h2 := HP.out; omega) Na.out).mono ?_); rintro e w14 ⟨AS, cS, rfl, hi, hb⟩; have HB := Lib.hid (below_then HB.out hb); have H := Lib.hid (H.out.below hb); have Na := Lib.hid (Na.out.below hb); have Nb := Lib.hid (Nb.out.below hb); have Nc := Lib.hid (Nc.out.below hb); have Kx := Lib.hid (Kx.out.below hb); have Nd := Lib.hid (Nd.out.below hb); have Ky := Lib.hid (Ky.out.below hb); have Ne := Lib.hid (Ne.out.below hb); have Nf := Lib.hid (Nf.out.below hb); have HSNa := Lib.hid hi; clear hi hb)
    | (go_at_call 18; (with_reducible refine (slept_is A6 n6 c6 _ _ (by have h1 := Nc.out.len; have h2 := HO.out; omega) Nc.out).mono ?_); rintro e w15 ⟨AS, cS, rfl, hi, hb⟩; have HB := Lib.hid (below_then HB.out hb); have H := Lib.hid (H.out.below hb); have Na := Lib.hid (Na.out.below hb); have Nb := Lib.hid (Nb.out.below hb); have Nc := Lib.hid (Nc.out.below hb); have Kx := Lib.hid (Kx.out.below hb); have Nd := Lib.hid (Nd.out.below hb); have Ky := Lib.hid (Ky.out.below hb); have Ne := Lib.hid (Ne.out.below hb); have Nf := Lib.hid (Nf.out.below hb); have HSNc := Lib.hid hi; clear hi hb)
    | (go_at_call 18; (with_reducible refine (slept_is A9 n9 c9 _ _ (by have h1 := Ne.out.len; have h2 := HD.out; omega) Ne.out).mono ?_); rintro e w16 ⟨AS, cS, rfl, hi, hb⟩; have HB := Lib.hid (below_then HB.out hb); have H := Lib.hid (H.out.below hb); have Na := Lib.hid (Na.out.below hb); have Nb := Lib.hid (Nb.out.below hb); have Nc := Lib.hid (Nc.out.below hb); have Kx := Lib.hid (Kx.out.below hb); have Nd := Lib.hid (Nd.out.below hb); have Ky := Lib.hid (Ky.out.below hb); have Ne := Lib.hid (Ne.out.below hb); have Nf := Lib.hid (Nf.out.below hb); have HSNe := Lib.hid hi; clear hi hb)
    | (go_at_call 17; (with_reducible refine (rnsame_is _ n3 _ A4 n4 c4 _ _ (by have h1 := Na.out.len; have h2 := HP.out; omega) HSNa.out Nb.out).mono ?_); rintro e w17 ⟨rfl, hb⟩; have HB := Lib.hid (below_then HB.out hb); have H := Lib.hid (H.out.below hb); have Na := Lib.hid (Na.out.below hb); have Nb := Lib.hid (Nb.out.below hb); have Nc := Lib.hid (Nc.out.below hb); have Kx := Lib.hid (Kx.out.below hb); have Nd := Lib.hid (Nd.out.below hb); have Ky := Lib.hid (Ky.out.below hb); have Ne := Lib.hid (Ne.out.below hb); have Nf := Lib.hid (Nf.out.below hb); clear hb)
    | (go_at_call 17; (with_reducible refine (rnsame_is _ n6 _ A7 n7 c7 _ _ (by have h1 := Nc.out.len; have h2 := HO.out; omega) HSNc.out Nd.out).mono ?_); rintro e w18 ⟨rfl, hb⟩; have HB := Lib.hid (below_then HB.out hb); have H := Lib.hid (H.out.below hb); have Na := Lib.hid (Na.out.below hb); have Nb := Lib.hid (Nb.out.below hb); have Nc := Lib.hid (Nc.out.below hb); have Kx := Lib.hid (Kx.out.below hb); have Nd := Lib.hid (Nd.out.below hb); have Ky := Lib.hid (Ky.out.below hb); have Ne := Lib.hid (Ne.out.below hb); have Nf := Lib.hid (Nf.out.below hb); clear hb)
    | (go_at_call 17; (with_reducible refine (rnsame_is _ n9 _ A10 n10 c10 _ _ (by have h1 := Ne.out.len; have h2 := HD.out; omega) HSNe.out Nf.out).mono ?_); rintro e w19 ⟨rfl, hb⟩; have HB := Lib.hid (below_then HB.out hb); have H := Lib.hid (H.out.below hb); have Na := Lib.hid (Na.out.below hb); have Nb := Lib.hid (Nb.out.below hb); have Nc := Lib.hid (Nc.out.below hb); have Kx := Lib.hid (Kx.out.below hb); have Nd := Lib.hid (Nd.out.below hb); have Ky := Lib.hid (Ky.out.below hb); have Ne := Lib.hid (Ne.out.below hb); have Nf := Lib.hid (Nf.out.below hb); clear hb)
    | (go_at_call 19; (with_reducible refine (same4_any B6 B7 m6 d6 m7 d7 KL _ (by have h1 := Kx.out.len; have h2 := HK.out; omega) Kx.out Ky.out).mono ?_); rintro e w20 ⟨rfl, hb⟩; have HB := Lib.hid (below_then HB.out hb); have H := Lib.hid (H.out.below hb); have Na := Lib.hid (Na.out.below hb); have Nb := Lib.hid (Nb.out.below hb); have Nc := Lib.hid (Nc.out.below hb); have Kx := Lib.hid (Kx.out.below hb); have Nd := Lib.hid (Nd.out.below hb); have Ky := Lib.hid (Ky.out.below hb); have Ne := Lib.hid (Ne.out.below hb); have Nf := Lib.hid (Nf.out.below hb); clear hb)
    | (go_at_call 9; (with_reducible refine (naps_is A n c l _ (by omega) H.out).mono ?_); rintro e w21 ⟨A21, c21, rfl, hi, hb⟩; have HB := Lib.hid (below_then HB.out hb); have H := Lib.hid (H.out.below hb); have Na := Lib.hid (Na.out.below hb); have Nb := Lib.hid (Nb.out.below hb); have Nc := Lib.hid (Nc.out.below hb); have Kx := Lib.hid (Kx.out.below hb); have Nd := Lib.hid (Nd.out.below hb); have Ky := Lib.hid (Ky.out.below hb); have Ne := Lib.hid (Ne.out.below hb); have Nf := Lib.hid (Nf.out.below hb); have HN := Lib.hid hi; clear hi hb)
    | (go_at_call 20; (with_reducible refine (tsane_is A21 n c21 l SB _ (by omega) HN.out H9.out).mono ?_); rintro e w22 ⟨rfl, hb⟩; have HB := Lib.hid (below_then HB.out hb); have H := Lib.hid (H.out.below hb); have Na := Lib.hid (Na.out.below hb); have Nb := Lib.hid (Nb.out.below hb); have Nc := Lib.hid (Nc.out.below hb); have Kx := Lib.hid (Kx.out.below hb); have Nd := Lib.hid (Nd.out.below hb); have Ky := Lib.hid (Ky.out.below hb); have Ne := Lib.hid (Ne.out.below hb); have Nf := Lib.hid (Nf.out.below hb); clear hb)
    | (go_at_call 21; (with_reducible refine (rnSane_is A n c l SB _ H.out (by omega) H9.out).mono ?_); rintro e w23 ⟨rfl, hb⟩; have HB := Lib.hid (below_then HB.out hb); have H := Lib.hid (H.out.below hb); have Na := Lib.hid (Na.out.below hb); have Nb := Lib.hid (Nb.out.below hb); have Nc := Lib.hid (Nc.out.below hb); have Kx := Lib.hid (Kx.out.below hb); have Nd := Lib.hid (Nd.out.below hb); have Ky := Lib.hid (Ky.out.below hb); have Ne := Lib.hid (Ne.out.below hb); have Nf := Lib.hid (Nf.out.below hb); clear hb))
  go_ret
  exact ⟨rfl, HB.out⟩
end Go.Proofs.Ytpkfmbknbdlnpaa
