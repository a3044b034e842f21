/-
  DictIs walked: what package dict answers is what the document says.
-/
import Derived.Test.YtkpomphjicoaeaaDictRefB
namespace Go.Proofs.Ytkpomphjicoaeaa
open Go.RowKit

theorem radd_at (A : Option Addr) (n c : Nat) (l : List En) (S : ByteArray) (m : Bool) (k v t p : Int) (N : Nat) (M : List En) (f : Int) (w : World) (hn : n ≤ 90000) (hs : S.size ≤ 2000) (h : Ens w A n c l)
    (hf : adE l ⟨S, m, k, v, t, p⟩ = f) (hM : adL l ⟨S, m, k, v, t, p⟩ = M) (hN : M.length = N) :
    Calls Try.prog 16 #[.slice A n c, .agg #[.string S, .bool m, .int .i64 k, .int .i64 v, .int .i64 t, .int .i64 p]] w (AddAt N M f w) := by
  subst hf hM hN
  exact radd11_any A n c l S m k v t p w hn hs h
theorem rfind_at (A : Option Addr) (n c : Nat) (l : List En) (S : ByteArray) (i : Int) (b : Bool) (w : World) (hn : n ≤ 100000) (hs : S.size ≤ 2000) (h : Ens w A n c l) (hi : dV (dF l S) = i) (hb : (dF l S).isSome = b) :
    Calls Try.prog 13 #[.slice A n c, .string S] w fun e w' => e = .returned (.tuple #[.int .i64 i, .bool b]) ∧ Below w.heap.size w w' := by
  subst hi hb
  exact rfind11_any A n c l S _ w hn hs h rfl
theorem rcode_at (A : Option Addr) (n c : Nat) (l : List En) (i : Int) (N : Nat) (D : List (Int × Int)) (b : Bool) (w : World) (hs : ∀ e ∈ l, e.s.size ≤ 2000) (h : Ens w A n c l) (hb : dCb l i = b) (hD : dC l i = D) (hN : D.length = N) :
    Calls Try.prog 18 #[.slice A n c, .int .i64 i] w (CodeAt N D b w) := by
  subst hb hD hN
  exact rcode11_any A n c l i w hs h

set_option maxHeartbeats 1000000 in
theorem is_few (A : Option Addr) (n c : Nat) (l : List En) (S : ByteArray) (m : Bool) (k v t p : Int) (R : ByteArray) (i t0 p0 : Int) (w : World) (hz : n ≤ 9223372036854775807) (h : Ens w A n c l) (hf : fewB l = false) :
    Calls Try.prog 3 #[.slice A n c, .agg #[.string S, .bool m, .int .i64 k, .int .i64 v, .int .i64 t, .int .i64 p], .string R, .int .i64 i, .agg #[.int .i64 t0, .int .i64 p0]] w fun e w' => e = .returned (.bool true) ∧ Below w.heap.size w w' := by
  have HZ := Lib.hid hz
  have H := Lib.hid h
  have HF := Lib.hid hf
  have X0 := Lib.hid ((Ev.new w 26 ⟨S, m, k, v, t, p⟩).alloc (.cells #[.int .i64 t0, .int .i64 p0] 24))
  have P0 := Lib.hid (Pa.new (w.alloc (.cells #[.string S, .bool m, .int .i64 k, .int .i64 v, .int .i64 t, .int .i64 p] 26)) 24 t0 p0 (w.heap.size + 1) (by simp))
  have HB0 := Lib.hid (two_new w (.cells #[.string S, .bool m, .int .i64 k, .int .i64 v, .int .i64 t, .int .i64 p] 26) (.cells #[.int .i64 t0, .int .i64 p0] 24))
  clear hz h hf
  go_enter Try.func3, Try.ntmps3
  go_wp2_with (first
    | (go_at_call 9; refine (awake_any _).mono ?_; rintro e w1 ⟨rfl, hb1⟩; have HB1 := Lib.hid (below_then HB0.out hb1); have X1 := Lib.hid (X0.out.keep hb1); have P1 := Lib.hid (P0.out.keep hb1); have H1 := Lib.hid (H.out.below (below_then HB0.out hb1)); clear hb1; have x0 := X1.out.c0; have x1 := X1.out.c1; have x2 := X1.out.c2; have x3 := X1.out.c3; have x4 := X1.out.c4; have x5 := X1.out.c5; have xlt := X1.out.lt)
    | (go_at_call 10; refine (few_any _ _ _ l _ _ HZ.out H1.out HF.out).mono ?_; rintro e w2 ⟨rfl, rfl⟩))
  go_ret
  exact ⟨rfl, HB1.out⟩

set_option maxHeartbeats 1000000 in
theorem is_text (A : Option Addr) (n c : Nat) (l : List En) (S : ByteArray) (m : Bool) (k v t p : Int) (R : ByteArray) (i t0 p0 : Int) (w : World) (hz : n ≤ 9223372036854775807) (h : Ens w A n c l) (hf : fewB l = true) (hr : 100 < R.size) :
    Calls Try.prog 3 #[.slice A n c, .agg #[.string S, .bool m, .int .i64 k, .int .i64 v, .int .i64 t, .int .i64 p], .string R, .int .i64 i, .agg #[.int .i64 t0, .int .i64 p0]] w fun e w' => e = .returned (.bool true) ∧ Below w.heap.size w w' := by
  have hr2 : decide ((100 : Int) < (R.size : Int)) = true := by simp; omega
  clear hr
  have HZ := Lib.hid hz
  have H := Lib.hid h
  have HF := Lib.hid hf
  have X0 := Lib.hid ((Ev.new w 26 ⟨S, m, k, v, t, p⟩).alloc (.cells #[.int .i64 t0, .int .i64 p0] 24))
  have P0 := Lib.hid (Pa.new (w.alloc (.cells #[.string S, .bool m, .int .i64 k, .int .i64 v, .int .i64 t, .int .i64 p] 26)) 24 t0 p0 (w.heap.size + 1) (by simp))
  have HB0 := Lib.hid (two_new w (.cells #[.string S, .bool m, .int .i64 k, .int .i64 v, .int .i64 t, .int .i64 p] 26) (.cells #[.int .i64 t0, .int .i64 p0] 24))
  clear hz h hf
  go_enter Try.func3, Try.ntmps3
  go_wp2_with (first
    | (go_at_call 9; refine (awake_any _).mono ?_; rintro e w1 ⟨rfl, hb1⟩; have HB1 := Lib.hid (below_then HB0.out hb1); have X1 := Lib.hid (X0.out.keep hb1); have P1 := Lib.hid (P0.out.keep hb1); have H1 := Lib.hid (H.out.below (below_then HB0.out hb1)); clear hb1; have x0 := X1.out.c0; have x1 := X1.out.c1; have x2 := X1.out.c2; have x3 := X1.out.c3; have x4 := X1.out.c4; have x5 := X1.out.c5; have xlt := X1.out.lt)
    | (go_at_call 10; refine (few_any _ _ _ l _ _ HZ.out H1.out HF.out).mono ?_; rintro e w2 ⟨rfl, rfl⟩))
  go_ret
  exact ⟨rfl, HB1.out⟩

set_option maxHeartbeats 1000000 in
theorem is_long (A : Option Addr) (n c : Nat) (l : List En) (S : ByteArray) (m : Bool) (k v t p : Int) (R : ByteArray) (i t0 p0 : Int) (w : World) (hz : n ≤ 9223372036854775807) (h : Ens w A n c l) (hf : fewB l = true) (hr : R.size ≤ 100) (hs : 100 < S.size) :
    Calls Try.prog 3 #[.slice A n c, .agg #[.string S, .bool m, .int .i64 k, .int .i64 v, .int .i64 t, .int .i64 p], .string R, .int .i64 i, .agg #[.int .i64 t0, .int .i64 p0]] w fun e w' => e = .returned (.bool true) ∧ Below w.heap.size w w' := by
  have hr2 : decide ((100 : Int) < (R.size : Int)) = false := by simp; omega
  have hs2 : decide ((100 : Int) < (S.size : Int)) = true := by simp; omega
  clear hr hs
  have HZ := Lib.hid hz
  have H := Lib.hid h
  have HF := Lib.hid hf
  have X0 := Lib.hid ((Ev.new w 26 ⟨S, m, k, v, t, p⟩).alloc (.cells #[.int .i64 t0, .int .i64 p0] 24))
  have P0 := Lib.hid (Pa.new (w.alloc (.cells #[.string S, .bool m, .int .i64 k, .int .i64 v, .int .i64 t, .int .i64 p] 26)) 24 t0 p0 (w.heap.size + 1) (by simp))
  have HB0 := Lib.hid (two_new w (.cells #[.string S, .bool m, .int .i64 k, .int .i64 v, .int .i64 t, .int .i64 p] 26) (.cells #[.int .i64 t0, .int .i64 p0] 24))
  clear hz h hf
  go_enter Try.func3, Try.ntmps3
  go_wp2_with (first
    | (go_at_call 9; refine (awake_any _).mono ?_; rintro e w1 ⟨rfl, hb1⟩; have HB1 := Lib.hid (below_then HB0.out hb1); have X1 := Lib.hid (X0.out.keep hb1); have P1 := Lib.hid (P0.out.keep hb1); have H1 := Lib.hid (H.out.below (below_then HB0.out hb1)); clear hb1; have x0 := X1.out.c0; have x1 := X1.out.c1; have x2 := X1.out.c2; have x3 := X1.out.c3; have x4 := X1.out.c4; have x5 := X1.out.c5; have xlt := X1.out.lt)
    | (go_at_call 10; refine (few_any _ _ _ l _ _ HZ.out H1.out HF.out).mono ?_; rintro e w2 ⟨rfl, rfl⟩))
  go_ret
  exact ⟨rfl, HB1.out⟩

set_option maxHeartbeats 8000000 in
set_option maxRecDepth 8000 in
theorem is_ok (A : Option Addr) (n c : Nat) (l : List En) (S : ByteArray) (m : Bool) (k v t p : Int) (R : ByteArray) (i t0 p0 : Int) (fi f y X1' X2' : Int) (fb ok b cb : Bool) (N z : Nat) (M : List En) (C : List (Int × Int)) (w : World) (hz : n ≤ 9223372036854775807) (h : Ens w A n c l) (hf : fewB l = true) (hr : R.size ≤ 100) (hs : S.size ≤ 100) (hn : n ≤ 600) (hN : N ≤ 700) (hzz : z ≤ 100)
    (F1 : Hid (dV (dF l R) = fi)) (F2 : Hid ((dF l R).isSome = fb)) (HAE : Hid (adE l ⟨S, m, k, v, t, p⟩ = f)) (HAL : Hid (adL l ⟨S, m, k, v, t, p⟩ = M)) (HAN : Hid (M.length = N)) (HLS : Hid (∀ e ∈ l, e.s.size ≤ 2000)) (HC1 : Hid (dCb l i = cb)) (HC2 : Hid (dC l i = C)) (HC3 : Hid (C.length = z))
    (HIM : Hid (i ≤ 9223372036854775807)) (HO1 : Hid (dOk i = ok)) (HO2 : Hid (dT i = X1')) (HO3 : Hid (dQ i = X2')) (HY : Hid (dP t0 p0 = y)) (HSN : Hid (saneB ⟨S, m, k, v, t, p⟩ = b)) :
    Calls Try.prog 3 #[.slice A n c, .agg #[.string S, .bool m, .int .i64 k, .int .i64 v, .int .i64 t, .int .i64 p], .string R, .int .i64 i, .agg #[.int .i64 t0, .int .i64 p0]] w fun e w' => e = .returned (.bool true) ∧ Below w.heap.size w w' := by
  have hr2 : decide ((100 : Int) < (R.size : Int)) = false := by simp; omega
  have hs2 : decide ((100 : Int) < (S.size : Int)) = false := by simp; omega
  have HZ := Lib.hid hz
  have H := Lib.hid h
  have HF := Lib.hid hf
  have X0 := Lib.hid ((Ev.new w 26 ⟨S, m, k, v, t, p⟩).alloc (.cells #[.int .i64 t0, .int .i64 p0] 24))
  have P0 := Lib.hid (Pa.new (w.alloc (.cells #[.string S, .bool m, .int .i64 k, .int .i64 v, .int .i64 t, .int .i64 p] 26)) 24 t0 p0 (w.heap.size + 1) (by simp))
  have HB0 := Lib.hid (two_new w (.cells #[.string S, .bool m, .int .i64 k, .int .i64 v, .int .i64 t, .int .i64 p] 26) (.cells #[.int .i64 t0, .int .i64 p0] 24))
  clear hz h hf
  go_enter Try.func3, Try.ntmps3
  go_upto_region 6 with (first
    | (go_at_call 9; refine (awake_any _).mono ?_; rintro e w1 ⟨rfl, hb1⟩; have HB1 := Lib.hid (below_then HB0.out hb1); have X1 := Lib.hid (X0.out.keep hb1); have P1 := Lib.hid (P0.out.keep hb1); have H1 := Lib.hid (H.out.below (below_then HB0.out hb1)); clear hb1; have x0 := X1.out.c0; have x1 := X1.out.c1; have x2 := X1.out.c2; have x3 := X1.out.c3; have x4 := X1.out.c4; have x5 := X1.out.c5; have xlt := X1.out.lt; have HV := Lib.hid (Below.refl w1.heap.size w1))
    | (go_at_call 10; refine (few_any _ _ _ l _ _ HZ.out H1.out HF.out).mono ?_; rintro e w2 ⟨rfl, rfl⟩)
    | (go_at_call 12; refine (entries_any A n c l _ (by omega) H1.out).mono ?_; rintro e wa ⟨Aa, ca, rfl, hoa⟩; have hba := hoa.below; have Ha := Lib.hid hoa.ens; have HV := Lib.hid (below_then HV.out hba); have X1 := Lib.hid (X1.out.keep hba); have P1 := Lib.hid (P1.out.keep hba); have H1 := Lib.hid (H1.out.below hba); clear hba hoa)
    | (go_at_call 11; refine (find_at Aa n ca l R fi fb _ (by omega) (by omega) Ha.out F1.out F2.out).mono ?_; rintro e wb ⟨rfl, hbb⟩; have HV := Lib.hid (below_then HV.out hbb); have X1 := Lib.hid (X1.out.keep hbb); have P1 := Lib.hid (P1.out.keep hbb); have H1 := Lib.hid (H1.out.below hbb); clear hbb)
    | (go_at_call 13; refine (rfind_at A n c l R fi fb _ (by omega) (by omega) H1.out F1.out F2.out).mono ?_; rintro e wc ⟨rfl, hbc⟩; have HV := Lib.hid (below_then HV.out hbc); have X1 := Lib.hid (X1.out.keep hbc); have P1 := Lib.hid (P1.out.keep hbc); have H1 := Lib.hid (H1.out.below hbc); clear hbc))

  have K1 := Lib.hid (fun w9 (h9 : Below wc.heap.size wc w9) => entries_any A n c l w9 (by omega) (H1.out.below h9))
  have K2 := Lib.hid (fun A9 c9 w9 (h9 : Ens w9 A9 n c9 l) => add_at A9 n c9 l S m k v t p N M f w9 (by omega) (by omega) h9 HAE.out HAL.out HAN.out)
  have HV2 : Hid (Below wc.heap.size wc wc.drew) := Lib.hid (Below.refl _ _).drew
  clear x0 x1 x2 x3 x4 x5 xlt
  go_region_held3 (fun w9 => Below wc.heap.size wc w9 ∧ w9.cell? ⟨w.heap.size, 0, none⟩ = some (.string S) ∧ w9.cell? ⟨w.heap.size, 1, none⟩ = some (.bool m) ∧ w9.cell? ⟨w.heap.size, 2, none⟩ = some (.int .i64 k) ∧ w9.cell? ⟨w.heap.size, 3, none⟩ = some (.int .i64 v) ∧ w9.cell? ⟨w.heap.size, 4, none⟩ = some (.int .i64 t) ∧ w9.cell? ⟨w.heap.size, 5, none⟩ = some (.int .i64 p)) (first | assumption | exact sixB X1.out HV2.out)
    (first
      | (go_at_call 12; (with_reducible refine (K1.out _ HV2.out).mono ?_); rintro e wd ⟨Ad, cd, rfl, hod⟩; have HV2 := Lib.hid (below_then HV2.out hod.below); have Hd := Lib.hid hod.ens; clear hod)
      | (go_at_call 15; refine (entry_is _ _ _ _ _ _ _).mono ?_; rintro e we ⟨rfl, hbe⟩; have HV2 := Lib.hid (below_then HV2.out hbe); have He := Lib.hid (Hd.out.below hbe); clear hbe)
      | (go_at_call 14; (with_reducible refine (K2.out _ _ _ He.out).mono ?_); rintro e wg ⟨Ag, cg, rfl, hg, hbg⟩; have HV2 := Lib.hid (below_then HV2.out hbg); have HAg := Lib.hid hg; clear hg hbg))
  clear K1 K2
  have HBg := Lib.hid (below_then HB1.out (below_then HV.out HV2.out))
  have X1 := Lib.hid (X1.out.keep HV2.out)
  have P1 := Lib.hid (P1.out.keep HV2.out)
  have H1 := Lib.hid (H1.out.below HV2.out)
  have HV := Lib.hid (Below.refl wg.heap.size wg)
  have x0 := X1.out.c0
  have x1 := X1.out.c1
  have x2 := X1.out.c2
  have x3 := X1.out.c3
  have x4 := X1.out.c4
  have x5 := X1.out.c5
  have xlt := X1.out.lt
  go_upto_region 12 with (first
    | (go_at_call 16; refine (radd_at A n c l S m k v t p N M f _ (by omega) (by omega) H1.out HAE.out HAL.out HAN.out).mono ?_; rintro e wh ⟨Bh, ch, rfl, hh, hbh⟩; have HV := Lib.hid (below_then HV.out hbh); have X1 := Lib.hid (X1.out.keep hbh); have P1 := Lib.hid (P1.out.keep hbh); have H1 := Lib.hid (H1.out.below hbh); have HAg := Lib.hid (HAg.out.below hbh); have HBh := Lib.hid hh; clear hh; clear hbh)
    | (go_at_call 12; refine (entries_any A n c l _ (by omega) H1.out).mono ?_; rintro e wi ⟨Ai, ci, rfl, hoi⟩; have hbi := hoi.below; have Hi := Lib.hid hoi.ens; have HV := Lib.hid (below_then HV.out hbi); have X1 := Lib.hid (X1.out.keep hbi); have P1 := Lib.hid (P1.out.keep hbi); have H1 := Lib.hid (H1.out.below hbi); have HAg := Lib.hid (HAg.out.below hbi); have HBh := Lib.hid (HBh.out.below hbi); clear hbi hoi)
    | (go_at_call 17; refine (code_at Ai n ci l i z C cb _ HLS.out Hi.out HC1.out HC2.out HC3.out).mono ?_; rintro e wj ⟨Aj, cj, rfl, hj, hbj⟩; have HV := Lib.hid (below_then HV.out hbj); have X1 := Lib.hid (X1.out.keep hbj); have P1 := Lib.hid (P1.out.keep hbj); have H1 := Lib.hid (H1.out.below hbj); have HAg := Lib.hid (HAg.out.below hbj); have HBh := Lib.hid (HBh.out.below hbj); have HCp := Lib.hid hj; clear hj; clear hbj)
    | (go_at_call 18; refine (rcode_at A n c l i z C cb _ HLS.out H1.out HC1.out HC2.out HC3.out).mono ?_; rintro e wk ⟨Ak, ck, rfl, hk, hbk⟩; have HV := Lib.hid (below_then HV.out hbk); have X1 := Lib.hid (X1.out.keep hbk); have P1 := Lib.hid (P1.out.keep hbk); have H1 := Lib.hid (H1.out.below hbk); have HAg := Lib.hid (HAg.out.below hbk); have HBh := Lib.hid (HBh.out.below hbk); have HCp := Lib.hid (HCp.out.below hbk); have HDp := Lib.hid hk; clear hk; clear hbk)
    | (go_at_call 19; refine (at_is i X1' X2' ok HIM.out HO1.out HO2.out HO3.out _).mono ?_; rintro e wm ⟨rfl, hbm⟩; have HV := Lib.hid (below_then HV.out hbm); have X1 := Lib.hid (X1.out.keep hbm); have P1 := Lib.hid (P1.out.keep hbm); have H1 := Lib.hid (H1.out.below hbm); have HAg := Lib.hid (HAg.out.below hbm); have HBh := Lib.hid (HBh.out.below hbm); have HCp := Lib.hid (HCp.out.below hbm); have HDp := Lib.hid (HDp.out.below hbm); clear hbm)
    | (go_at_call 20; refine (rat11_is i X1' X2' ok HIM.out HO1.out HO2.out HO3.out _).mono ?_; rintro e wn ⟨rfl, hbn0⟩; have hbn := below_then (below_one wm (.cells #[.int .i64 X1', .int .i64 X2'] 24)) hbn0; have HV := Lib.hid (below_then HV.out hbn); have X1 := Lib.hid (X1.out.keep hbn); have P1 := Lib.hid (P1.out.keep hbn); have H1 := Lib.hid (H1.out.below hbn); have HAg := Lib.hid (HAg.out.below hbn); have HBh := Lib.hid (HBh.out.below hbn); have HCp := Lib.hid (HCp.out.below hbn); have HDp := Lib.hid (HDp.out.below hbn); have Q1 := Lib.hid ((Pa.new wm 24 X1' X2' _ rfl).keep hbn0); clear hbn hbn0))
  have HBn := Lib.hid (below_then HBg.out (below_then HV.out (below_one wn (.cells #[.int .i64 X1', .int .i64 X2'] 24))))
  have R1 := Lib.hid (Pa.new wn 24 X1' X2' _ rfl)
  have Q1 := Lib.hid (Q1.out.keep (below_one wn (.cells #[.int .i64 X1', .int .i64 X2'] 24)))
  have X1 := Lib.hid (X1.out.keep (below_one wn (.cells #[.int .i64 X1', .int .i64 X2'] 24)))
  have P1 := Lib.hid (P1.out.keep (below_one wn (.cells #[.int .i64 X1', .int .i64 X2'] 24)))
  have H1 := Lib.hid (H1.out.below (below_one wn (.cells #[.int .i64 X1', .int .i64 X2'] 24)))
  have HAg := Lib.hid (HAg.out.below (below_one wn (.cells #[.int .i64 X1', .int .i64 X2'] 24)))
  have HBh := Lib.hid (HBh.out.below (below_one wn (.cells #[.int .i64 X1', .int .i64 X2'] 24)))
  have HCp := Lib.hid (HCp.out.below (below_one wn (.cells #[.int .i64 X1', .int .i64 X2'] 24)))
  have HDp := Lib.hid (HDp.out.below (below_one wn (.cells #[.int .i64 X1', .int .i64 X2'] 24)))
  clear x0 x1 x2 x3 x4 x5 xlt
  generalize wn.alloc (.cells #[.int .i64 X1', .int .i64 X2'] 24) = wz at *
  have HV := Lib.hid (show Below wz.heap.size wz wz.drew from (Below.refl _ _).drew)
  have qpp : ∀ W : World, (binOp .eql 24 (.agg #[.int .i64 X1', .int .i64 X2']) (.agg #[.int .i64 X1', .int .i64 X2'])).run Try.prog W = .ok (.bool true) W := fun W => by rw [eqPP]; simp
  have KW := Lib.hid (fun w9 (h9 : Below wz.heap.size wz w9) => words_any Ag N cg M w9 (by omega) (HAg.out.below h9))
  have KB := Lib.hid (fun w9 (h9 : Below wz.heap.size wz w9) => HBh.out.below h9)
  have KC := Lib.hid (fun w9 (h9 : Below wz.heap.size wz w9) => code_any Aj Ak z cj z ck C C true w9 (by omega) (by omega) (HCp.out.below h9) (HDp.out.below h9) (by simp))
  have xl := X1.out.lt
  have pl := P1.out.1
  have ql := Q1.out.1
  have rl := R1.out.1
  go_region_held3 (fun w9 => Below wz.heap.size wz w9 ∧ w9.cell? ⟨w.heap.size, 0, none⟩ = some (.string S) ∧ w9.cell? ⟨w.heap.size, 1, none⟩ = some (.bool m) ∧ w9.cell? ⟨w.heap.size, 2, none⟩ = some (.int .i64 k) ∧ w9.cell? ⟨w.heap.size, 3, none⟩ = some (.int .i64 v) ∧ w9.cell? ⟨w.heap.size, 4, none⟩ = some (.int .i64 t) ∧ w9.cell? ⟨w.heap.size, 5, none⟩ = some (.int .i64 p) ∧ w9.cell? ⟨w.heap.size + 1, 0, none⟩ = some (.int .i64 t0) ∧ w9.cell? ⟨w.heap.size + 1, 1, none⟩ = some (.int .i64 p0) ∧ w9.cell? ⟨wm.heap.size, 0, none⟩ = some (.int .i64 X1') ∧ w9.cell? ⟨wm.heap.size, 1, none⟩ = some (.int .i64 X2') ∧ w9.cell? ⟨wn.heap.size, 0, none⟩ = some (.int .i64 X1') ∧ w9.cell? ⟨wn.heap.size, 1, none⟩ = some (.int .i64 X2')) (first | assumption | exact ⟨HV.out, (X1.out.keep HV.out).c0, (X1.out.keep HV.out).c1, (X1.out.keep HV.out).c2, (X1.out.keep HV.out).c3, (X1.out.keep HV.out).c4, (X1.out.keep HV.out).c5, (P1.out.keep HV.out).2.1, (P1.out.keep HV.out).2.2, (Q1.out.keep HV.out).2.1, (Q1.out.keep HV.out).2.2, (R1.out.keep HV.out).2.1, (R1.out.keep HV.out).2.2⟩)
    (first
      | (go_at_call 22; (with_reducible refine (KW.out _ HV.out).mono ?_); rintro e wa1 ⟨Aw, cw, rfl, how⟩; have HV := Lib.hid (below_then HV.out how.below); have Hw := Lib.hid how.ens; clear how)
      | (go_at_call 21; refine (sameE_any Aw Bh N cw N ch M M true _ (by omega) (by omega) Hw.out (KB.out _ HV.out) ⟨fun _ => rfl, fun _ => rfl⟩).mono ?_; rintro e wb1 ⟨rfl, hbw⟩; have HV := Lib.hid (below_then HV.out hbw); clear hbw)
      | (go_at_call 23; (with_reducible refine (KC.out _ HV.out).mono ?_); rintro e wc1 ⟨rfl, hbw⟩; have HV := Lib.hid (below_then HV.out hbw); clear hbw)
      | (go_at_call 24; refine (addr_is t0 p0 y HY.out _).mono ?_; rintro e wd1 ⟨rfl, hbw⟩; have HV := Lib.hid (below_then HV.out hbw); clear hbw)
      | (go_at_call 25; refine (raddr11_is t0 p0 y HY.out _).mono ?_; rintro e we1 ⟨rfl, hbw⟩; have HV := Lib.hid (below_then HV.out hbw); clear hbw)
      | (go_at_call 15; refine (entry_is _ _ _ _ _ _ _).mono ?_; rintro e wf1 ⟨rfl, hbw⟩; have HV := Lib.hid (below_then HV.out hbw); clear hbw)
      | (go_at_call 26; refine (sane_is S m k v t p b (by omega) HSN.out _).mono ?_; rintro e wg1 ⟨rfl, hbw⟩; have HV := Lib.hid (below_then HV.out hbw); clear hbw)
      | (go_at_call 27; refine (rsane11_is S m k v t p b (by omega) HSN.out _).mono ?_; rintro e wh1 ⟨rfl, hbw⟩; have HV := Lib.hid (below_then HV.out hbw); clear hbw))
  go_wp2
  go_ret
  exact ⟨rfl, below_then HBn.out HV.out⟩

theorem cdL_len (e : En) : (cdL e).length ≤ 2 := by
  unfold cdL
  split
  · simp
  · split
    · simp
    · split <;> simp
theorem dC_len (l : List En) (i : Int) : (dC l i).length ≤ 2 := by
  unfold dC
  split
  · exact cdL_len _
  · simp
theorem adL_len (l : List En) (e : En) : (adL l e).length ≤ l.length + 1 := by
  unfold adL
  split
  · simp
  · omega
theorem is_any (A : Option Addr) (n c : Nat) (l : List En) (S : ByteArray) (m : Bool) (k v t p : Int) (R : ByteArray) (i t0 p0 : Int) (w : World) (hz : n ≤ 9223372036854775807) (hi : i ≤ 9223372036854775807) (h : Ens w A n c l) :
    Calls Try.prog 3 #[.slice A n c, .agg #[.string S, .bool m, .int .i64 k, .int .i64 v, .int .i64 t, .int .i64 p], .string R, .int .i64 i, .agg #[.int .i64 t0, .int .i64 p0]] w fun e w' => e = .returned (.bool true) ∧ Below w.heap.size w w' := by
  cases hf : fewB l
  · exact is_few A n c l S m k v t p R i t0 p0 w hz h hf
  · by_cases hr : 100 < R.size
    · exact is_text A n c l S m k v t p R i t0 p0 w hz h hf hr
    · by_cases hs : 100 < S.size
      · exact is_long A n c l S m k v t p R i t0 p0 w hz h hf (by omega) hs
      · have hl := h.len
        have hn := few_len hf
        have h1 := adL_len l ⟨S, m, k, v, t, p⟩
        have h2 := dC_len l i
        exact is_ok A n c l S m k v t p R i t0 p0 _ _ _ _ _ _ _ _ _ _ _ _ _ w hz h hf (by omega) (by omega) (by omega) (by omega) (by omega) (Lib.hid rfl) (Lib.hid rfl) (Lib.hid rfl) (Lib.hid rfl) (Lib.hid rfl) (Lib.hid fun e he => by have := few_size hf e he; omega) (Lib.hid rfl) (Lib.hid rfl) (Lib.hid rfl) (Lib.hid hi) (Lib.hid rfl) (Lib.hid rfl) (Lib.hid rfl) (Lib.hid rfl) (Lib.hid rfl)
end Go.Proofs.Ytkpomphjicoaeaa
