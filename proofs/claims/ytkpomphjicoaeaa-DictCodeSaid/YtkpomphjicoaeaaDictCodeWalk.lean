/-
  DictCode walked: what is laid of a word is short, and leads to it.
-/
import Derived.Test.YtkpomphjicoaeaaDictAt
import Derived.Test.YtkpomphjicoaeaaCellMath
namespace Go.Proofs.Ytkpomphjicoaeaa
open Go.RowKit

set_option maxHeartbeats 1000000 in
theorem codes_few (A : Option Addr) (n c : Nat) (l : List En) (S : ByteArray) (m : Bool) (k v t p : Int) (i : Int) (w : World) (hz : n ≤ 9223372036854775807) (h : Ens w A n c l) (hf : fewB l = false) :
    Calls Try.prog 7 #[.slice A n c, .agg #[.string S, .bool m, .int .i64 k, .int .i64 v, .int .i64 t, .int .i64 p], .int .i64 i] w fun e w' => e = .returned (.bool true) ∧ Below w.heap.size w w' := by
  have HZ := Lib.hid hz
  have H := Lib.hid h
  have HF := Lib.hid hf
  have X0 := Lib.hid (Ev.new w 26 ⟨S, m, k, v, t, p⟩)
  have HB0 := Lib.hid (below_one w (.cells #[.string S, .bool m, .int .i64 k, .int .i64 v, .int .i64 t, .int .i64 p] 26))
  clear hz h hf
  go_enter Try.func7, Try.ntmps7
  go_wp2_with (first
    | (go_at_call 9; refine (awake_any _).mono ?_; rintro e w1 ⟨rfl, hb1⟩; have HB1 := Lib.hid (below_then HB0.out hb1); have X1 := Lib.hid (X0.out.keep hb1); have H1 := Lib.hid (H.out.below (below_then HB0.out hb1)); clear hb1; have x0 := X1.out.c0; have x1 := X1.out.c1; have x2 := X1.out.c2; have x3 := X1.out.c3; have x4 := X1.out.c4; have x5 := X1.out.c5; have xlt := X1.out.lt)
    | (go_at_call 10; refine (few_any _ _ _ l _ _ HZ.out H1.out HF.out).mono ?_; rintro e w2 ⟨rfl, rfl⟩))
  go_ret
  exact ⟨rfl, HB1.out⟩

set_option maxHeartbeats 1000000 in
theorem codes_none (A : Option Addr) (n c : Nat) (l : List En) (S : ByteArray) (m : Bool) (k v t p : Int) (i : Int) (w : World) (hz : n ≤ 9223372036854775807) (h : Ens w A n c l) (hf : fewB l = true) (hn : n = 0) :
    Calls Try.prog 7 #[.slice A n c, .agg #[.string S, .bool m, .int .i64 k, .int .i64 v, .int .i64 t, .int .i64 p], .int .i64 i] w fun e w' => e = .returned (.bool true) ∧ Below w.heap.size w w' := by
  subst hn
  have HZ := Lib.hid hz
  have H := Lib.hid h
  have HF := Lib.hid hf
  have X0 := Lib.hid (Ev.new w 26 ⟨S, m, k, v, t, p⟩)
  have HB0 := Lib.hid (below_one w (.cells #[.string S, .bool m, .int .i64 k, .int .i64 v, .int .i64 t, .int .i64 p] 26))
  clear hz h hf
  go_enter Try.func7, Try.ntmps7
  go_wp2_with (first
    | (go_at_call 9; refine (awake_any _).mono ?_; rintro e w1 ⟨rfl, hb1⟩; have HB1 := Lib.hid (below_then HB0.out hb1); have X1 := Lib.hid (X0.out.keep hb1); have H1 := Lib.hid (H.out.below (below_then HB0.out hb1)); clear hb1; have x0 := X1.out.c0; have x1 := X1.out.c1; have x2 := X1.out.c2; have x3 := X1.out.c3; have x4 := X1.out.c4; have x5 := X1.out.c5; have xlt := X1.out.lt)
    | (go_at_call 10; refine (few_any _ _ _ l _ _ HZ.out H1.out HF.out).mono ?_; rintro e w2 ⟨rfl, rfl⟩))
  go_ret
  exact ⟨rfl, HB1.out⟩

set_option maxHeartbeats 1000000 in
theorem codes_long (A : Option Addr) (n c : Nat) (l : List En) (S : ByteArray) (m : Bool) (k v t p : Int) (i : Int) (w : World) (hz : n ≤ 9223372036854775807) (h : Ens w A n c l) (hf : fewB l = true) (hn : 0 < n) (hs : 100 < S.size) :
    Calls Try.prog 7 #[.slice A n c, .agg #[.string S, .bool m, .int .i64 k, .int .i64 v, .int .i64 t, .int .i64 p], .int .i64 i] w fun e w' => e = .returned (.bool true) ∧ Below w.heap.size w w' := by
  have hn2 : ((n : Int) == 0) = false := by simp; omega
  have hs2 : decide ((100 : Int) < (S.size : Int)) = true := by simp; omega
  clear hs
  have HZ := Lib.hid hz
  have H := Lib.hid h
  have HF := Lib.hid hf
  have X0 := Lib.hid (Ev.new w 26 ⟨S, m, k, v, t, p⟩)
  have HB0 := Lib.hid (below_one w (.cells #[.string S, .bool m, .int .i64 k, .int .i64 v, .int .i64 t, .int .i64 p] 26))
  clear hz h hf
  go_enter Try.func7, Try.ntmps7
  go_wp2_with (first
    | (go_at_call 9; refine (awake_any _).mono ?_; rintro e w1 ⟨rfl, hb1⟩; have HB1 := Lib.hid (below_then HB0.out hb1); have X1 := Lib.hid (X0.out.keep hb1); have H1 := Lib.hid (H.out.below (below_then HB0.out hb1)); clear hb1; have x0 := X1.out.c0; have x1 := X1.out.c1; have x2 := X1.out.c2; have x3 := X1.out.c3; have x4 := X1.out.c4; have x5 := X1.out.c5; have xlt := X1.out.lt)
    | (go_at_call 10; refine (few_any _ _ _ l _ _ HZ.out H1.out HF.out).mono ?_; rintro e w2 ⟨rfl, rfl⟩))
  go_ret
  exact ⟨rfl, HB1.out⟩

set_option maxHeartbeats 4000000 in
set_option maxRecDepth 4000 in
theorem codes_no (xb xo : Nat) (n c : Nat) (l : List En) (S : ByteArray) (m : Bool) (k v t p : Int) (i : Int) (f : Int) (N q : Nat) (M : List En) (S' : ByteArray) (m' : Bool) (k' v' t' p' : Int) (w : World) (hz : n ≤ 9223372036854775807) (h : Ens w (some ⟨xb, xo, none⟩) n c l) (hf : fewB l = true) (hs : S.size ≤ 100) (hn : n ≤ 600) (hq : q < n) (hs' : S'.size ≤ 100)
    (HAE : Hid (adE l ⟨S, m, k, v, t, p⟩ = f)) (HAL : Hid (adL l ⟨S, m, k, v, t, p⟩ = M)) (HAN : Hid (M.length = N)) (HLS : Hid (∀ e ∈ l, e.s.size ≤ 2000)) (HMS : Hid (∀ e ∈ M, e.s.size ≤ 2000)) 
    (HSN : Hid (saneB ⟨S', m', k', v', t', p'⟩ = false)) (hi : (bits .and .i64 i 65535).tmod (n : Int) = (q : Int)) (hx : Six w xb (xo + q * 6) ⟨S', m', k', v', t', p'⟩)
    (HC1 : Hid (dCb l (q : Int) = false)) (HC2 : Hid (dC l (q : Int) = [])) (HD1 : Hid (dCb M (q : Int) = false)) (HD2 : Hid (dC M (q : Int) = [])) :
    Calls Try.prog 7 #[.slice (some ⟨xb, xo, none⟩) n c, .agg #[.string S, .bool m, .int .i64 k, .int .i64 v, .int .i64 t, .int .i64 p], .int .i64 i] w fun e w' => e = .returned (.bool true) ∧ Below w.heap.size w w' := by
  have HZ := Lib.hid hz
  have H := Lib.hid h
  have HF := Lib.hid hf
  have X0 := Lib.hid (Ev.new w 26 ⟨S, m, k, v, t, p⟩)
  have HB0 := Lib.hid (below_one w (.cells #[.string S, .bool m, .int .i64 k, .int .i64 v, .int .i64 t, .int .i64 p] 26))
  clear hz h hf
  have hn2 : ((n : Int) == 0) = false := by simp; omega
  have hs2 : decide ((100 : Int) < (S.size : Int)) = false := by simp; omega
  have hqn : (q : Int) < (n : Int) := by omega
  have QQ := Lib.hid hx
  go_enter Try.func7, Try.ntmps7
  go_upto_region 6 with (first
    | (go_at_call 9; refine (awake_any _).mono ?_; rintro e w1 ⟨rfl, hb1⟩; have HB1 := Lib.hid (below_then HB0.out hb1); have X1 := Lib.hid (X0.out.keep hb1); have H1 := Lib.hid (H.out.below (below_then HB0.out hb1)); clear hb1; have x0 := X1.out.c0; have x1 := X1.out.c1; have x2 := X1.out.c2; have x3 := X1.out.c3; have x4 := X1.out.c4; have x5 := X1.out.c5; have xlt := X1.out.lt)
    | (go_at_call 10; refine (few_any _ _ _ l _ _ HZ.out H1.out HF.out).mono ?_; rintro e w2 ⟨rfl, rfl⟩)
    | (go_at_call 12; refine (entries_any _ n c l _ (by omega) H1.out).mono ?_; rintro e wa ⟨Aa, ca, rfl, hoa⟩; have HBa := Lib.hid (below_then HB1.out hoa.below); have Ha := Lib.hid hoa.ens; have XA := Lib.hid (X1.out.keep hoa.below); clear hoa)
    | (go_at_call 17; refine (code_at Aa n ca l (q : Int) 0 [] false _ HLS.out Ha.out HC1.out HC2.out rfl).mono ?_; rintro e wd ⟨Ad, cd, rfl, hd, hbd⟩; have HBd := Lib.hid (below_then HBa.out hbd); have HPd := Lib.hid hd; have XD := Lib.hid (XA.out.keep hbd); have HQ := Lib.hid (H.out.below (below_then HBa.out hbd)); clear hd hbd))
  have K1 := Lib.hid (fun w9 (h9 : Below wd.heap.size wd w9) => entries_any _ n c l w9 (by omega) (HQ.out.below h9))
  have K2 := Lib.hid (fun A9 c9 w9 (h9 : Ens w9 A9 n c9 l) => add_at A9 n c9 l S m k v t p N M f w9 (by omega) (by omega) h9 HAE.out HAL.out HAN.out)
  have HV : Hid (Below wd.heap.size wd wd.drew) := Lib.hid (Below.refl _ _).drew
  have dlt := XD.out.lt
  clear x0 x1 x2 x3 x4 x5 xlt hi
  go_region_held3 (fun w9 => Below wd.heap.size wd w9 ∧ w9.cell? ⟨w.heap.size, 0, none⟩ = some (.string S) ∧ w9.cell? ⟨w.heap.size, 1, none⟩ = some (.bool m) ∧ w9.cell? ⟨w.heap.size, 2, none⟩ = some (.int .i64 k) ∧ w9.cell? ⟨w.heap.size, 3, none⟩ = some (.int .i64 v) ∧ w9.cell? ⟨w.heap.size, 4, none⟩ = some (.int .i64 t) ∧ w9.cell? ⟨w.heap.size, 5, none⟩ = some (.int .i64 p)) (first | assumption | exact sixB XD.out HV.out)
    (first
      | (go_at_call 12; (with_reducible refine (K1.out _ HV.out).mono ?_); rintro e we ⟨Ae, ce, rfl, hoe⟩; have HV := Lib.hid (below_then HV.out hoe.below); have He := Lib.hid hoe.ens; clear hoe)
      | (go_at_call 15; refine (entry_is _ _ _ _ _ _ _).mono ?_; rintro e wf ⟨rfl, hbf⟩; have HV := Lib.hid (below_then HV.out hbf); have Hf := Lib.hid (He.out.below hbf); clear hbf)
      | (go_at_call 14; (with_reducible refine (K2.out _ _ _ Hf.out).mono ?_); rintro e wg ⟨Ag, cg, rfl, hg, hbg⟩; have HV := Lib.hid (below_then HV.out hbg); have Hg := Lib.hid hg; clear hg hbg))
  clear K1 K2
  have HBg := Lib.hid (below_then HBd.out HV.out)
  have HPg := Lib.hid (HPd.out.below HV.out)
  go_upto_region 8 with (first
    | (go_at_call 17; refine (code_at Ag N cg M (q : Int) 0 [] false _ HMS.out Hg.out HD1.out HD2.out rfl).mono ?_; rintro e wh ⟨Ah, ch, rfl, hh, hbh⟩; have HBh := Lib.hid (below_then HBg.out hbh); have HPh := Lib.hid hh; have HPj := Lib.hid (HPg.out.below hbh); have Q8 := Lib.hid (QQ.out.keep (below_then HBg.out hbh)); clear hh hbh; have q0 := Q8.out.c0; have q1 := Q8.out.c1; have q2 := Q8.out.c2; have q3 := Q8.out.c3; have q4 := Q8.out.c4; have q5 := Q8.out.c5; have qlt := Q8.out.lt))
  go_upto_region 10 with (first
    | (go_at_call 23; refine (code_any Ad Ah 0 cd 0 ch [] [] true _ (by decide) (by decide) HPj.out HPh.out (by simp)).mono ?_; rintro e wi ⟨rfl, hbi⟩; have HBi := Lib.hid (below_then HBh.out hbi); have HPi := Lib.hid (HPj.out.below hbi); have Qi := Lib.hid (Q8.out.keep hbi); clear hbi q0 q1 q2 q3 q4 q5 qlt; have q0 := Qi.out.c0; have q1 := Qi.out.c1; have q2 := Qi.out.c2; have q3 := Qi.out.c3; have q4 := Qi.out.c4; have q5 := Qi.out.c5; have qlt := Qi.out.lt)
    | (go_at_call 15; refine (entry_is _ _ _ _ _ _ _).mono ?_; rintro e wj ⟨rfl, hbj⟩; have HBj := Lib.hid (below_then HBi.out hbj); have HPk := Lib.hid (HPi.out.below hbj); have Qj := Lib.hid (Qi.out.keep hbj); clear hbj)
    | (go_at_call 26; refine (sane_is S' m' k' v' t' p' false (by omega) HSN.out _).mono ?_; rintro e wk ⟨rfl, hbk⟩; have HBk := Lib.hid (below_then HBj.out hbk); have HPl := Lib.hid (HPk.out.below hbk); have Qk := Lib.hid (Qj.out.keep hbk); clear hbk q0 q1 q2 q3 q4 q5 qlt; have q0 := Qk.out.c0; have q1 := Qk.out.c1; have q2 := Qk.out.c2; have q3 := Qk.out.c3; have q4 := Qk.out.c4; have q5 := Qk.out.c5; have qlt := Qk.out.lt))
  go_wp2
  go_ret
  exact ⟨rfl, HBk.out⟩

set_option maxHeartbeats 4000000 in
set_option maxRecDepth 4000 in
theorem codes_k0 (xb xo : Nat) (n c : Nat) (l : List En) (S : ByteArray) (m : Bool) (k v t p : Int) (i : Int) (f : Int) (N q : Nat) (M : List En) (S' : ByteArray) (m' : Bool) (v' t' p' : Int) (t2 p2 : Int) (b2 : Bool) (HO1 : Hid (dOk 0 = b2)) (HO2 : Hid (dT 0 = t2)) (HO3 : Hid (dQ 0 = p2)) (w : World) (hz : n ≤ 9223372036854775807) (h : Ens w (some ⟨xb, xo, none⟩) n c l) (hf : fewB l = true) (hs : S.size ≤ 100) (hn : n ≤ 600) (hq : q < n) (hs' : S'.size ≤ 100)
    (HAE : Hid (adE l ⟨S, m, k, v, t, p⟩ = f)) (HAL : Hid (adL l ⟨S, m, k, v, t, p⟩ = M)) (HAN : Hid (M.length = N)) (HLS : Hid (∀ e ∈ l, e.s.size ≤ 2000)) (HMS : Hid (∀ e ∈ M, e.s.size ≤ 2000)) 
    (HSN : Hid (saneB ⟨S', m', 0, v', t', p'⟩ = true)) (hi : (bits .and .i64 i 65535).tmod (n : Int) = (q : Int)) (hx : Six w xb (xo + q * 6) ⟨S', m', 0, v', t', p'⟩)
    (HC1 : Hid (dCb l (q : Int) = true)) (HC2 : Hid (dC l (q : Int) = [(v', 0)])) (HD1 : Hid (dCb M (q : Int) = true)) (HD2 : Hid (dC M (q : Int) = [(v', 0)])) :
    Calls Try.prog 7 #[.slice (some ⟨xb, xo, none⟩) n c, .agg #[.string S, .bool m, .int .i64 k, .int .i64 v, .int .i64 t, .int .i64 p], .int .i64 i] w fun e w' => e = .returned (.bool true) ∧ Below w.heap.size w w' := by
  have HZ := Lib.hid hz
  have H := Lib.hid h
  have HF := Lib.hid hf
  have X0 := Lib.hid (Ev.new w 26 ⟨S, m, k, v, t, p⟩)
  have HB0 := Lib.hid (below_one w (.cells #[.string S, .bool m, .int .i64 k, .int .i64 v, .int .i64 t, .int .i64 p] 26))
  clear hz h hf
  have hn2 : ((n : Int) == 0) = false := by simp; omega
  have hs2 : decide ((100 : Int) < (S.size : Int)) = false := by simp; omega
  have hqn : (q : Int) < (n : Int) := by omega
  have QQ := Lib.hid hx
  go_enter Try.func7, Try.ntmps7
  go_upto_region 6 with (first
    | (go_at_call 9; refine (awake_any _).mono ?_; rintro e w1 ⟨rfl, hb1⟩; have HB1 := Lib.hid (below_then HB0.out hb1); have X1 := Lib.hid (X0.out.keep hb1); have H1 := Lib.hid (H.out.below (below_then HB0.out hb1)); clear hb1; have x0 := X1.out.c0; have x1 := X1.out.c1; have x2 := X1.out.c2; have x3 := X1.out.c3; have x4 := X1.out.c4; have x5 := X1.out.c5; have xlt := X1.out.lt)
    | (go_at_call 10; refine (few_any _ _ _ l _ _ HZ.out H1.out HF.out).mono ?_; rintro e w2 ⟨rfl, rfl⟩)
    | (go_at_call 12; refine (entries_any _ n c l _ (by omega) H1.out).mono ?_; rintro e wa ⟨Aa, ca, rfl, hoa⟩; have HBa := Lib.hid (below_then HB1.out hoa.below); have Ha := Lib.hid hoa.ens; have XA := Lib.hid (X1.out.keep hoa.below); clear hoa)
    | (go_at_call 17; refine (code_at Aa n ca l (q : Int) 1 [(v', 0)] true _ HLS.out Ha.out HC1.out HC2.out rfl).mono ?_; rintro e wd ⟨Ad, cd, rfl, hd, hbd⟩; have HBd := Lib.hid (below_then HBa.out hbd); have HPd := Lib.hid hd; have XD := Lib.hid (XA.out.keep hbd); have HQ := Lib.hid (H.out.below (below_then HBa.out hbd)); clear hd hbd))
  have K1 := Lib.hid (fun w9 (h9 : Below wd.heap.size wd w9) => entries_any _ n c l w9 (by omega) (HQ.out.below h9))
  have K2 := Lib.hid (fun A9 c9 w9 (h9 : Ens w9 A9 n c9 l) => add_at A9 n c9 l S m k v t p N M f w9 (by omega) (by omega) h9 HAE.out HAL.out HAN.out)
  have HV : Hid (Below wd.heap.size wd wd.drew) := Lib.hid (Below.refl _ _).drew
  have dlt := XD.out.lt
  clear x0 x1 x2 x3 x4 x5 xlt hi
  go_region_held3 (fun w9 => Below wd.heap.size wd w9 ∧ w9.cell? ⟨w.heap.size, 0, none⟩ = some (.string S) ∧ w9.cell? ⟨w.heap.size, 1, none⟩ = some (.bool m) ∧ w9.cell? ⟨w.heap.size, 2, none⟩ = some (.int .i64 k) ∧ w9.cell? ⟨w.heap.size, 3, none⟩ = some (.int .i64 v) ∧ w9.cell? ⟨w.heap.size, 4, none⟩ = some (.int .i64 t) ∧ w9.cell? ⟨w.heap.size, 5, none⟩ = some (.int .i64 p)) (first | assumption | exact sixB XD.out HV.out)
    (first
      | (go_at_call 12; (with_reducible refine (K1.out _ HV.out).mono ?_); rintro e we ⟨Ae, ce, rfl, hoe⟩; have HV := Lib.hid (below_then HV.out hoe.below); have He := Lib.hid hoe.ens; clear hoe)
      | (go_at_call 15; refine (entry_is _ _ _ _ _ _ _).mono ?_; rintro e wf ⟨rfl, hbf⟩; have HV := Lib.hid (below_then HV.out hbf); have Hf := Lib.hid (He.out.below hbf); clear hbf)
      | (go_at_call 14; (with_reducible refine (K2.out _ _ _ Hf.out).mono ?_); rintro e wg ⟨Ag, cg, rfl, hg, hbg⟩; have HV := Lib.hid (below_then HV.out hbg); have Hg := Lib.hid hg; clear hg hbg))
  clear K1 K2
  have HBg := Lib.hid (below_then HBd.out HV.out)
  have HPg := Lib.hid (HPd.out.below HV.out)
  go_upto_region 8 with (first
    | (go_at_call 17; refine (code_at Ag N cg M (q : Int) 1 [(v', 0)] true _ HMS.out Hg.out HD1.out HD2.out rfl).mono ?_; rintro e wh ⟨Ah, ch, rfl, hh, hbh⟩; have HBh := Lib.hid (below_then HBg.out hbh); have HPh := Lib.hid hh; have HPj := Lib.hid (HPg.out.below hbh); have Q8 := Lib.hid (QQ.out.keep (below_then HBg.out hbh)); clear hh hbh; have q0 := Q8.out.c0; have q1 := Q8.out.c1; have q2 := Q8.out.c2; have q3 := Q8.out.c3; have q4 := Q8.out.c4; have q5 := Q8.out.c5; have qlt := Q8.out.lt))
  go_upto_region 10 with (first
    | (go_at_call 23; refine (code_any Ad Ah 1 cd 1 ch [(v', 0)] [(v', 0)] true _ (by decide) (by decide) HPj.out HPh.out (by simp)).mono ?_; rintro e wi ⟨rfl, hbi⟩; have HBi := Lib.hid (below_then HBh.out hbi); have HPi := Lib.hid (HPj.out.below hbi); have Qi := Lib.hid (Q8.out.keep hbi); clear hbi q0 q1 q2 q3 q4 q5 qlt; have q0 := Qi.out.c0; have q1 := Qi.out.c1; have q2 := Qi.out.c2; have q3 := Qi.out.c3; have q4 := Qi.out.c4; have q5 := Qi.out.c5; have qlt := Qi.out.lt)
    | (go_at_call 15; refine (entry_is _ _ _ _ _ _ _).mono ?_; rintro e wj ⟨rfl, hbj⟩; have HBj := Lib.hid (below_then HBi.out hbj); have HPk := Lib.hid (HPi.out.below hbj); have Qj := Lib.hid (Qi.out.keep hbj); clear hbj)
    | (go_at_call 26; refine (sane_is S' m' 0 v' t' p' true (by omega) HSN.out _).mono ?_; rintro e wk ⟨rfl, hbk⟩; have HBk := Lib.hid (below_then HBj.out hbk); have HPl := Lib.hid (HPk.out.below hbk); have Qk := Lib.hid (Qj.out.keep hbk); clear hbk q0 q1 q2 q3 q4 q5 qlt; have q0 := Qk.out.c0; have q1 := Qk.out.c1; have q2 := Qk.out.c2; have q3 := Qk.out.c3; have q4 := Qk.out.c4; have q5 := Qk.out.c5; have qlt := Qk.out.lt))
  obtain ⟨cb, co, hAd, hcl, cc0, cc1⟩ := HPl.out.at_ 0 (by decide)
  subst hAd
  simp only [Nat.zero_mul, Nat.add_zero, List.getD_cons_zero] at cc0 cc1
  go_upto_region 15 with (first
    | (go_at_call 19; refine (at_is 0 t2 p2 b2 (by omega) HO1.out HO2.out HO3.out _).mono ?_; rintro e wm ⟨rfl, hbm⟩; have hbn := below_then (below_one wk (.cells #[.int .i64 v', .int .i64 0] 58)) hbm; have HBm := Lib.hid (below_then HBk.out hbn); have Qm := Lib.hid (Qk.out.keep hbn); have Pm := Lib.hid ((Pa.new wk 58 v' 0 _ rfl).keep hbm); have Rm := Lib.hid (HPl.out.below hbn); clear hbm hbn q0 q1 q2 q3 q4 q5 qlt; have q0 := Qm.out.c0; have q1 := Qm.out.c1; have q2 := Qm.out.c2; have q3 := Qm.out.c3; have q4 := Qm.out.c4; have q5 := Qm.out.c5; have qlt := Qm.out.lt))
  have PN := Lib.hid (Pa.new wm 24 t2 p2 _ rfl)
  have PL := Lib.hid (Pm.out.keep (below_one wm (.cells #[.int .i64 t2, .int .i64 p2] 24)))
  have QN := Lib.hid (Qm.out.keep (below_one wm (.cells #[.int .i64 t2, .int .i64 p2] 24)))
  have HN := Lib.hid (below_then HBm.out (below_one wm (.cells #[.int .i64 t2, .int .i64 p2] 24)))
  clear cc0 cc1 hcl q0 q1 q2 q3 q4 q5 qlt
  generalize wm.alloc (.cells #[.int .i64 t2, .int .i64 p2] 24) = wn at *
  have n0 := PN.out.2.1
  have n1 := PN.out.2.2
  have n2 := PL.out.2.1
  have n3 := PL.out.2.2
  have nl := PN.out.1
  have nl2 := PL.out.1
  have q0 := QN.out.c0
  have q1 := QN.out.c1
  have q2 := QN.out.c2
  have q3 := QN.out.c3
  have q4 := QN.out.c4
  have q5 := QN.out.c5
  have qlt := QN.out.lt
  go_quiet (fail)
  go_wp2
  go_ret
  exact ⟨rfl, below_drewN HN.out _⟩

set_option maxHeartbeats 4000000 in
set_option maxRecDepth 4000 in
theorem codes_k1 (xb xo : Nat) (n c : Nat) (l : List En) (S : ByteArray) (m : Bool) (k v t p : Int) (i : Int) (f : Int) (N q : Nat) (M : List En) (S' : ByteArray) (m' : Bool) (v' t' p' : Int) (y : Int) (HO1 : Hid (dOk y = true)) (HO2 : Hid (dT y = t')) (HO3 : Hid (dQ y = p')) (hbb : y ≤ 9223372036854775807) (w : World) (hz : n ≤ 9223372036854775807) (h : Ens w (some ⟨xb, xo, none⟩) n c l) (hf : fewB l = true) (hs : S.size ≤ 100) (hn : n ≤ 600) (hq : q < n) (hs' : S'.size ≤ 100)
    (HAE : Hid (adE l ⟨S, m, k, v, t, p⟩ = f)) (HAL : Hid (adL l ⟨S, m, k, v, t, p⟩ = M)) (HAN : Hid (M.length = N)) (HLS : Hid (∀ e ∈ l, e.s.size ≤ 2000)) (HMS : Hid (∀ e ∈ M, e.s.size ≤ 2000)) 
    (HSN : Hid (saneB ⟨S', m', 1, v', t', p'⟩ = true)) (hi : (bits .and .i64 i 65535).tmod (n : Int) = (q : Int)) (hx : Six w xb (xo + q * 6) ⟨S', m', 1, v', t', p'⟩)
    (HC1 : Hid (dCb l (q : Int) = true)) (HC2 : Hid (dC l (q : Int) = [(3, y)])) (HD1 : Hid (dCb M (q : Int) = true)) (HD2 : Hid (dC M (q : Int) = [(3, y)])) :
    Calls Try.prog 7 #[.slice (some ⟨xb, xo, none⟩) n c, .agg #[.string S, .bool m, .int .i64 k, .int .i64 v, .int .i64 t, .int .i64 p], .int .i64 i] w fun e w' => e = .returned (.bool true) ∧ Below w.heap.size w w' := by
  have HZ := Lib.hid hz
  have H := Lib.hid h
  have HF := Lib.hid hf
  have X0 := Lib.hid (Ev.new w 26 ⟨S, m, k, v, t, p⟩)
  have HB0 := Lib.hid (below_one w (.cells #[.string S, .bool m, .int .i64 k, .int .i64 v, .int .i64 t, .int .i64 p] 26))
  clear hz h hf
  have hn2 : ((n : Int) == 0) = false := by simp; omega
  have hs2 : decide ((100 : Int) < (S.size : Int)) = false := by simp; omega
  have hqn : (q : Int) < (n : Int) := by omega
  have QQ := Lib.hid hx
  go_enter Try.func7, Try.ntmps7
  go_upto_region 6 with (first
    | (go_at_call 9; refine (awake_any _).mono ?_; rintro e w1 ⟨rfl, hb1⟩; have HB1 := Lib.hid (below_then HB0.out hb1); have X1 := Lib.hid (X0.out.keep hb1); have H1 := Lib.hid (H.out.below (below_then HB0.out hb1)); clear hb1; have x0 := X1.out.c0; have x1 := X1.out.c1; have x2 := X1.out.c2; have x3 := X1.out.c3; have x4 := X1.out.c4; have x5 := X1.out.c5; have xlt := X1.out.lt)
    | (go_at_call 10; refine (few_any _ _ _ l _ _ HZ.out H1.out HF.out).mono ?_; rintro e w2 ⟨rfl, rfl⟩)
    | (go_at_call 12; refine (entries_any _ n c l _ (by omega) H1.out).mono ?_; rintro e wa ⟨Aa, ca, rfl, hoa⟩; have HBa := Lib.hid (below_then HB1.out hoa.below); have Ha := Lib.hid hoa.ens; have XA := Lib.hid (X1.out.keep hoa.below); clear hoa)
    | (go_at_call 17; refine (code_at Aa n ca l (q : Int) 1 [(3, y)] true _ HLS.out Ha.out HC1.out HC2.out rfl).mono ?_; rintro e wd ⟨Ad, cd, rfl, hd, hbd⟩; have HBd := Lib.hid (below_then HBa.out hbd); have HPd := Lib.hid hd; have XD := Lib.hid (XA.out.keep hbd); have HQ := Lib.hid (H.out.below (below_then HBa.out hbd)); clear hd hbd))
  have K1 := Lib.hid (fun w9 (h9 : Below wd.heap.size wd w9) => entries_any _ n c l w9 (by omega) (HQ.out.below h9))
  have K2 := Lib.hid (fun A9 c9 w9 (h9 : Ens w9 A9 n c9 l) => add_at A9 n c9 l S m k v t p N M f w9 (by omega) (by omega) h9 HAE.out HAL.out HAN.out)
  have HV : Hid (Below wd.heap.size wd wd.drew) := Lib.hid (Below.refl _ _).drew
  have dlt := XD.out.lt
  clear x0 x1 x2 x3 x4 x5 xlt hi
  go_region_held3 (fun w9 => Below wd.heap.size wd w9 ∧ w9.cell? ⟨w.heap.size, 0, none⟩ = some (.string S) ∧ w9.cell? ⟨w.heap.size, 1, none⟩ = some (.bool m) ∧ w9.cell? ⟨w.heap.size, 2, none⟩ = some (.int .i64 k) ∧ w9.cell? ⟨w.heap.size, 3, none⟩ = some (.int .i64 v) ∧ w9.cell? ⟨w.heap.size, 4, none⟩ = some (.int .i64 t) ∧ w9.cell? ⟨w.heap.size, 5, none⟩ = some (.int .i64 p)) (first | assumption | exact sixB XD.out HV.out)
    (first
      | (go_at_call 12; (with_reducible refine (K1.out _ HV.out).mono ?_); rintro e we ⟨Ae, ce, rfl, hoe⟩; have HV := Lib.hid (below_then HV.out hoe.below); have He := Lib.hid hoe.ens; clear hoe)
      | (go_at_call 15; refine (entry_is _ _ _ _ _ _ _).mono ?_; rintro e wf ⟨rfl, hbf⟩; have HV := Lib.hid (below_then HV.out hbf); have Hf := Lib.hid (He.out.below hbf); clear hbf)
      | (go_at_call 14; (with_reducible refine (K2.out _ _ _ Hf.out).mono ?_); rintro e wg ⟨Ag, cg, rfl, hg, hbg⟩; have HV := Lib.hid (below_then HV.out hbg); have Hg := Lib.hid hg; clear hg hbg))
  clear K1 K2
  have HBg := Lib.hid (below_then HBd.out HV.out)
  have HPg := Lib.hid (HPd.out.below HV.out)
  go_upto_region 8 with (first
    | (go_at_call 17; refine (code_at Ag N cg M (q : Int) 1 [(3, y)] true _ HMS.out Hg.out HD1.out HD2.out rfl).mono ?_; rintro e wh ⟨Ah, ch, rfl, hh, hbh⟩; have HBh := Lib.hid (below_then HBg.out hbh); have HPh := Lib.hid hh; have HPj := Lib.hid (HPg.out.below hbh); have Q8 := Lib.hid (QQ.out.keep (below_then HBg.out hbh)); clear hh hbh; have q0 := Q8.out.c0; have q1 := Q8.out.c1; have q2 := Q8.out.c2; have q3 := Q8.out.c3; have q4 := Q8.out.c4; have q5 := Q8.out.c5; have qlt := Q8.out.lt))
  go_upto_region 10 with (first
    | (go_at_call 23; refine (code_any Ad Ah 1 cd 1 ch [(3, y)] [(3, y)] true _ (by decide) (by decide) HPj.out HPh.out (by simp)).mono ?_; rintro e wi ⟨rfl, hbi⟩; have HBi := Lib.hid (below_then HBh.out hbi); have HPi := Lib.hid (HPj.out.below hbi); have Qi := Lib.hid (Q8.out.keep hbi); clear hbi q0 q1 q2 q3 q4 q5 qlt; have q0 := Qi.out.c0; have q1 := Qi.out.c1; have q2 := Qi.out.c2; have q3 := Qi.out.c3; have q4 := Qi.out.c4; have q5 := Qi.out.c5; have qlt := Qi.out.lt)
    | (go_at_call 15; refine (entry_is _ _ _ _ _ _ _).mono ?_; rintro e wj ⟨rfl, hbj⟩; have HBj := Lib.hid (below_then HBi.out hbj); have HPk := Lib.hid (HPi.out.below hbj); have Qj := Lib.hid (Qi.out.keep hbj); clear hbj)
    | (go_at_call 26; refine (sane_is S' m' 1 v' t' p' true (by omega) HSN.out _).mono ?_; rintro e wk ⟨rfl, hbk⟩; have HBk := Lib.hid (below_then HBj.out hbk); have HPl := Lib.hid (HPk.out.below hbk); have Qk := Lib.hid (Qj.out.keep hbk); clear hbk q0 q1 q2 q3 q4 q5 qlt; have q0 := Qk.out.c0; have q1 := Qk.out.c1; have q2 := Qk.out.c2; have q3 := Qk.out.c3; have q4 := Qk.out.c4; have q5 := Qk.out.c5; have qlt := Qk.out.lt))
  have qpp : ∀ W : World, (binOp .eql 24 (.agg #[.int .i64 t', .int .i64 p']) (.agg #[.int .i64 t', .int .i64 p'])).run Try.prog W = .ok (.bool true) W := fun W => by rw [eqPP]; simp
  obtain ⟨cb, co, hAd, hcl, cc0, cc1⟩ := HPl.out.at_ 0 (by decide)
  subst hAd
  simp only [Nat.zero_mul, Nat.add_zero, List.getD_cons_zero] at cc0 cc1
  go_upto_region 15 with (first
    | (go_at_call 19; refine (at_is y t' p' true (by omega) HO1.out HO2.out HO3.out _).mono ?_; rintro e wm ⟨rfl, hbm⟩; have hbn := below_then (below_one wk (.cells #[.int .i64 3, .int .i64 y] 58)) hbm; have HBm := Lib.hid (below_then HBk.out hbn); have Qm := Lib.hid (Qk.out.keep hbn); have Pm := Lib.hid ((Pa.new wk 58 3 y _ rfl).keep hbm); have Rm := Lib.hid (HPl.out.below hbn); clear hbm hbn q0 q1 q2 q3 q4 q5 qlt; have q0 := Qm.out.c0; have q1 := Qm.out.c1; have q2 := Qm.out.c2; have q3 := Qm.out.c3; have q4 := Qm.out.c4; have q5 := Qm.out.c5; have qlt := Qm.out.lt))
  have PN := Lib.hid (Pa.new wm 24 t' p' _ rfl)
  have PL := Lib.hid (Pm.out.keep (below_one wm (.cells #[.int .i64 t', .int .i64 p'] 24)))
  have QN := Lib.hid (Qm.out.keep (below_one wm (.cells #[.int .i64 t', .int .i64 p'] 24)))
  have HN := Lib.hid (below_then HBm.out (below_one wm (.cells #[.int .i64 t', .int .i64 p'] 24)))
  clear cc0 cc1 hcl q0 q1 q2 q3 q4 q5 qlt
  generalize wm.alloc (.cells #[.int .i64 t', .int .i64 p'] 24) = wn at *
  have n0 := PN.out.2.1
  have n1 := PN.out.2.2
  have n2 := PL.out.2.1
  have n3 := PL.out.2.2
  have nl := PN.out.1
  have nl2 := PL.out.1
  have q0 := QN.out.c0
  have q1 := QN.out.c1
  have q2 := QN.out.c2
  have q3 := QN.out.c3
  have q4 := QN.out.c4
  have q5 := QN.out.c5
  have qlt := QN.out.lt
  go_quiet (fail)
  go_wp2
  go_ret
  exact ⟨rfl, below_drewN HN.out _⟩

set_option maxHeartbeats 4000000 in
set_option maxRecDepth 4000 in
theorem codes_k2 (xb xo : Nat) (n c : Nat) (l : List En) (S : ByteArray) (m : Bool) (k v t p : Int) (i : Int) (f : Int) (N q : Nat) (M : List En) (S' : ByteArray) (m' : Bool) (v' t' p' : Int) (t2 p2 : Int) (b2 : Bool) (HO1 : Hid (dOk v' = b2)) (HO2 : Hid (dT v' = t2)) (HO3 : Hid (dQ v' = p2)) (hbb : v' ≤ 9223372036854775807) (w : World) (hz : n ≤ 9223372036854775807) (h : Ens w (some ⟨xb, xo, none⟩) n c l) (hf : fewB l = true) (hs : S.size ≤ 100) (hn : n ≤ 600) (hq : q < n) (hs' : S'.size ≤ 100)
    (HAE : Hid (adE l ⟨S, m, k, v, t, p⟩ = f)) (HAL : Hid (adL l ⟨S, m, k, v, t, p⟩ = M)) (HAN : Hid (M.length = N)) (HLS : Hid (∀ e ∈ l, e.s.size ≤ 2000)) (HMS : Hid (∀ e ∈ M, e.s.size ≤ 2000)) 
    (HSN : Hid (saneB ⟨S', m', 2, v', t', p'⟩ = true)) (hi : (bits .and .i64 i 65535).tmod (n : Int) = (q : Int)) (hx : Six w xb (xo + q * 6) ⟨S', m', 2, v', t', p'⟩)
    (HC1 : Hid (dCb l (q : Int) = true)) (HC2 : Hid (dC l (q : Int) = [(0, v')])) (HD1 : Hid (dCb M (q : Int) = true)) (HD2 : Hid (dC M (q : Int) = [(0, v')])) :
    Calls Try.prog 7 #[.slice (some ⟨xb, xo, none⟩) n c, .agg #[.string S, .bool m, .int .i64 k, .int .i64 v, .int .i64 t, .int .i64 p], .int .i64 i] w fun e w' => e = .returned (.bool true) ∧ Below w.heap.size w w' := by
  have HZ := Lib.hid hz
  have H := Lib.hid h
  have HF := Lib.hid hf
  have X0 := Lib.hid (Ev.new w 26 ⟨S, m, k, v, t, p⟩)
  have HB0 := Lib.hid (below_one w (.cells #[.string S, .bool m, .int .i64 k, .int .i64 v, .int .i64 t, .int .i64 p] 26))
  clear hz h hf
  have hn2 : ((n : Int) == 0) = false := by simp; omega
  have hs2 : decide ((100 : Int) < (S.size : Int)) = false := by simp; omega
  have hqn : (q : Int) < (n : Int) := by omega
  have QQ := Lib.hid hx
  go_enter Try.func7, Try.ntmps7
  go_upto_region 6 with (first
    | (go_at_call 9; refine (awake_any _).mono ?_; rintro e w1 ⟨rfl, hb1⟩; have HB1 := Lib.hid (below_then HB0.out hb1); have X1 := Lib.hid (X0.out.keep hb1); have H1 := Lib.hid (H.out.below (below_then HB0.out hb1)); clear hb1; have x0 := X1.out.c0; have x1 := X1.out.c1; have x2 := X1.out.c2; have x3 := X1.out.c3; have x4 := X1.out.c4; have x5 := X1.out.c5; have xlt := X1.out.lt)
    | (go_at_call 10; refine (few_any _ _ _ l _ _ HZ.out H1.out HF.out).mono ?_; rintro e w2 ⟨rfl, rfl⟩)
    | (go_at_call 12; refine (entries_any _ n c l _ (by omega) H1.out).mono ?_; rintro e wa ⟨Aa, ca, rfl, hoa⟩; have HBa := Lib.hid (below_then HB1.out hoa.below); have Ha := Lib.hid hoa.ens; have XA := Lib.hid (X1.out.keep hoa.below); clear hoa)
    | (go_at_call 17; refine (code_at Aa n ca l (q : Int) 1 [(0, v')] true _ HLS.out Ha.out HC1.out HC2.out rfl).mono ?_; rintro e wd ⟨Ad, cd, rfl, hd, hbd⟩; have HBd := Lib.hid (below_then HBa.out hbd); have HPd := Lib.hid hd; have XD := Lib.hid (XA.out.keep hbd); have HQ := Lib.hid (H.out.below (below_then HBa.out hbd)); clear hd hbd))
  have K1 := Lib.hid (fun w9 (h9 : Below wd.heap.size wd w9) => entries_any _ n c l w9 (by omega) (HQ.out.below h9))
  have K2 := Lib.hid (fun A9 c9 w9 (h9 : Ens w9 A9 n c9 l) => add_at A9 n c9 l S m k v t p N M f w9 (by omega) (by omega) h9 HAE.out HAL.out HAN.out)
  have HV : Hid (Below wd.heap.size wd wd.drew) := Lib.hid (Below.refl _ _).drew
  have dlt := XD.out.lt
  clear x0 x1 x2 x3 x4 x5 xlt hi
  go_region_held3 (fun w9 => Below wd.heap.size wd w9 ∧ w9.cell? ⟨w.heap.size, 0, none⟩ = some (.string S) ∧ w9.cell? ⟨w.heap.size, 1, none⟩ = some (.bool m) ∧ w9.cell? ⟨w.heap.size, 2, none⟩ = some (.int .i64 k) ∧ w9.cell? ⟨w.heap.size, 3, none⟩ = some (.int .i64 v) ∧ w9.cell? ⟨w.heap.size, 4, none⟩ = some (.int .i64 t) ∧ w9.cell? ⟨w.heap.size, 5, none⟩ = some (.int .i64 p)) (first | assumption | exact sixB XD.out HV.out)
    (first
      | (go_at_call 12; (with_reducible refine (K1.out _ HV.out).mono ?_); rintro e we ⟨Ae, ce, rfl, hoe⟩; have HV := Lib.hid (below_then HV.out hoe.below); have He := Lib.hid hoe.ens; clear hoe)
      | (go_at_call 15; refine (entry_is _ _ _ _ _ _ _).mono ?_; rintro e wf ⟨rfl, hbf⟩; have HV := Lib.hid (below_then HV.out hbf); have Hf := Lib.hid (He.out.below hbf); clear hbf)
      | (go_at_call 14; (with_reducible refine (K2.out _ _ _ Hf.out).mono ?_); rintro e wg ⟨Ag, cg, rfl, hg, hbg⟩; have HV := Lib.hid (below_then HV.out hbg); have Hg := Lib.hid hg; clear hg hbg))
  clear K1 K2
  have HBg := Lib.hid (below_then HBd.out HV.out)
  have HPg := Lib.hid (HPd.out.below HV.out)
  go_upto_region 8 with (first
    | (go_at_call 17; refine (code_at Ag N cg M (q : Int) 1 [(0, v')] true _ HMS.out Hg.out HD1.out HD2.out rfl).mono ?_; rintro e wh ⟨Ah, ch, rfl, hh, hbh⟩; have HBh := Lib.hid (below_then HBg.out hbh); have HPh := Lib.hid hh; have HPj := Lib.hid (HPg.out.below hbh); have Q8 := Lib.hid (QQ.out.keep (below_then HBg.out hbh)); clear hh hbh; have q0 := Q8.out.c0; have q1 := Q8.out.c1; have q2 := Q8.out.c2; have q3 := Q8.out.c3; have q4 := Q8.out.c4; have q5 := Q8.out.c5; have qlt := Q8.out.lt))
  go_upto_region 10 with (first
    | (go_at_call 23; refine (code_any Ad Ah 1 cd 1 ch [(0, v')] [(0, v')] true _ (by decide) (by decide) HPj.out HPh.out (by simp)).mono ?_; rintro e wi ⟨rfl, hbi⟩; have HBi := Lib.hid (below_then HBh.out hbi); have HPi := Lib.hid (HPj.out.below hbi); have Qi := Lib.hid (Q8.out.keep hbi); clear hbi q0 q1 q2 q3 q4 q5 qlt; have q0 := Qi.out.c0; have q1 := Qi.out.c1; have q2 := Qi.out.c2; have q3 := Qi.out.c3; have q4 := Qi.out.c4; have q5 := Qi.out.c5; have qlt := Qi.out.lt)
    | (go_at_call 15; refine (entry_is _ _ _ _ _ _ _).mono ?_; rintro e wj ⟨rfl, hbj⟩; have HBj := Lib.hid (below_then HBi.out hbj); have HPk := Lib.hid (HPi.out.below hbj); have Qj := Lib.hid (Qi.out.keep hbj); clear hbj)
    | (go_at_call 26; refine (sane_is S' m' 2 v' t' p' true (by omega) HSN.out _).mono ?_; rintro e wk ⟨rfl, hbk⟩; have HBk := Lib.hid (below_then HBj.out hbk); have HPl := Lib.hid (HPk.out.below hbk); have Qk := Lib.hid (Qj.out.keep hbk); clear hbk q0 q1 q2 q3 q4 q5 qlt; have q0 := Qk.out.c0; have q1 := Qk.out.c1; have q2 := Qk.out.c2; have q3 := Qk.out.c3; have q4 := Qk.out.c4; have q5 := Qk.out.c5; have qlt := Qk.out.lt))
  obtain ⟨cb, co, hAd, hcl, cc0, cc1⟩ := HPl.out.at_ 0 (by decide)
  subst hAd
  simp only [Nat.zero_mul, Nat.add_zero, List.getD_cons_zero] at cc0 cc1
  go_upto_region 15 with (first
    | (go_at_call 19; refine (at_is v' t2 p2 b2 (by omega) HO1.out HO2.out HO3.out _).mono ?_; rintro e wm ⟨rfl, hbm⟩; have hbn := below_then (below_one wk (.cells #[.int .i64 0, .int .i64 v'] 58)) hbm; have HBm := Lib.hid (below_then HBk.out hbn); have Qm := Lib.hid (Qk.out.keep hbn); have Pm := Lib.hid ((Pa.new wk 58 0 v' _ rfl).keep hbm); have Rm := Lib.hid (HPl.out.below hbn); clear hbm hbn q0 q1 q2 q3 q4 q5 qlt; have q0 := Qm.out.c0; have q1 := Qm.out.c1; have q2 := Qm.out.c2; have q3 := Qm.out.c3; have q4 := Qm.out.c4; have q5 := Qm.out.c5; have qlt := Qm.out.lt))
  have PN := Lib.hid (Pa.new wm 24 t2 p2 _ rfl)
  have PL := Lib.hid (Pm.out.keep (below_one wm (.cells #[.int .i64 t2, .int .i64 p2] 24)))
  have QN := Lib.hid (Qm.out.keep (below_one wm (.cells #[.int .i64 t2, .int .i64 p2] 24)))
  have HN := Lib.hid (below_then HBm.out (below_one wm (.cells #[.int .i64 t2, .int .i64 p2] 24)))
  clear cc0 cc1 hcl q0 q1 q2 q3 q4 q5 qlt
  generalize wm.alloc (.cells #[.int .i64 t2, .int .i64 p2] 24) = wn at *
  have n0 := PN.out.2.1
  have n1 := PN.out.2.2
  have n2 := PL.out.2.1
  have n3 := PL.out.2.2
  have nl := PN.out.1
  have nl2 := PL.out.1
  have q0 := QN.out.c0
  have q1 := QN.out.c1
  have q2 := QN.out.c2
  have q3 := QN.out.c3
  have q4 := QN.out.c4
  have q5 := QN.out.c5
  have qlt := QN.out.lt
  go_quiet (fail)
  go_wp2
  go_ret
  exact ⟨rfl, below_drewN HN.out _⟩

set_option maxHeartbeats 4000000 in
set_option maxRecDepth 4000 in
theorem codes_k3 (xb xo : Nat) (n c : Nat) (l : List En) (S : ByteArray) (m : Bool) (k v t p : Int) (i : Int) (f : Int) (N q : Nat) (M : List En) (S' : ByteArray) (m' : Bool) (v' t' p' : Int) (t2 p2 : Int) (b2 : Bool) (HO1 : Hid (dOk v' = b2)) (HO2 : Hid (dT v' = t2)) (HO3 : Hid (dQ v' = p2)) (hbb : v' ≤ 9223372036854775807) (w : World) (hz : n ≤ 9223372036854775807) (h : Ens w (some ⟨xb, xo, none⟩) n c l) (hf : fewB l = true) (hs : S.size ≤ 100) (hn : n ≤ 600) (hq : q < n) (hs' : S'.size ≤ 100)
    (HAE : Hid (adE l ⟨S, m, k, v, t, p⟩ = f)) (HAL : Hid (adL l ⟨S, m, k, v, t, p⟩ = M)) (HAN : Hid (M.length = N)) (HLS : Hid (∀ e ∈ l, e.s.size ≤ 2000)) (HMS : Hid (∀ e ∈ M, e.s.size ≤ 2000)) 
    (HSN : Hid (saneB ⟨S', m', 3, v', t', p'⟩ = true)) (hi : (bits .and .i64 i 65535).tmod (n : Int) = (q : Int)) (hx : Six w xb (xo + q * 6) ⟨S', m', 3, v', t', p'⟩)
    (HC1 : Hid (dCb l (q : Int) = true)) (HC2 : Hid (dC l (q : Int) = [(0, v')])) (HD1 : Hid (dCb M (q : Int) = true)) (HD2 : Hid (dC M (q : Int) = [(0, v')])) :
    Calls Try.prog 7 #[.slice (some ⟨xb, xo, none⟩) n c, .agg #[.string S, .bool m, .int .i64 k, .int .i64 v, .int .i64 t, .int .i64 p], .int .i64 i] w fun e w' => e = .returned (.bool true) ∧ Below w.heap.size w w' := by
  have HZ := Lib.hid hz
  have H := Lib.hid h
  have HF := Lib.hid hf
  have X0 := Lib.hid (Ev.new w 26 ⟨S, m, k, v, t, p⟩)
  have HB0 := Lib.hid (below_one w (.cells #[.string S, .bool m, .int .i64 k, .int .i64 v, .int .i64 t, .int .i64 p] 26))
  clear hz h hf
  have hn2 : ((n : Int) == 0) = false := by simp; omega
  have hs2 : decide ((100 : Int) < (S.size : Int)) = false := by simp; omega
  have hqn : (q : Int) < (n : Int) := by omega
  have QQ := Lib.hid hx
  go_enter Try.func7, Try.ntmps7
  go_upto_region 6 with (first
    | (go_at_call 9; refine (awake_any _).mono ?_; rintro e w1 ⟨rfl, hb1⟩; have HB1 := Lib.hid (below_then HB0.out hb1); have X1 := Lib.hid (X0.out.keep hb1); have H1 := Lib.hid (H.out.below (below_then HB0.out hb1)); clear hb1; have x0 := X1.out.c0; have x1 := X1.out.c1; have x2 := X1.out.c2; have x3 := X1.out.c3; have x4 := X1.out.c4; have x5 := X1.out.c5; have xlt := X1.out.lt)
    | (go_at_call 10; refine (few_any _ _ _ l _ _ HZ.out H1.out HF.out).mono ?_; rintro e w2 ⟨rfl, rfl⟩)
    | (go_at_call 12; refine (entries_any _ n c l _ (by omega) H1.out).mono ?_; rintro e wa ⟨Aa, ca, rfl, hoa⟩; have HBa := Lib.hid (below_then HB1.out hoa.below); have Ha := Lib.hid hoa.ens; have XA := Lib.hid (X1.out.keep hoa.below); clear hoa)
    | (go_at_call 17; refine (code_at Aa n ca l (q : Int) 1 [(0, v')] true _ HLS.out Ha.out HC1.out HC2.out rfl).mono ?_; rintro e wd ⟨Ad, cd, rfl, hd, hbd⟩; have HBd := Lib.hid (below_then HBa.out hbd); have HPd := Lib.hid hd; have XD := Lib.hid (XA.out.keep hbd); have HQ := Lib.hid (H.out.below (below_then HBa.out hbd)); clear hd hbd))
  have K1 := Lib.hid (fun w9 (h9 : Below wd.heap.size wd w9) => entries_any _ n c l w9 (by omega) (HQ.out.below h9))
  have K2 := Lib.hid (fun A9 c9 w9 (h9 : Ens w9 A9 n c9 l) => add_at A9 n c9 l S m k v t p N M f w9 (by omega) (by omega) h9 HAE.out HAL.out HAN.out)
  have HV : Hid (Below wd.heap.size wd wd.drew) := Lib.hid (Below.refl _ _).drew
  have dlt := XD.out.lt
  clear x0 x1 x2 x3 x4 x5 xlt hi
  go_region_held3 (fun w9 => Below wd.heap.size wd w9 ∧ w9.cell? ⟨w.heap.size, 0, none⟩ = some (.string S) ∧ w9.cell? ⟨w.heap.size, 1, none⟩ = some (.bool m) ∧ w9.cell? ⟨w.heap.size, 2, none⟩ = some (.int .i64 k) ∧ w9.cell? ⟨w.heap.size, 3, none⟩ = some (.int .i64 v) ∧ w9.cell? ⟨w.heap.size, 4, none⟩ = some (.int .i64 t) ∧ w9.cell? ⟨w.heap.size, 5, none⟩ = some (.int .i64 p)) (first | assumption | exact sixB XD.out HV.out)
    (first
      | (go_at_call 12; (with_reducible refine (K1.out _ HV.out).mono ?_); rintro e we ⟨Ae, ce, rfl, hoe⟩; have HV := Lib.hid (below_then HV.out hoe.below); have He := Lib.hid hoe.ens; clear hoe)
      | (go_at_call 15; refine (entry_is _ _ _ _ _ _ _).mono ?_; rintro e wf ⟨rfl, hbf⟩; have HV := Lib.hid (below_then HV.out hbf); have Hf := Lib.hid (He.out.below hbf); clear hbf)
      | (go_at_call 14; (with_reducible refine (K2.out _ _ _ Hf.out).mono ?_); rintro e wg ⟨Ag, cg, rfl, hg, hbg⟩; have HV := Lib.hid (below_then HV.out hbg); have Hg := Lib.hid hg; clear hg hbg))
  clear K1 K2
  have HBg := Lib.hid (below_then HBd.out HV.out)
  have HPg := Lib.hid (HPd.out.below HV.out)
  go_upto_region 8 with (first
    | (go_at_call 17; refine (code_at Ag N cg M (q : Int) 1 [(0, v')] true _ HMS.out Hg.out HD1.out HD2.out rfl).mono ?_; rintro e wh ⟨Ah, ch, rfl, hh, hbh⟩; have HBh := Lib.hid (below_then HBg.out hbh); have HPh := Lib.hid hh; have HPj := Lib.hid (HPg.out.below hbh); have Q8 := Lib.hid (QQ.out.keep (below_then HBg.out hbh)); clear hh hbh; have q0 := Q8.out.c0; have q1 := Q8.out.c1; have q2 := Q8.out.c2; have q3 := Q8.out.c3; have q4 := Q8.out.c4; have q5 := Q8.out.c5; have qlt := Q8.out.lt))
  go_upto_region 10 with (first
    | (go_at_call 23; refine (code_any Ad Ah 1 cd 1 ch [(0, v')] [(0, v')] true _ (by decide) (by decide) HPj.out HPh.out (by simp)).mono ?_; rintro e wi ⟨rfl, hbi⟩; have HBi := Lib.hid (below_then HBh.out hbi); have HPi := Lib.hid (HPj.out.below hbi); have Qi := Lib.hid (Q8.out.keep hbi); clear hbi q0 q1 q2 q3 q4 q5 qlt; have q0 := Qi.out.c0; have q1 := Qi.out.c1; have q2 := Qi.out.c2; have q3 := Qi.out.c3; have q4 := Qi.out.c4; have q5 := Qi.out.c5; have qlt := Qi.out.lt)
    | (go_at_call 15; refine (entry_is _ _ _ _ _ _ _).mono ?_; rintro e wj ⟨rfl, hbj⟩; have HBj := Lib.hid (below_then HBi.out hbj); have HPk := Lib.hid (HPi.out.below hbj); have Qj := Lib.hid (Qi.out.keep hbj); clear hbj)
    | (go_at_call 26; refine (sane_is S' m' 3 v' t' p' true (by omega) HSN.out _).mono ?_; rintro e wk ⟨rfl, hbk⟩; have HBk := Lib.hid (below_then HBj.out hbk); have HPl := Lib.hid (HPk.out.below hbk); have Qk := Lib.hid (Qj.out.keep hbk); clear hbk q0 q1 q2 q3 q4 q5 qlt; have q0 := Qk.out.c0; have q1 := Qk.out.c1; have q2 := Qk.out.c2; have q3 := Qk.out.c3; have q4 := Qk.out.c4; have q5 := Qk.out.c5; have qlt := Qk.out.lt))
  obtain ⟨cb, co, hAd, hcl, cc0, cc1⟩ := HPl.out.at_ 0 (by decide)
  subst hAd
  simp only [Nat.zero_mul, Nat.add_zero, List.getD_cons_zero] at cc0 cc1
  go_upto_region 15 with (first
    | (go_at_call 19; refine (at_is v' t2 p2 b2 (by omega) HO1.out HO2.out HO3.out _).mono ?_; rintro e wm ⟨rfl, hbm⟩; have hbn := below_then (below_one wk (.cells #[.int .i64 0, .int .i64 v'] 58)) hbm; have HBm := Lib.hid (below_then HBk.out hbn); have Qm := Lib.hid (Qk.out.keep hbn); have Pm := Lib.hid ((Pa.new wk 58 0 v' _ rfl).keep hbm); have Rm := Lib.hid (HPl.out.below hbn); clear hbm hbn q0 q1 q2 q3 q4 q5 qlt; have q0 := Qm.out.c0; have q1 := Qm.out.c1; have q2 := Qm.out.c2; have q3 := Qm.out.c3; have q4 := Qm.out.c4; have q5 := Qm.out.c5; have qlt := Qm.out.lt))
  have PN := Lib.hid (Pa.new wm 24 t2 p2 _ rfl)
  have PL := Lib.hid (Pm.out.keep (below_one wm (.cells #[.int .i64 t2, .int .i64 p2] 24)))
  have QN := Lib.hid (Qm.out.keep (below_one wm (.cells #[.int .i64 t2, .int .i64 p2] 24)))
  have HN := Lib.hid (below_then HBm.out (below_one wm (.cells #[.int .i64 t2, .int .i64 p2] 24)))
  clear cc0 cc1 hcl q0 q1 q2 q3 q4 q5 qlt
  generalize wm.alloc (.cells #[.int .i64 t2, .int .i64 p2] 24) = wn at *
  have n0 := PN.out.2.1
  have n1 := PN.out.2.2
  have n2 := PL.out.2.1
  have n3 := PL.out.2.2
  have nl := PN.out.1
  have nl2 := PL.out.1
  have q0 := QN.out.c0
  have q1 := QN.out.c1
  have q2 := QN.out.c2
  have q3 := QN.out.c3
  have q4 := QN.out.c4
  have q5 := QN.out.c5
  have qlt := QN.out.lt
  go_quiet (fail)
  go_wp2
  go_ret
  exact ⟨rfl, below_drewN HN.out _⟩

set_option maxHeartbeats 4000000 in
set_option maxRecDepth 4000 in
theorem codes_k4 (xb xo : Nat) (n c : Nat) (l : List En) (S : ByteArray) (m : Bool) (k v t p : Int) (i : Int) (f : Int) (N q : Nat) (M : List En) (S' : ByteArray) (m' : Bool) (v' t' p' : Int) (y : Int) (HO1 : Hid (dOk y = true)) (HO2 : Hid (dT y = t')) (HO3 : Hid (dQ y = p')) (hbb : y ≤ 9223372036854775807) (w : World) (hz : n ≤ 9223372036854775807) (h : Ens w (some ⟨xb, xo, none⟩) n c l) (hf : fewB l = true) (hs : S.size ≤ 100) (hn : n ≤ 600) (hq : q < n) (hs' : S'.size ≤ 100)
    (HAE : Hid (adE l ⟨S, m, k, v, t, p⟩ = f)) (HAL : Hid (adL l ⟨S, m, k, v, t, p⟩ = M)) (HAN : Hid (M.length = N)) (HLS : Hid (∀ e ∈ l, e.s.size ≤ 2000)) (HMS : Hid (∀ e ∈ M, e.s.size ≤ 2000)) 
    (HSN : Hid (saneB ⟨S', m', 4, v', t', p'⟩ = true)) (hi : (bits .and .i64 i 65535).tmod (n : Int) = (q : Int)) (hx : Six w xb (xo + q * 6) ⟨S', m', 4, v', t', p'⟩)
    (HC1 : Hid (dCb l (q : Int) = true)) (HC2 : Hid (dC l (q : Int) = [(0, v'), (3, y)])) (HD1 : Hid (dCb M (q : Int) = true)) (HD2 : Hid (dC M (q : Int) = [(0, v'), (3, y)])) :
    Calls Try.prog 7 #[.slice (some ⟨xb, xo, none⟩) n c, .agg #[.string S, .bool m, .int .i64 k, .int .i64 v, .int .i64 t, .int .i64 p], .int .i64 i] w fun e w' => e = .returned (.bool true) ∧ Below w.heap.size w w' := by
  have HZ := Lib.hid hz
  have H := Lib.hid h
  have HF := Lib.hid hf
  have X0 := Lib.hid (Ev.new w 26 ⟨S, m, k, v, t, p⟩)
  have HB0 := Lib.hid (below_one w (.cells #[.string S, .bool m, .int .i64 k, .int .i64 v, .int .i64 t, .int .i64 p] 26))
  clear hz h hf
  have hn2 : ((n : Int) == 0) = false := by simp; omega
  have hs2 : decide ((100 : Int) < (S.size : Int)) = false := by simp; omega
  have hqn : (q : Int) < (n : Int) := by omega
  have QQ := Lib.hid hx
  go_enter Try.func7, Try.ntmps7
  go_upto_region 6 with (first
    | (go_at_call 9; refine (awake_any _).mono ?_; rintro e w1 ⟨rfl, hb1⟩; have HB1 := Lib.hid (below_then HB0.out hb1); have X1 := Lib.hid (X0.out.keep hb1); have H1 := Lib.hid (H.out.below (below_then HB0.out hb1)); clear hb1; have x0 := X1.out.c0; have x1 := X1.out.c1; have x2 := X1.out.c2; have x3 := X1.out.c3; have x4 := X1.out.c4; have x5 := X1.out.c5; have xlt := X1.out.lt)
    | (go_at_call 10; refine (few_any _ _ _ l _ _ HZ.out H1.out HF.out).mono ?_; rintro e w2 ⟨rfl, rfl⟩)
    | (go_at_call 12; refine (entries_any _ n c l _ (by omega) H1.out).mono ?_; rintro e wa ⟨Aa, ca, rfl, hoa⟩; have HBa := Lib.hid (below_then HB1.out hoa.below); have Ha := Lib.hid hoa.ens; have XA := Lib.hid (X1.out.keep hoa.below); clear hoa)
    | (go_at_call 17; refine (code_at Aa n ca l (q : Int) 2 [(0, v'), (3, y)] true _ HLS.out Ha.out HC1.out HC2.out rfl).mono ?_; rintro e wd ⟨Ad, cd, rfl, hd, hbd⟩; have HBd := Lib.hid (below_then HBa.out hbd); have HPd := Lib.hid hd; have XD := Lib.hid (XA.out.keep hbd); have HQ := Lib.hid (H.out.below (below_then HBa.out hbd)); clear hd hbd))
  have K1 := Lib.hid (fun w9 (h9 : Below wd.heap.size wd w9) => entries_any _ n c l w9 (by omega) (HQ.out.below h9))
  have K2 := Lib.hid (fun A9 c9 w9 (h9 : Ens w9 A9 n c9 l) => add_at A9 n c9 l S m k v t p N M f w9 (by omega) (by omega) h9 HAE.out HAL.out HAN.out)
  have HV : Hid (Below wd.heap.size wd wd.drew) := Lib.hid (Below.refl _ _).drew
  have dlt := XD.out.lt
  clear x0 x1 x2 x3 x4 x5 xlt hi
  go_region_held3 (fun w9 => Below wd.heap.size wd w9 ∧ w9.cell? ⟨w.heap.size, 0, none⟩ = some (.string S) ∧ w9.cell? ⟨w.heap.size, 1, none⟩ = some (.bool m) ∧ w9.cell? ⟨w.heap.size, 2, none⟩ = some (.int .i64 k) ∧ w9.cell? ⟨w.heap.size, 3, none⟩ = some (.int .i64 v) ∧ w9.cell? ⟨w.heap.size, 4, none⟩ = some (.int .i64 t) ∧ w9.cell? ⟨w.heap.size, 5, none⟩ = some (.int .i64 p)) (first | assumption | exact sixB XD.out HV.out)
    (first
      | (go_at_call 12; (with_reducible refine (K1.out _ HV.out).mono ?_); rintro e we ⟨Ae, ce, rfl, hoe⟩; have HV := Lib.hid (below_then HV.out hoe.below); have He := Lib.hid hoe.ens; clear hoe)
      | (go_at_call 15; refine (entry_is _ _ _ _ _ _ _).mono ?_; rintro e wf ⟨rfl, hbf⟩; have HV := Lib.hid (below_then HV.out hbf); have Hf := Lib.hid (He.out.below hbf); clear hbf)
      | (go_at_call 14; (with_reducible refine (K2.out _ _ _ Hf.out).mono ?_); rintro e wg ⟨Ag, cg, rfl, hg, hbg⟩; have HV := Lib.hid (below_then HV.out hbg); have Hg := Lib.hid hg; clear hg hbg))
  clear K1 K2
  have HBg := Lib.hid (below_then HBd.out HV.out)
  have HPg := Lib.hid (HPd.out.below HV.out)
  go_upto_region 8 with (first
    | (go_at_call 17; refine (code_at Ag N cg M (q : Int) 2 [(0, v'), (3, y)] true _ HMS.out Hg.out HD1.out HD2.out rfl).mono ?_; rintro e wh ⟨Ah, ch, rfl, hh, hbh⟩; have HBh := Lib.hid (below_then HBg.out hbh); have HPh := Lib.hid hh; have HPj := Lib.hid (HPg.out.below hbh); have Q8 := Lib.hid (QQ.out.keep (below_then HBg.out hbh)); clear hh hbh; have q0 := Q8.out.c0; have q1 := Q8.out.c1; have q2 := Q8.out.c2; have q3 := Q8.out.c3; have q4 := Q8.out.c4; have q5 := Q8.out.c5; have qlt := Q8.out.lt))
  go_upto_region 10 with (first
    | (go_at_call 23; refine (code_any Ad Ah 2 cd 2 ch [(0, v'), (3, y)] [(0, v'), (3, y)] true _ (by decide) (by decide) HPj.out HPh.out (by simp)).mono ?_; rintro e wi ⟨rfl, hbi⟩; have HBi := Lib.hid (below_then HBh.out hbi); have HPi := Lib.hid (HPj.out.below hbi); have Qi := Lib.hid (Q8.out.keep hbi); clear hbi q0 q1 q2 q3 q4 q5 qlt; have q0 := Qi.out.c0; have q1 := Qi.out.c1; have q2 := Qi.out.c2; have q3 := Qi.out.c3; have q4 := Qi.out.c4; have q5 := Qi.out.c5; have qlt := Qi.out.lt)
    | (go_at_call 15; refine (entry_is _ _ _ _ _ _ _).mono ?_; rintro e wj ⟨rfl, hbj⟩; have HBj := Lib.hid (below_then HBi.out hbj); have HPk := Lib.hid (HPi.out.below hbj); have Qj := Lib.hid (Qi.out.keep hbj); clear hbj)
    | (go_at_call 26; refine (sane_is S' m' 4 v' t' p' true (by omega) HSN.out _).mono ?_; rintro e wk ⟨rfl, hbk⟩; have HBk := Lib.hid (below_then HBj.out hbk); have HPl := Lib.hid (HPk.out.below hbk); have Qk := Lib.hid (Qj.out.keep hbk); clear hbk q0 q1 q2 q3 q4 q5 qlt; have q0 := Qk.out.c0; have q1 := Qk.out.c1; have q2 := Qk.out.c2; have q3 := Qk.out.c3; have q4 := Qk.out.c4; have q5 := Qk.out.c5; have qlt := Qk.out.lt))
  have qpp : ∀ W : World, (binOp .eql 24 (.agg #[.int .i64 t', .int .i64 p']) (.agg #[.int .i64 t', .int .i64 p'])).run Try.prog W = .ok (.bool true) W := fun W => by rw [eqPP]; simp
  obtain ⟨cb, co, hAd, hcl, cc0, cc1⟩ := HPl.out.at_ 1 (by decide)
  subst hAd
  simp only [Nat.one_mul, List.getD_cons_succ, List.getD_cons_zero] at cc0 cc1
  go_upto_region 15 with (first
    | (go_at_call 19; refine (at_is y t' p' true (by omega) HO1.out HO2.out HO3.out _).mono ?_; rintro e wm ⟨rfl, hbm⟩; have hbn := below_then (below_one wk (.cells #[.int .i64 3, .int .i64 y] 58)) hbm; have HBm := Lib.hid (below_then HBk.out hbn); have Qm := Lib.hid (Qk.out.keep hbn); have Pm := Lib.hid ((Pa.new wk 58 3 y _ rfl).keep hbm); have Rm := Lib.hid (HPl.out.below hbn); clear hbm hbn q0 q1 q2 q3 q4 q5 qlt; have q0 := Qm.out.c0; have q1 := Qm.out.c1; have q2 := Qm.out.c2; have q3 := Qm.out.c3; have q4 := Qm.out.c4; have q5 := Qm.out.c5; have qlt := Qm.out.lt))
  have PN := Lib.hid (Pa.new wm 24 t' p' _ rfl)
  have PL := Lib.hid (Pm.out.keep (below_one wm (.cells #[.int .i64 t', .int .i64 p'] 24)))
  have QN := Lib.hid (Qm.out.keep (below_one wm (.cells #[.int .i64 t', .int .i64 p'] 24)))
  have HN := Lib.hid (below_then HBm.out (below_one wm (.cells #[.int .i64 t', .int .i64 p'] 24)))
  clear cc0 cc1 hcl q0 q1 q2 q3 q4 q5 qlt
  generalize wm.alloc (.cells #[.int .i64 t', .int .i64 p'] 24) = wn at *
  have n0 := PN.out.2.1
  have n1 := PN.out.2.2
  have n2 := PL.out.2.1
  have n3 := PL.out.2.2
  have nl := PN.out.1
  have nl2 := PL.out.1
  have q0 := QN.out.c0
  have q1 := QN.out.c1
  have q2 := QN.out.c2
  have q3 := QN.out.c3
  have q4 := QN.out.c4
  have q5 := QN.out.c5
  have qlt := QN.out.lt
  go_quiet (fail)
  go_wp2
  go_ret
  exact ⟨rfl, below_drewN HN.out _⟩

theorem land_mod (i : Int) (n : Nat) (hn : 0 < n) : ∃ q : Nat, q < n ∧ (bits .and .i64 i 65535).tmod (n : Int) = (q : Int) := by
  refine ⟨((i % 65536) % (n : Int)).toNat, ?_, ?_⟩
  · have h1 := Int.emod_nonneg (i % 65536) (show (n : Int) ≠ 0 by omega)
    have h2 := Int.emod_lt_of_pos (i % 65536) (show (0 : Int) < (n : Int) by omega)
    omega
  · rw [show bits .and .i64 i 65535 = i % 65536 from bits_and_low 16 (by decide) i, Int.tmod_eq_emod_of_nonneg (Int.emod_nonneg i (by decide)), Int.toNat_of_nonneg (Int.emod_nonneg _ (by omega))]
theorem codes_any (A : Option Addr) (n c : Nat) (l : List En) (S : ByteArray) (m : Bool) (k v t p : Int) (i : Int) (w : World) (hz : n ≤ 9223372036854775807) (h : Ens w A n c l) (hv : ∀ e ∈ l, e.v ≤ 9223372036854775807) :
    Calls Try.prog 7 #[.slice A n c, .agg #[.string S, .bool m, .int .i64 k, .int .i64 v, .int .i64 t, .int .i64 p], .int .i64 i] w fun e w' => e = .returned (.bool true) ∧ Below w.heap.size w w' := by
  cases hf : fewB l
  · exact codes_few A n c l S m k v t p i w hz h hf
  · by_cases hn0 : n = 0
    · exact codes_none A n c l S m k v t p i w hz h hf hn0
    · by_cases hs : 100 < S.size
      · exact codes_long A n c l S m k v t p i w hz h hf (by omega) hs
      · have hl := h.len
        have hn := few_len hf
        obtain ⟨q, hq, hi⟩ := land_mod i n (by omega)
        obtain ⟨xb, xo, rfl, hx⟩ := h.six q hq
        have hmem := getD_mem (l := l) (q := q) (by omega)
        have hsz := few_size hf _ hmem
        have hvv := hv _ hmem
        have hC := dCb_in (l := l) (q := q) (by omega)
        have hL2 : ∀ e ∈ l, e.s.size ≤ 2000 := fun e he => by have := few_size hf e he; omega
        obtain ⟨M, hM⟩ : ∃ M, adL l ⟨S, m, k, v, t, p⟩ = M := ⟨_, rfl⟩
        have hMl : M = l ∨ M = l ++ [aU ⟨S, m, k, v, t, p⟩] := by
          rw [← hM]
          by_cases hE : adE l ⟨S, m, k, v, t, p⟩ = 0
          · exact .inr (adL_yes hE)
          · exact .inl (adL_no hE)
        have hMs : ∀ e ∈ M, e.s.size ≤ 2000 := by
          rcases hMl with rfl | rfl
          · exact hL2
          · intro e he
            rcases List.mem_append.1 he with h1 | h1
            · exact hL2 e h1
            · rw [List.mem_singleton.1 h1]; show (up S).size ≤ 2000; rw [up_size]; omega
        have hMn : n ≤ M.length ∧ M.length ≤ n + 1 := by
          rcases hMl with rfl | rfl
          · omega
          · simp; omega
        have hMg : M.getD q e0 = l.getD q e0 := by
          rcases hMl with rfl | rfl
          · rfl
          · simp [List.getD, List.getElem?_append_left (show q < l.length by omega)]
        have hD := dCb_in (l := M) (q := q) (by omega)
        rw [hMg] at hD
        have hCy := dC_yes (l := l) (q := q)
        have hDy := dC_yes (l := M) (q := q)
        rw [hMg] at hDy
        have hCn := dC_no (l := l) (i := (q : Int))
        have hDn := dC_no (l := M) (i := (q : Int))
        generalize l.getD q e0 = e at *
        obtain ⟨S', m', k', v', t', p'⟩ := e
        cases hr : saneB ⟨S', m', k', v', t', p'⟩
        · rw [hr] at hC hD
          exact codes_no xb xo n c l S m k v t p i _ M.length q M S' m' k' v' t' p' w hz h hf (by omega) (by omega) hq hsz (Lib.hid rfl) (Lib.hid hM) (Lib.hid rfl) (Lib.hid hL2) (Lib.hid hMs) (Lib.hid hr) hi hx (Lib.hid hC) (Lib.hid (hCn hC)) (Lib.hid hD) (Lib.hid (hDn hD))
        · rw [hr] at hC hD
          have hCy := hCy hC
          have hDy := hDy hD
          have hkd : kdB ⟨S', m', k', v', t', p'⟩ = true := by unfold saneB at hr; simp only [Bool.and_eq_true] at hr; exact hr.2
          rcases saneB_kind hr with hk | hk | hk | hk | hk
          all_goals
            simp only at hk
            subst hk

          · exact codes_k0 xb xo n c l S m k v t p i _ M.length q M S' m' v' t' p' (dT 0) (dQ 0) (dOk 0) (Lib.hid rfl) (Lib.hid rfl) (Lib.hid rfl)  w hz h hf (by omega) (by omega) hq hsz (Lib.hid rfl) (Lib.hid hM) (Lib.hid rfl) (Lib.hid hL2) (Lib.hid hMs) (Lib.hid hr) hi hx (Lib.hid hC) (Lib.hid hCy) (Lib.hid hD) (Lib.hid hDy)
          · have hp : 0 ≤ dP t' p' := by
              have : decide (0 ≤ dP t' p') = true := hkd
              simpa using this
            have ht := dT_dP hp
            exact codes_k1 xb xo n c l S m k v t p i _ M.length q M S' m' v' t' p' (dP t' p') (Lib.hid (by rw [dOk_dP]; simpa using hp)) (Lib.hid ht.1) (Lib.hid ht.2) (by unfold dP; split <;> omega) w hz h hf (by omega) (by omega) hq hsz (Lib.hid rfl) (Lib.hid hM) (Lib.hid rfl) (Lib.hid hL2) (Lib.hid hMs) (Lib.hid hr) hi hx (Lib.hid hC) (Lib.hid hCy) (Lib.hid hD) (Lib.hid hDy)
          · exact codes_k2 xb xo n c l S m k v t p i _ M.length q M S' m' v' t' p' (dT v') (dQ v') (dOk v') (Lib.hid rfl) (Lib.hid rfl) (Lib.hid rfl) hvv w hz h hf (by omega) (by omega) hq hsz (Lib.hid rfl) (Lib.hid hM) (Lib.hid rfl) (Lib.hid hL2) (Lib.hid hMs) (Lib.hid hr) hi hx (Lib.hid hC) (Lib.hid hCy) (Lib.hid hD) (Lib.hid hDy)
          · exact codes_k3 xb xo n c l S m k v t p i _ M.length q M S' m' v' t' p' (dT v') (dQ v') (dOk v') (Lib.hid rfl) (Lib.hid rfl) (Lib.hid rfl) hvv w hz h hf (by omega) (by omega) hq hsz (Lib.hid rfl) (Lib.hid hM) (Lib.hid rfl) (Lib.hid hL2) (Lib.hid hMs) (Lib.hid hr) hi hx (Lib.hid hC) (Lib.hid hCy) (Lib.hid hD) (Lib.hid hDy)
          · have hp : 0 ≤ dP t' p' := by
              have : decide (0 ≤ dP t' p') = true := hkd
              simpa using this
            have ht := dT_dP hp
            exact codes_k4 xb xo n c l S m k v t p i _ M.length q M S' m' v' t' p' (dP t' p') (Lib.hid (by rw [dOk_dP]; simpa using hp)) (Lib.hid ht.1) (Lib.hid ht.2) (by unfold dP; split <;> omega) w hz h hf (by omega) (by omega) hq hsz (Lib.hid rfl) (Lib.hid hM) (Lib.hid rfl) (Lib.hid hL2) (Lib.hid hMs) (Lib.hid hr) hi hx (Lib.hid hC) (Lib.hid hCy) (Lib.hid hD) (Lib.hid hDy)
end Go.Proofs.Ytkpomphjicoaeaa
