/-
  DictNames walked: names are capitals.
-/
import Derived.Test.YtkpomphjicoaeaaDictAt
namespace Go.Proofs.Ytkpomphjicoaeaa
open Go.RowKit

set_option maxHeartbeats 1000000 in
theorem names_few (A : Option Addr) (n c : Nat) (l : List En) (S : ByteArray) (m : Bool) (k v t p : Int) (w : World) (hz : n ≤ 9223372036854775807) (h : Ens w A n c l) (hf : fewB l = false) :
    Calls Try.prog 8 #[.slice A n c, .agg #[.string S, .bool m, .int .i64 k, .int .i64 v, .int .i64 t, .int .i64 p]] w fun e w' => e = .returned (.bool true) ∧ Below w.heap.size w w' := by
  have HZ := Lib.hid hz
  have H := Lib.hid h
  have HF := Lib.hid hf
  have X0 := Lib.hid (Ev.new w 26 ⟨S, m, k, v, t, p⟩)
  have HB0 := Lib.hid (below_one w (.cells #[.string S, .bool m, .int .i64 k, .int .i64 v, .int .i64 t, .int .i64 p] 26))
  clear hz h hf
  go_enter Try.func8, Try.ntmps8
  go_wp2_with (first
    | (go_at_call 9; refine (awake_any _).mono ?_; rintro e w1 ⟨rfl, hb1⟩; have HB1 := Lib.hid (below_then HB0.out hb1); have X1 := Lib.hid (X0.out.keep hb1); have H1 := Lib.hid (H.out.below (below_then HB0.out hb1)); clear hb1; have x0 := X1.out.c0; have x1 := X1.out.c1; have x2 := X1.out.c2; have x3 := X1.out.c3; have x4 := X1.out.c4; have x5 := X1.out.c5; have xlt := X1.out.lt)
    | (go_at_call 10; refine (few_any A n c l _ _ HZ.out H1.out HF.out).mono ?_; rintro e w2 ⟨rfl, rfl⟩))
  go_ret
  exact ⟨rfl, HB1.out⟩
set_option maxHeartbeats 1000000 in
theorem names_long (A : Option Addr) (n c : Nat) (l : List En) (S : ByteArray) (m : Bool) (k v t p : Int) (w : World) (hz : n ≤ 9223372036854775807) (h : Ens w A n c l) (hf : fewB l = true) (hs : 100 < S.size) :
    Calls Try.prog 8 #[.slice A n c, .agg #[.string S, .bool m, .int .i64 k, .int .i64 v, .int .i64 t, .int .i64 p]] w fun e w' => e = .returned (.bool true) ∧ Below w.heap.size w w' := by
  have hs2 : decide ((100 : Int) < (S.size : Int)) = true := by simp; omega
  clear hs
  have HZ := Lib.hid hz
  have H := Lib.hid h
  have HF := Lib.hid hf
  have X0 := Lib.hid (Ev.new w 26 ⟨S, m, k, v, t, p⟩)
  have HB0 := Lib.hid (below_one w (.cells #[.string S, .bool m, .int .i64 k, .int .i64 v, .int .i64 t, .int .i64 p] 26))
  clear hz h hf
  go_enter Try.func8, Try.ntmps8
  go_wp2_with (first
    | (go_at_call 9; refine (awake_any _).mono ?_; rintro e w1 ⟨rfl, hb1⟩; have HB1 := Lib.hid (below_then HB0.out hb1); have X1 := Lib.hid (X0.out.keep hb1); have H1 := Lib.hid (H.out.below (below_then HB0.out hb1)); clear hb1; have x0 := X1.out.c0; have x1 := X1.out.c1; have x2 := X1.out.c2; have x3 := X1.out.c3; have x4 := X1.out.c4; have x5 := X1.out.c5; have xlt := X1.out.lt)
    | (go_at_call 10; refine (few_any A n c l _ _ HZ.out H1.out HF.out).mono ?_; rintro e w2 ⟨rfl, rfl⟩))
  go_ret
  exact ⟨rfl, HB1.out⟩

set_option maxHeartbeats 1000000 in
theorem names_many (A : Option Addr) (n c : Nat) (l : List En) (S : ByteArray) (m : Bool) (k v t p : Int) (w : World) (hz : n ≤ 9223372036854775807) (h : Ens w A n c l) (hf : fewB l = true) (hs : S.size ≤ 100) (hn : 500 < n) :
    Calls Try.prog 8 #[.slice A n c, .agg #[.string S, .bool m, .int .i64 k, .int .i64 v, .int .i64 t, .int .i64 p]] w fun e w' => e = .returned (.bool true) ∧ Below w.heap.size w w' := by
  have hs2 : decide ((100 : Int) < (S.size : Int)) = false := by simp; omega
  have hn2 : decide ((500 : Int) < (n : Int)) = true := by simp; omega
  clear hs hn
  have HZ := Lib.hid hz
  have H := Lib.hid h
  have HF := Lib.hid hf
  have X0 := Lib.hid (Ev.new w 26 ⟨S, m, k, v, t, p⟩)
  have HB0 := Lib.hid (below_one w (.cells #[.string S, .bool m, .int .i64 k, .int .i64 v, .int .i64 t, .int .i64 p] 26))
  clear hz h hf
  go_enter Try.func8, Try.ntmps8
  go_wp2_with (first
    | (go_at_call 9; refine (awake_any _).mono ?_; rintro e w1 ⟨rfl, hb1⟩; have HB1 := Lib.hid (below_then HB0.out hb1); have X1 := Lib.hid (X0.out.keep hb1); have H1 := Lib.hid (H.out.below (below_then HB0.out hb1)); clear hb1; have x0 := X1.out.c0; have x1 := X1.out.c1; have x2 := X1.out.c2; have x3 := X1.out.c3; have x4 := X1.out.c4; have x5 := X1.out.c5; have xlt := X1.out.lt)
    | (go_at_call 10; refine (few_any A n c l _ _ HZ.out H1.out HF.out).mono ?_; rintro e w2 ⟨rfl, rfl⟩))
  go_ret
  exact ⟨rfl, HB1.out⟩

set_option maxHeartbeats 2000000 in
theorem names_no (A : Option Addr) (n c : Nat) (l : List En) (S : ByteArray) (m : Bool) (k v t p : Int) (f : Int) (b1 b2 : Bool) (N : Nat) (M : List En) (w : World) (hz : n ≤ 9223372036854775807) (h : Ens w A n c l) (hf : fewB l = true) (hs : S.size ≤ 100) (hn : n ≤ 500)
    (HAE : Hid (adE l ⟨S, m, k, v, t, p⟩ = f)) (HAL : Hid (adL l ⟨S, m, k, v, t, p⟩ = M)) (HAN : Hid (M.length = N)) (g0 : (f != 0) = true) (g1 : ((S.size : Int) == 0) = b1) (g2 : decide ((31 : Int) < (S.size : Int)) = b2) (g3 : ((f == -16) == (b1 || b2)) = true) (g4 : ((N : Int) == (n : Int)) = true) :
    Calls Try.prog 8 #[.slice A n c, .agg #[.string S, .bool m, .int .i64 k, .int .i64 v, .int .i64 t, .int .i64 p]] w fun e w' => e = .returned (.bool true) ∧ Below w.heap.size w w' := by
  have hs2 : decide ((100 : Int) < (S.size : Int)) = false := by simp; omega
  have hn2 : decide ((500 : Int) < (n : Int)) = false := by simp; omega
  have HZ := Lib.hid hz
  have H := Lib.hid h
  have HF := Lib.hid hf
  have X0 := Lib.hid (Ev.new w 26 ⟨S, m, k, v, t, p⟩)
  have HB0 := Lib.hid (below_one w (.cells #[.string S, .bool m, .int .i64 k, .int .i64 v, .int .i64 t, .int .i64 p] 26))
  clear hz h hf
  generalize hq : (f == -16) = q at g3
  cases b1
  · rw [Bool.false_or] at g3
    obtain rfl : q = b2 := by simpa using g3
    clear g3
    go_enter Try.func8, Try.ntmps8
    go_upto_region 4 with (first
      | (go_at_call 9; refine (awake_any _).mono ?_; rintro e w1 ⟨rfl, hb1⟩; have HB1 := Lib.hid (below_then HB0.out hb1); have X1 := Lib.hid (X0.out.keep hb1); have H1 := Lib.hid (H.out.below (below_then HB0.out hb1)); clear hb1; have x0 := X1.out.c0; have x1 := X1.out.c1; have x2 := X1.out.c2; have x3 := X1.out.c3; have x4 := X1.out.c4; have x5 := X1.out.c5; have xlt := X1.out.lt)
      | (go_at_call 10; refine (few_any A n c l _ _ HZ.out H1.out HF.out).mono ?_; rintro e w2 ⟨rfl, rfl⟩))
    have K1 := Lib.hid (fun w9 (h9 : Below w1.heap.size w1 w9) => entries_any A n c l w9 (by omega) (H1.out.below h9))
    have K2 := Lib.hid (fun A9 c9 w9 (h9 : Ens w9 A9 n c9 l) => add_at A9 n c9 l S m k v t p N M f w9 (by omega) (by omega) h9 HAE.out HAL.out HAN.out)
    have HV : Hid (Below w1.heap.size w1 w1.drew) := Lib.hid (Below.refl _ _).drew
    clear x0 x1 x2 x3 x4 x5 xlt
    go_region_held3 (fun w9 => Below w1.heap.size w1 w9 ∧ w9.cell? ⟨w.heap.size, 0, none⟩ = some (.string S) ∧ w9.cell? ⟨w.heap.size, 1, none⟩ = some (.bool m) ∧ w9.cell? ⟨w.heap.size, 2, none⟩ = some (.int .i64 k) ∧ w9.cell? ⟨w.heap.size, 3, none⟩ = some (.int .i64 v) ∧ w9.cell? ⟨w.heap.size, 4, none⟩ = some (.int .i64 t) ∧ w9.cell? ⟨w.heap.size, 5, none⟩ = some (.int .i64 p)) (first | assumption | exact sixB X1.out HV.out)
      (first
        | (go_at_call 12; (with_reducible refine (K1.out _ HV.out).mono ?_); rintro e w2 ⟨A2, c2, rfl, ho2⟩; have HV := Lib.hid (below_then HV.out ho2.below); have H2 := Lib.hid ho2.ens; clear ho2)
        | (go_at_call 15; refine (entry_is _ _ _ _ _ _ _).mono ?_; rintro e w3 ⟨rfl, hb3⟩; have HV := Lib.hid (below_then HV.out hb3); have H3 := Lib.hid (H2.out.below hb3); clear hb3)
        | (go_at_call 14; (with_reducible refine (K2.out _ _ _ H3.out).mono ?_); rintro e w4 ⟨A4, c4, rfl, h4, hb4⟩; have HV := Lib.hid (below_then HV.out hb4); have H4 := Lib.hid h4; clear h4 hb4))
    clear K1 K2
    have HB4 := Lib.hid (below_then HB1.out HV.out)
    have X4 := Lib.hid (X1.out.keep HV.out)
    have x0 := X4.out.c0
    have x1 := X4.out.c1
    have x2 := X4.out.c2
    have x3 := X4.out.c3
    have x4 := X4.out.c4
    have x5 := X4.out.c5
    have xlt := X4.out.lt
    go_wp2
    go_ret
    exact ⟨rfl, HB4.out⟩
  · rw [Bool.true_or] at g3
    obtain rfl : q = true := by simpa using g3
    clear g3
    go_enter Try.func8, Try.ntmps8
    go_upto_region 4 with (first
      | (go_at_call 9; refine (awake_any _).mono ?_; rintro e w1 ⟨rfl, hb1⟩; have HB1 := Lib.hid (below_then HB0.out hb1); have X1 := Lib.hid (X0.out.keep hb1); have H1 := Lib.hid (H.out.below (below_then HB0.out hb1)); clear hb1; have x0 := X1.out.c0; have x1 := X1.out.c1; have x2 := X1.out.c2; have x3 := X1.out.c3; have x4 := X1.out.c4; have x5 := X1.out.c5; have xlt := X1.out.lt)
      | (go_at_call 10; refine (few_any A n c l _ _ HZ.out H1.out HF.out).mono ?_; rintro e w2 ⟨rfl, rfl⟩))
    have K1 := Lib.hid (fun w9 (h9 : Below w1.heap.size w1 w9) => entries_any A n c l w9 (by omega) (H1.out.below h9))
    have K2 := Lib.hid (fun A9 c9 w9 (h9 : Ens w9 A9 n c9 l) => add_at A9 n c9 l S m k v t p N M f w9 (by omega) (by omega) h9 HAE.out HAL.out HAN.out)
    have HV : Hid (Below w1.heap.size w1 w1.drew) := Lib.hid (Below.refl _ _).drew
    clear x0 x1 x2 x3 x4 x5 xlt
    go_region_held3 (fun w9 => Below w1.heap.size w1 w9 ∧ w9.cell? ⟨w.heap.size, 0, none⟩ = some (.string S) ∧ w9.cell? ⟨w.heap.size, 1, none⟩ = some (.bool m) ∧ w9.cell? ⟨w.heap.size, 2, none⟩ = some (.int .i64 k) ∧ w9.cell? ⟨w.heap.size, 3, none⟩ = some (.int .i64 v) ∧ w9.cell? ⟨w.heap.size, 4, none⟩ = some (.int .i64 t) ∧ w9.cell? ⟨w.heap.size, 5, none⟩ = some (.int .i64 p)) (first | assumption | exact sixB X1.out HV.out)
      (first
        | (go_at_call 12; (with_reducible refine (K1.out _ HV.out).mono ?_); rintro e w2 ⟨A2, c2, rfl, ho2⟩; have HV := Lib.hid (below_then HV.out ho2.below); have H2 := Lib.hid ho2.ens; clear ho2)
        | (go_at_call 15; refine (entry_is _ _ _ _ _ _ _).mono ?_; rintro e w3 ⟨rfl, hb3⟩; have HV := Lib.hid (below_then HV.out hb3); have H3 := Lib.hid (H2.out.below hb3); clear hb3)
        | (go_at_call 14; (with_reducible refine (K2.out _ _ _ H3.out).mono ?_); rintro e w4 ⟨A4, c4, rfl, h4, hb4⟩; have HV := Lib.hid (below_then HV.out hb4); have H4 := Lib.hid h4; clear h4 hb4))
    clear K1 K2
    have HB4 := Lib.hid (below_then HB1.out HV.out)
    have X4 := Lib.hid (X1.out.keep HV.out)
    have x0 := X4.out.c0
    have x1 := X4.out.c1
    have x2 := X4.out.c2
    have x3 := X4.out.c3
    have x4 := X4.out.c4
    have x5 := X4.out.c5
    have xlt := X4.out.lt
    go_wp2
    go_ret
    exact ⟨rfl, HB4.out⟩
theorem names_eq {T : ByteArray} {m : Bool} {k v t p : Int} : eEq ⟨T, m, k, v, t, p⟩ ⟨T, m, k, v, t, p⟩ = true := eEq_iff.2 rfl
set_option maxHeartbeats 4000000 in
theorem names_ok (A : Option Addr) (n c : Nat) (l : List En) (S : ByteArray) (m : Bool) (k v t p : Int) (T : ByteArray) (N N2 : Nat) (M M2 : List En) (w : World) (hz : n ≤ 9223372036854775807) (h : Ens w A n c l) (hf : fewB l = true) (hs : S.size ≤ 100) (hn : n ≤ 500) (hT : T.size ≤ 100)
    (HAE : Hid (adE l ⟨S, m, k, v, t, p⟩ = 0)) (HAL : Hid (adL l ⟨S, m, k, v, t, p⟩ = M)) (HAN : Hid (M.length = N)) (HX : Hid (M.getD n e0 = ⟨T, m, k, v, t, p⟩)) (HBE : Hid (adE M ⟨T, m, k, v, t, p⟩ = 0)) (HBL : Hid (adL M ⟨T, m, k, v, t, p⟩ = M2)) (HBN : Hid (M2.length = N2)) (HX2 : Hid (M2.getD N e0 = ⟨T, m, k, v, t, p⟩)) (HSN : Hid (saneB ⟨T, m, k, v, t, p⟩ = true))
    (g1 : ((S.size : Int) == 0) = false) (g2 : decide ((31 : Int) < (S.size : Int)) = false) (g4 : ((N : Int) != (n : Int) + 1) = false) (g5 : ((N2 : Int) == (N : Int) + 1) = true) (hN : n < N) (hN2 : N < N2) (hN3 : N ≤ 600) :
    Calls Try.prog 8 #[.slice A n c, .agg #[.string S, .bool m, .int .i64 k, .int .i64 v, .int .i64 t, .int .i64 p]] w fun e w' => e = .returned (.bool true) ∧ Below w.heap.size w w' := by
  have hs2 : decide ((100 : Int) < (S.size : Int)) = false := by simp; omega
  have hn2 : decide ((500 : Int) < (n : Int)) = false := by simp; omega
  have HZ := Lib.hid hz
  have H := Lib.hid h
  have HF := Lib.hid hf
  have X0 := Lib.hid (Ev.new w 26 ⟨S, m, k, v, t, p⟩)
  have HB0 := Lib.hid (below_one w (.cells #[.string S, .bool m, .int .i64 k, .int .i64 v, .int .i64 t, .int .i64 p] 26))
  clear hz h hf
  have gw : IntKind.i64.wrap ((N : Int) + 1) = (N : Int) + 1 := (by rw [IntKind.wrap_i64]; omega)
  have q := eqPP
  have q2 := fun W => eqE W T m k v t p T m k v t p true names_eq
  go_enter Try.func8, Try.ntmps8
  go_upto_region 4 with (first
    | (go_at_call 9; refine (awake_any _).mono ?_; rintro e w1 ⟨rfl, hb1⟩; have HB1 := Lib.hid (below_then HB0.out hb1); have X1 := Lib.hid (X0.out.keep hb1); have H1 := Lib.hid (H.out.below (below_then HB0.out hb1)); clear hb1; have x0 := X1.out.c0; have x1 := X1.out.c1; have x2 := X1.out.c2; have x3 := X1.out.c3; have x4 := X1.out.c4; have x5 := X1.out.c5; have xlt := X1.out.lt)
    | (go_at_call 10; refine (few_any A n c l _ _ HZ.out H1.out HF.out).mono ?_; rintro e w2 ⟨rfl, rfl⟩))
  have K1 := Lib.hid (fun w9 (h9 : Below w1.heap.size w1 w9) => entries_any A n c l w9 (by omega) (H1.out.below h9))
  have K2 := Lib.hid (fun A9 c9 w9 (h9 : Ens w9 A9 n c9 l) => add_at A9 n c9 l S m k v t p N M 0 w9 (by omega) (by omega) h9 HAE.out HAL.out HAN.out)
  have HV : Hid (Below w1.heap.size w1 w1.drew) := Lib.hid (Below.refl _ _).drew
  clear x0 x1 x2 x3 x4 x5 xlt
  go_region_held3 (fun w9 => Below w1.heap.size w1 w9 ∧ w9.cell? ⟨w.heap.size, 0, none⟩ = some (.string S) ∧ w9.cell? ⟨w.heap.size, 1, none⟩ = some (.bool m) ∧ w9.cell? ⟨w.heap.size, 2, none⟩ = some (.int .i64 k) ∧ w9.cell? ⟨w.heap.size, 3, none⟩ = some (.int .i64 v) ∧ w9.cell? ⟨w.heap.size, 4, none⟩ = some (.int .i64 t) ∧ w9.cell? ⟨w.heap.size, 5, none⟩ = some (.int .i64 p)) (first | assumption | exact sixB X1.out HV.out)
    (first
      | (go_at_call 12; (with_reducible refine (K1.out _ HV.out).mono ?_); rintro e w2 ⟨A2, c2, rfl, ho2⟩; have HV := Lib.hid (below_then HV.out ho2.below); have H2 := Lib.hid ho2.ens; clear ho2)
      | (go_at_call 15; refine (entry_is _ _ _ _ _ _ _).mono ?_; rintro e w3 ⟨rfl, hb3⟩; have HV := Lib.hid (below_then HV.out hb3); have H3 := Lib.hid (H2.out.below hb3); clear hb3)
      | (go_at_call 14; (with_reducible refine (K2.out _ _ _ H3.out).mono ?_); rintro e w4 ⟨A4, c4, rfl, h4, hb4⟩; have HV := Lib.hid (below_then HV.out hb4); have H4 := Lib.hid h4; clear h4 hb4))
  clear K1 K2
  have HB4 := Lib.hid (below_then HB1.out HV.out)
  have X4 := Lib.hid (X1.out.keep HV.out)
  have x0 := X4.out.c0
  have x1 := X4.out.c1
  have x2 := X4.out.c2
  have x3 := X4.out.c3
  have x4 := X4.out.c4
  have x5 := X4.out.c5
  have xlt := X4.out.lt
  obtain ⟨yb, yo, hA4, hy⟩ := H4.out.six n hN
  rw [HX.out] at hy
  subst hA4
  have Y4 := Lib.hid hy
  have y0 := hy.c0
  have y1 := hy.c1
  have y2 := hy.c2
  have y3 := hy.c3
  have y4 := hy.c4
  have y5 := hy.c5
  have ylt := hy.lt
  clear hy
  have K3 := Lib.hid (fun w9 (h9 : Ens w9 (some ⟨yb, yo, none⟩) N c4 M) => add_at (some ⟨yb, yo, none⟩) N c4 M T m k v t p N2 M2 0 w9 (by omega) (by omega) h9 HBE.out HBL.out HBN.out)
  have HO4 := Lib.hid (below_one w4 (.cells #[.string T, .bool m, .int .i64 k, .int .i64 v, .int .i64 t, .int .i64 p] 37))
  go_upto_region 12 with (first | (go_at_call 14; (with_reducible refine (K3.out _ (H4.out.alloc _)).mono ?_); rintro e w5 ⟨A5, c5, rfl, h5, hb5⟩; have H5 := Lib.hid h5; have hb6 := below_then HO4.out hb5; have HB5 := Lib.hid (below_then HB4.out hb6); have X5 := Lib.hid (X4.out.keep hb6); have Z5 := Lib.hid ((Ev.new w4 37 ⟨T, m, k, v, t, p⟩).keep hb5); clear h5 hb5 hb6 x0 x1 x2 x3 x4 x5 xlt))
  obtain ⟨zb, zo, hA5, hv⟩ := H5.out.six N hN2
  rw [HX2.out] at hv
  subst hA5
  have V5 := Lib.hid hv
  have hv1 := hv.lt
  have hv2 := X5.out.lt
  have hv3 := Z5.out.lt
  clear hv
  have HV2 : Hid (Below w5.heap.size w5 w5.drew) := Lib.hid (Below.refl _ _).drew
  go_region_held3 (fun w9 => Below w5.heap.size w5 w9 ∧ w9.cell? ⟨w.heap.size, 0, none⟩ = some (.string S) ∧ w9.cell? ⟨w.heap.size, 1, none⟩ = some (.bool m) ∧ w9.cell? ⟨w.heap.size, 2, none⟩ = some (.int .i64 k) ∧ w9.cell? ⟨w.heap.size, 3, none⟩ = some (.int .i64 v) ∧ w9.cell? ⟨w.heap.size, 4, none⟩ = some (.int .i64 t) ∧ w9.cell? ⟨w.heap.size, 5, none⟩ = some (.int .i64 p) ∧ w9.cell? ⟨w4.heap.size, 0, none⟩ = some (.string T) ∧ w9.cell? ⟨w4.heap.size, 1, none⟩ = some (.bool m) ∧ w9.cell? ⟨w4.heap.size, 2, none⟩ = some (.int .i64 k) ∧ w9.cell? ⟨w4.heap.size, 3, none⟩ = some (.int .i64 v) ∧ w9.cell? ⟨w4.heap.size, 4, none⟩ = some (.int .i64 t) ∧ w9.cell? ⟨w4.heap.size, 5, none⟩ = some (.int .i64 p) ∧ w9.cell? ⟨zb, zo + N * 6, none⟩ = some (.string T) ∧ w9.cell? ⟨zb, zo + N * 6 + 1, none⟩ = some (.bool m) ∧ w9.cell? ⟨zb, zo + N * 6 + 2, none⟩ = some (.int .i64 k) ∧ w9.cell? ⟨zb, zo + N * 6 + 3, none⟩ = some (.int .i64 v) ∧ w9.cell? ⟨zb, zo + N * 6 + 4, none⟩ = some (.int .i64 t) ∧ w9.cell? ⟨zb, zo + N * 6 + 5, none⟩ = some (.int .i64 p)) (first | assumption | exact ⟨HV2.out, (X5.out.keep HV2.out).c0, (X5.out.keep HV2.out).c1, (X5.out.keep HV2.out).c2, (X5.out.keep HV2.out).c3, (X5.out.keep HV2.out).c4, (X5.out.keep HV2.out).c5, (Z5.out.keep HV2.out).c0, (Z5.out.keep HV2.out).c1, (Z5.out.keep HV2.out).c2, (Z5.out.keep HV2.out).c3, (Z5.out.keep HV2.out).c4, (Z5.out.keep HV2.out).c5, (V5.out.keep HV2.out).c0, (V5.out.keep HV2.out).c1, (V5.out.keep HV2.out).c2, (V5.out.keep HV2.out).c3, (V5.out.keep HV2.out).c4, (V5.out.keep HV2.out).c5⟩)
    (first | (go_at_call 26; refine (sane_is _ _ _ _ _ _ _ (by omega) HSN.out _).mono ?_; rintro e w6 ⟨rfl, hb6⟩; have HV2 := Lib.hid (below_then HV2.out hb6); clear hb6))
  go_wp2
  go_ret
  exact ⟨rfl, below_then HB5.out HV2.out⟩

theorem sz_bad {z : Nat} (h : ¬ (1 ≤ z ∧ z ≤ 31)) : (((-16 : Int) == -16) == (((z : Int) == 0) || decide ((31 : Int) < (z : Int)))) = true := by
  by_cases h0 : z = 0
  · subst h0; rfl
  · rw [decide_eq_true (by omega : (31 : Int) < (z : Int)), Bool.or_true]; rfl
theorem sz_good {z : Nat} (h : 1 ≤ z ∧ z ≤ 31) : (((-21 : Int) == -16) == (((z : Int) == 0) || decide ((31 : Int) < (z : Int)))) = true := by
  rw [decide_eq_false (by omega : ¬ (31 : Int) < (z : Int)), beq_eq_false_iff_ne.2 (by omega : (z : Int) ≠ 0)]; rfl
theorem names_any (A : Option Addr) (n c : Nat) (l : List En) (S : ByteArray) (m : Bool) (k v t p : Int) (w : World) (hz : n ≤ 9223372036854775807) (h : Ens w A n c l) :
    Calls Try.prog 8 #[.slice A n c, .agg #[.string S, .bool m, .int .i64 k, .int .i64 v, .int .i64 t, .int .i64 p]] w fun e w' => e = .returned (.bool true) ∧ Below w.heap.size w w' := by
  cases hf : fewB l
  · exact names_few A n c l S m k v t p w hz h hf
  · by_cases hs : 100 < S.size
    · exact names_long A n c l S m k v t p w hz h hf hs
    · by_cases hn : 500 < n
      · exact names_many A n c l S m k v t p w hz h hf (by omega) hn
      · have hl := h.len
        by_cases hE : adE l ⟨S, m, k, v, t, p⟩ = 0
        · have hM := adL_yes hE
          have hb : nmB S = true := by
            cases hb : nmB S
            · rw [ad_bad (e := ⟨S, m, k, v, t, p⟩) hb] at hE; omega
            · rfl
          have hsn : saneB (aU ⟨S, m, k, v, t, p⟩) = true := by
            cases hb2 : saneB (aU ⟨S, m, k, v, t, p⟩)
            · rw [ad_host (e := ⟨S, m, k, v, t, p⟩) hb hb2] at hE; omega
            · rfl
          have hb2 : 1 ≤ S.size ∧ S.size ≤ 31 := by unfold nmB at hb; simpa using hb
          have hU : aU (aU ⟨S, m, k, v, t, p⟩) = aU ⟨S, m, k, v, t, p⟩ := aU_aU _
          have hE2 : adE (l ++ [aU ⟨S, m, k, v, t, p⟩]) (aU ⟨S, m, k, v, t, p⟩) = 0 := ad_ok (by show nmB (up S) = true; rw [nmB_up]; exact hb) (by rw [hU]; exact hsn) (by simp; omega)
          have hM2 := adL_yes hE2
          rw [hU] at hM2
          refine names_ok A n c l S m k v t p (up S) (n + 1) (n + 2) (l ++ [aU ⟨S, m, k, v, t, p⟩]) ((l ++ [aU ⟨S, m, k, v, t, p⟩]) ++ [aU ⟨S, m, k, v, t, p⟩]) w hz h hf (by omega) (by omega) (by rw [up_size]; omega) (Lib.hid hE) (Lib.hid hM) (Lib.hid (by simp [hl])) (Lib.hid ?_) (Lib.hid hE2) (Lib.hid hM2) (Lib.hid (by simp [hl])) (Lib.hid ?_) (Lib.hid hsn) ?_ ?_ ?_ ?_ (by omega) (by omega) (by omega)
          · rw [← hl]; simp [List.getD]; rfl
          · rw [← hl]; simp [List.getD]; rfl
          · exact beq_eq_false_iff_ne.2 (by omega)
          · exact decide_eq_false (by omega)
          · simp
          · exact beq_iff_eq.2 (by omega)
        · have hM := adL_no hE
          refine names_no A n c l S m k v t p (adE l ⟨S, m, k, v, t, p⟩) _ _ n l w hz h hf (by omega) (by omega) (Lib.hid rfl) (Lib.hid hM) (Lib.hid hl) (by simpa using hE) rfl rfl ?_ (by simp)
          cases hb : nmB S
          · rw [ad_bad (e := ⟨S, m, k, v, t, p⟩) hb]
            have hb2 : ¬ (1 ≤ S.size ∧ S.size ≤ 31) := by unfold nmB at hb; simpa using hb
            exact sz_bad hb2
          · have hb2 : 1 ≤ S.size ∧ S.size ≤ 31 := by unfold nmB at hb; simpa using hb
            cases hb3 : saneB (aU ⟨S, m, k, v, t, p⟩)
            · rw [ad_host (e := ⟨S, m, k, v, t, p⟩) hb hb3]
              exact sz_good hb2
            · exact absurd (ad_ok (e := ⟨S, m, k, v, t, p⟩) hb hb3 (by omega)) hE
end Go.Proofs.Ytkpomphjicoaeaa
