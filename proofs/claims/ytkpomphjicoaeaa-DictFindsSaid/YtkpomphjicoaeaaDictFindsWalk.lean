/-
  DictFinds walked: what is added is found.
-/
import Derived.Test.YtkpomphjicoaeaaDictAt
namespace Go.Proofs.Ytkpomphjicoaeaa
open Go.RowKit

set_option maxHeartbeats 1000000 in
theorem finds_few (A : Option Addr) (n c : Nat) (l : List En) (S : ByteArray) (m : Bool) (k v t p : Int) (R : ByteArray) (w : World) (hz : n ≤ 9223372036854775807) (h : Ens w A n c l) (hf : fewB l = false) :
    Calls Try.prog 5 #[.slice A n c, .agg #[.string S, .bool m, .int .i64 k, .int .i64 v, .int .i64 t, .int .i64 p], .string R] w fun e w' => e = .returned (.bool true) ∧ Below w.heap.size w w' := by
  have HZ := Lib.hid hz
  have H := Lib.hid h
  have HF := Lib.hid hf
  have X0 := Lib.hid (Ev.new w 26 ⟨S, m, k, v, t, p⟩)
  have HB0 := Lib.hid (below_one w (.cells #[.string S, .bool m, .int .i64 k, .int .i64 v, .int .i64 t, .int .i64 p] 26))
  clear hz h hf
  go_enter Try.func5, Try.ntmps5
  go_wp2_with (first
    | (go_at_call 9; refine (awake_any _).mono ?_; rintro e w1 ⟨rfl, hb1⟩; have HB1 := Lib.hid (below_then HB0.out hb1); have X1 := Lib.hid (X0.out.keep hb1); have H1 := Lib.hid (H.out.below (below_then HB0.out hb1)); clear hb1; have x0 := X1.out.c0; have x1 := X1.out.c1; have x2 := X1.out.c2; have x3 := X1.out.c3; have x4 := X1.out.c4; have x5 := X1.out.c5; have xlt := X1.out.lt)
    | (go_at_call 10; refine (few_any A n c l _ _ HZ.out H1.out HF.out).mono ?_; rintro e w2 ⟨rfl, rfl⟩))
  go_ret
  exact ⟨rfl, HB1.out⟩

set_option maxHeartbeats 1000000 in
theorem finds_text (A : Option Addr) (n c : Nat) (l : List En) (S : ByteArray) (m : Bool) (k v t p : Int) (R : ByteArray) (w : World) (hz : n ≤ 9223372036854775807) (h : Ens w A n c l) (hf : fewB l = true) (hr : 100 < R.size) :
    Calls Try.prog 5 #[.slice A n c, .agg #[.string S, .bool m, .int .i64 k, .int .i64 v, .int .i64 t, .int .i64 p], .string R] w fun e w' => e = .returned (.bool true) ∧ Below w.heap.size w w' := by
  have hr2 : decide ((100 : Int) < (R.size : Int)) = true := by simp; omega
  clear hr
  have HZ := Lib.hid hz
  have H := Lib.hid h
  have HF := Lib.hid hf
  have X0 := Lib.hid (Ev.new w 26 ⟨S, m, k, v, t, p⟩)
  have HB0 := Lib.hid (below_one w (.cells #[.string S, .bool m, .int .i64 k, .int .i64 v, .int .i64 t, .int .i64 p] 26))
  clear hz h hf
  go_enter Try.func5, Try.ntmps5
  go_wp2_with (first
    | (go_at_call 9; refine (awake_any _).mono ?_; rintro e w1 ⟨rfl, hb1⟩; have HB1 := Lib.hid (below_then HB0.out hb1); have X1 := Lib.hid (X0.out.keep hb1); have H1 := Lib.hid (H.out.below (below_then HB0.out hb1)); clear hb1; have x0 := X1.out.c0; have x1 := X1.out.c1; have x2 := X1.out.c2; have x3 := X1.out.c3; have x4 := X1.out.c4; have x5 := X1.out.c5; have xlt := X1.out.lt)
    | (go_at_call 10; refine (few_any A n c l _ _ HZ.out H1.out HF.out).mono ?_; rintro e w2 ⟨rfl, rfl⟩))
  go_ret
  exact ⟨rfl, HB1.out⟩

set_option maxHeartbeats 1000000 in
theorem finds_long (A : Option Addr) (n c : Nat) (l : List En) (S : ByteArray) (m : Bool) (k v t p : Int) (R : ByteArray) (w : World) (hz : n ≤ 9223372036854775807) (h : Ens w A n c l) (hf : fewB l = true) (hr : R.size ≤ 100) (hs : 100 < S.size) :
    Calls Try.prog 5 #[.slice A n c, .agg #[.string S, .bool m, .int .i64 k, .int .i64 v, .int .i64 t, .int .i64 p], .string R] w fun e w' => e = .returned (.bool true) ∧ Below w.heap.size w w' := by
  have hr2 : decide ((100 : Int) < (R.size : Int)) = false := by simp; omega
  have hs2 : decide ((100 : Int) < (S.size : Int)) = true := by simp; omega
  clear hr hs
  have HZ := Lib.hid hz
  have H := Lib.hid h
  have HF := Lib.hid hf
  have X0 := Lib.hid (Ev.new w 26 ⟨S, m, k, v, t, p⟩)
  have HB0 := Lib.hid (below_one w (.cells #[.string S, .bool m, .int .i64 k, .int .i64 v, .int .i64 t, .int .i64 p] 26))
  clear hz h hf
  go_enter Try.func5, Try.ntmps5
  go_wp2_with (first
    | (go_at_call 9; refine (awake_any _).mono ?_; rintro e w1 ⟨rfl, hb1⟩; have HB1 := Lib.hid (below_then HB0.out hb1); have X1 := Lib.hid (X0.out.keep hb1); have H1 := Lib.hid (H.out.below (below_then HB0.out hb1)); clear hb1; have x0 := X1.out.c0; have x1 := X1.out.c1; have x2 := X1.out.c2; have x3 := X1.out.c3; have x4 := X1.out.c4; have x5 := X1.out.c5; have xlt := X1.out.lt)
    | (go_at_call 10; refine (few_any A n c l _ _ HZ.out H1.out HF.out).mono ?_; rintro e w2 ⟨rfl, rfl⟩))
  go_ret
  exact ⟨rfl, HB1.out⟩

set_option maxHeartbeats 2000000 in
theorem finds_no (A : Option Addr) (n c : Nat) (l : List En) (S : ByteArray) (m : Bool) (k v t p : Int) (R : ByteArray) (f : Int) (w : World) (hz : n ≤ 9223372036854775807) (h : Ens w A n c l) (hf : fewB l = true) (hr : R.size ≤ 100) (hs : S.size ≤ 100) (hn : n ≤ 600)
    (HAE : Hid (adE l ⟨S, m, k, v, t, p⟩ = f)) (HAL : Hid (adL l ⟨S, m, k, v, t, p⟩ = l)) (HAN : Hid (l.length = n)) (g0 : (f != 0) = true) :
    Calls Try.prog 5 #[.slice A n c, .agg #[.string S, .bool m, .int .i64 k, .int .i64 v, .int .i64 t, .int .i64 p], .string R] w fun e w' => e = .returned (.bool true) ∧ Below w.heap.size w w' := by
  have hr2 : decide ((100 : Int) < (R.size : Int)) = false := by simp; omega
  have hs2 : decide ((100 : Int) < (S.size : Int)) = false := by simp; omega
  have HZ := Lib.hid hz
  have H := Lib.hid h
  have HF := Lib.hid hf
  have X0 := Lib.hid (Ev.new w 26 ⟨S, m, k, v, t, p⟩)
  have HB0 := Lib.hid (below_one w (.cells #[.string S, .bool m, .int .i64 k, .int .i64 v, .int .i64 t, .int .i64 p] 26))
  clear hz h hf
  go_enter Try.func5, Try.ntmps5
  go_upto_region 4 with (first
    | (go_at_call 9; refine (awake_any _).mono ?_; rintro e w1 ⟨rfl, hb1⟩; have HB1 := Lib.hid (below_then HB0.out hb1); have X1 := Lib.hid (X0.out.keep hb1); have H1 := Lib.hid (H.out.below (below_then HB0.out hb1)); clear hb1; have x0 := X1.out.c0; have x1 := X1.out.c1; have x2 := X1.out.c2; have x3 := X1.out.c3; have x4 := X1.out.c4; have x5 := X1.out.c5; have xlt := X1.out.lt)
    | (go_at_call 10; refine (few_any A n c l _ _ HZ.out H1.out HF.out).mono ?_; rintro e w2 ⟨rfl, rfl⟩))
  have K1 := Lib.hid (fun w9 (h9 : Below w1.heap.size w1 w9) => entries_any A n c l w9 (by omega) (H1.out.below h9))
  have K2 := Lib.hid (fun A9 c9 w9 (h9 : Ens w9 A9 n c9 l) => add_at A9 n c9 l S m k v t p n l f w9 (by omega) (by omega) h9 HAE.out HAL.out HAN.out)
  have HV : Hid (Below w1.heap.size w1 w1.drew) := Lib.hid (Below.refl _ _).drew
  clear x0 x1 x2 x3 x4 x5 xlt
  go_region_held3 (fun w9 => Below w1.heap.size w1 w9 ∧ w9.cell? ⟨w.heap.size, 0, none⟩ = some (.string S) ∧ w9.cell? ⟨w.heap.size, 1, none⟩ = some (.bool m) ∧ w9.cell? ⟨w.heap.size, 2, none⟩ = some (.int .i64 k) ∧ w9.cell? ⟨w.heap.size, 3, none⟩ = some (.int .i64 v) ∧ w9.cell? ⟨w.heap.size, 4, none⟩ = some (.int .i64 t) ∧ w9.cell? ⟨w.heap.size, 5, none⟩ = some (.int .i64 p)) (first | assumption | exact sixB X1.out HV.out)
    (first
      | (go_at_call 12; (with_reducible refine (K1.out _ HV.out).mono ?_); rintro e w2 ⟨A2, c2, rfl, ho2⟩; have HV := Lib.hid (below_then HV.out ho2.below); have H2 := Lib.hid ho2.ens; clear ho2)
      | (go_at_call 15; refine (entry_is _ _ _ _ _ _ _).mono ?_; rintro e w3 ⟨rfl, hb3⟩; have HV := Lib.hid (below_then HV.out hb3); have H3 := Lib.hid (H2.out.below hb3); clear hb3)
      | (go_at_call 14; (with_reducible refine (K2.out _ _ _ H3.out).mono ?_); rintro e w4 ⟨A4, c4, rfl, h4, hb4⟩; have HV := Lib.hid (below_then HV.out hb4); have H4 := Lib.hid h4; clear h4 hb4))
  clear K1 K2
  have HB4 := Lib.hid (below_then HB1.out HV.out)
  have X4 := Lib.hid (X1.out.keep HV.out)
  have x0 := X4.out.c0
  have x1 := X4.out.c1
  have x2 := X4.out.c2
  have x3 := X4.out.c3
  have x4 := X4.out.c4
  have x5 := X4.out.c5
  have xlt := X4.out.lt
  go_wp2_with (first
    | (go_at_call 22; refine (words_any A4 n c4 l _ (by omega) H4.out).mono ?_; rintro e w5 ⟨A5, c5, rfl, ho5⟩; have HB5 := Lib.hid (below_then HB4.out ho5.below); have H5 := Lib.hid ho5.ens; have H15 := Lib.hid (H1.out.below (below_then HV.out ho5.below)); clear ho5)
    | (go_at_call 21; refine (sameE_any A5 A n c5 n c l l true _ (by omega) (by omega) H5.out H15.out ⟨fun _ => rfl, fun _ => rfl⟩).mono ?_; rintro e w6 ⟨rfl, hb6⟩; have HB6 := Lib.hid (below_then HB5.out hb6); clear hb6))
  go_ret
  exact ⟨rfl, HB6.out⟩
set_option maxHeartbeats 4000000 in
theorem finds_ok (A : Option Addr) (n c : Nat) (l : List En) (S : ByteArray) (m : Bool) (k v t p : Int) (R : ByteArray) (N : Nat) (M : List En) (T U : ByteArray) (j q : Int) (is was : Bool) (w : World) (hz : n ≤ 9223372036854775807) (h : Ens w A n c l) (hf : fewB l = true) (hr : R.size ≤ 100) (hs : S.size ≤ 100) (hn : n ≤ 600)
    (HAE : Hid (adE l ⟨S, m, k, v, t, p⟩ = 0)) (HAL : Hid (adL l ⟨S, m, k, v, t, p⟩ = M)) (HAN : Hid (M.length = N)) (HMT : Hid (M.take n = l)) (g4 : ((N : Int) != (n : Int) + 1) = false) (hN : n ≤ N) (hN2 : N ≤ 700)
    (F1 : Hid (dV (dF M S) = (n : Int))) (F2 : Hid ((dF M S).isSome = true)) (F3 : Hid (dV (dF M R) = j)) (F4 : Hid ((dF M R).isSome = is)) (F5 : Hid (dV (dF l R) = q)) (F6 : Hid ((dF l R).isSome = was)) (HU : Hid (up R = U)) (HT : Hid (up S = T)) (GT : Hid (nEq U T = true → is = true ∧ j = (n : Int))) (GF : Hid (nEq U T = false → was = is ∧ (is = true → q = j)))  :
    Calls Try.prog 5 #[.slice A n c, .agg #[.string S, .bool m, .int .i64 k, .int .i64 v, .int .i64 t, .int .i64 p], .string R] w fun e w' => e = .returned (.bool true) ∧ Below w.heap.size w w' := by
  have hr2 : decide ((100 : Int) < (R.size : Int)) = false := by simp; omega
  have hs2 : decide ((100 : Int) < (S.size : Int)) = false := by simp; omega
  have HZ := Lib.hid hz
  have H := Lib.hid h
  have HF := Lib.hid hf
  have X0 := Lib.hid (Ev.new w 26 ⟨S, m, k, v, t, p⟩)
  have HB0 := Lib.hid (below_one w (.cells #[.string S, .bool m, .int .i64 k, .int .i64 v, .int .i64 t, .int .i64 p] 26))
  clear hz h hf
  go_enter Try.func5, Try.ntmps5
  go_upto_region 4 with (first
    | (go_at_call 9; refine (awake_any _).mono ?_; rintro e w1 ⟨rfl, hb1⟩; have HB1 := Lib.hid (below_then HB0.out hb1); have X1 := Lib.hid (X0.out.keep hb1); have H1 := Lib.hid (H.out.below (below_then HB0.out hb1)); clear hb1; have x0 := X1.out.c0; have x1 := X1.out.c1; have x2 := X1.out.c2; have x3 := X1.out.c3; have x4 := X1.out.c4; have x5 := X1.out.c5; have xlt := X1.out.lt)
    | (go_at_call 10; refine (few_any A n c l _ _ HZ.out H1.out HF.out).mono ?_; rintro e w2 ⟨rfl, rfl⟩))
  have K1 := Lib.hid (fun w9 (h9 : Below w1.heap.size w1 w9) => entries_any A n c l w9 (by omega) (H1.out.below h9))
  have K2 := Lib.hid (fun A9 c9 w9 (h9 : Ens w9 A9 n c9 l) => add_at A9 n c9 l S m k v t p N M 0 w9 (by omega) (by omega) h9 HAE.out HAL.out HAN.out)
  have HV : Hid (Below w1.heap.size w1 w1.drew) := Lib.hid (Below.refl _ _).drew
  clear x0 x1 x2 x3 x4 x5 xlt
  go_region_held3 (fun w9 => Below w1.heap.size w1 w9 ∧ w9.cell? ⟨w.heap.size, 0, none⟩ = some (.string S) ∧ w9.cell? ⟨w.heap.size, 1, none⟩ = some (.bool m) ∧ w9.cell? ⟨w.heap.size, 2, none⟩ = some (.int .i64 k) ∧ w9.cell? ⟨w.heap.size, 3, none⟩ = some (.int .i64 v) ∧ w9.cell? ⟨w.heap.size, 4, none⟩ = some (.int .i64 t) ∧ w9.cell? ⟨w.heap.size, 5, none⟩ = some (.int .i64 p)) (first | assumption | exact sixB X1.out HV.out)
    (first
      | (go_at_call 12; (with_reducible refine (K1.out _ HV.out).mono ?_); rintro e w2 ⟨A2, c2, rfl, ho2⟩; have HV := Lib.hid (below_then HV.out ho2.below); have H2 := Lib.hid ho2.ens; clear ho2)
      | (go_at_call 15; refine (entry_is _ _ _ _ _ _ _).mono ?_; rintro e w3 ⟨rfl, hb3⟩; have HV := Lib.hid (below_then HV.out hb3); have H3 := Lib.hid (H2.out.below hb3); clear hb3)
      | (go_at_call 14; (with_reducible refine (K2.out _ _ _ H3.out).mono ?_); rintro e w4 ⟨A4, c4, rfl, h4, hb4⟩; have HV := Lib.hid (below_then HV.out hb4); have H4 := Lib.hid h4; clear h4 hb4))
  clear K1 K2
  have HB4 := Lib.hid (below_then HB1.out HV.out)
  have X4 := Lib.hid (X1.out.keep HV.out)
  have x0 := X4.out.c0
  have x1 := X4.out.c1
  have x2 := X4.out.c2
  have x3 := X4.out.c3
  have x4 := X4.out.c4
  have x5 := X4.out.c5
  have xlt := X4.out.lt
  obtain ⟨hcut, hh⟩ := H4.out.head etD n hN
  rw [HMT.out] at hh
  have HH := Lib.hid hh
  clear hh
  have K3 := Lib.hid (fun w9 (h9 : Below w4.heap.size w4 w9) => find_at A4 N c4 M S (n : Int) true w9 (by omega) (by omega) (H4.out.below h9) F1.out F2.out)
  have K4 := Lib.hid (fun w9 (h9 : Below w4.heap.size w4 w9) => find_at A4 N c4 M R j is w9 (by omega) (by omega) (H4.out.below h9) F3.out F4.out)
  have HV4 := Lib.hid (Below.refl w4.heap.size w4)
  have H14 := Lib.hid (H1.out.below HV.out)
  go_upto_region 12 with (first
    | (go_at_call 11; (with_reducible refine (K3.out _ HV4.out).mono ?_); rintro e w5 ⟨rfl, hb5⟩; have HV4 := Lib.hid (below_then HV4.out hb5); clear hb5)
    | (go_at_call 11; (with_reducible refine (K4.out _ HV4.out).mono ?_); rintro e w6 ⟨rfl, hb6⟩; have HV4 := Lib.hid (below_then HV4.out hb6); clear hb6)
    | (go_at_call 12; refine (entries_any A n c l _ (by omega) (H14.out.below HV4.out)).mono ?_; rintro e w7 ⟨A7, c7, rfl, ho7⟩; have HV4 := Lib.hid (below_then HV4.out ho7.below); have H7 := Lib.hid ho7.ens; clear ho7)
    | (go_at_call 11; (with_reducible refine (find_at A7 n c7 l R q was _ (by omega) (by omega) H7.out F5.out F6.out).mono ?_); rintro e w8 ⟨rfl, hb8⟩; have HV4 := Lib.hid (below_then HV4.out hb8); clear hb8)
    | (go_at_call 22; refine (words_any A4 n c4 l _ (by omega) (HH.out.below HV4.out)).mono ?_; rintro e w5 ⟨A9, c9, rfl, ho9⟩; have HV4 := Lib.hid (below_then HV4.out ho9.below); have H9 := Lib.hid ho9.ens; clear ho9)
    | (go_at_call 21; refine (sameE_any A9 A n c9 n c l l true _ (by omega) (by omega) H9.out (H14.out.below HV4.out) ⟨fun _ => rfl, fun _ => rfl⟩).mono ?_; rintro e w10 ⟨rfl, hb10⟩; have HV4 := Lib.hid (below_then HV4.out hb10); clear hb10))
  have HV5 : Hid (Below w10.heap.size w10 w10.drew) := Lib.hid (Below.refl _ _).drew
  have X10 := Lib.hid (X4.out.keep HV4.out)
  have HB10 := Lib.hid (below_then HB4.out HV4.out)
  have xlt2 := X10.out.lt
  clear K3 K4 x0 x1 x2 x3 x4 x5 xlt
  go_region_held3 (fun w9 => Below w10.heap.size w10 w9 ∧ w9.cell? ⟨w.heap.size, 0, none⟩ = some (.string S)) (first | assumption | exact ⟨HV5.out, (X10.out.keep HV5.out).c0⟩)
    (first
      | (go_at_call 31; (with_reducible refine (upperS_is R U (by omega) HU.out _).mono ?_); rintro e w11 ⟨rfl, hb11⟩; have HV5 := Lib.hid (below_then HV5.out hb11); clear hb11)
      | (go_at_call 31; (with_reducible refine (upperS_is S T (by omega) HT.out _).mono ?_); rintro e w12 ⟨rfl, hb12⟩; have HV5 := Lib.hid (below_then HV5.out hb12); clear hb12))
  cases hb : nEq U T
  · obtain ⟨rfl, hj⟩ := GF.out hb
    have g := nEq_toL hb
    simp only [g]
    clear GT GF hb g
    cases was
    · clear hj
      go_wp2
      go_ret
      exact ⟨rfl, below_then HB10.out HV5.out⟩
    · obtain rfl := hj rfl
      go_wp2
      go_ret
      exact ⟨rfl, below_then HB10.out HV5.out⟩
  · obtain ⟨rfl, rfl⟩ := GT.out hb
    have g := nEq_toL hb
    simp only [g]
    clear GT GF hb g
    go_wp2
    go_ret
    exact ⟨rfl, below_then HB10.out HV5.out⟩

theorem dG_app (l : List En) (x : En) (U : ByteArray) (n : Nat) (h : n ≤ l.length) : dG (l ++ [x]) U n = dG l U n := by
  induction n with
  | zero => rfl
  | succ n ih =>
    have e : (l ++ [x]).getD n e0 = l.getD n e0 := by simp [List.getD, List.getElem?_append_left (show n < l.length by omega)]
    unfold dG
    rw [e, ih (by omega)]
theorem dF_app (l : List En) (x : En) (R : ByteArray) (h : R.size ≠ 0) : dF (l ++ [x]) R = if nEq x.s (up R) then some l.length else dF l R := by
  unfold dF
  rw [if_neg h, if_neg h, List.length_append, List.length_singleton]
  have e : (l ++ [x]).getD l.length e0 = x := by simp [List.getD]
  have : dG (l ++ [x]) (up R) (l.length + 1) = if nEq x.s (up R) then some l.length else dG (l ++ [x]) (up R) l.length := by
    rw [dG, e]
  rw [this, dG_app l x (up R) l.length (Nat.le_refl _)]
theorem nEq_comm (S T : ByteArray) : nEq S T = nEq T S := by
  rw [Bool.eq_iff_iff, nEq_iff, nEq_iff]; exact eq_comm
theorem finds_any (A : Option Addr) (n c : Nat) (l : List En) (S : ByteArray) (m : Bool) (k v t p : Int) (R : ByteArray) (w : World) (hz : n ≤ 9223372036854775807) (h : Ens w A n c l) :
    Calls Try.prog 5 #[.slice A n c, .agg #[.string S, .bool m, .int .i64 k, .int .i64 v, .int .i64 t, .int .i64 p], .string R] w fun e w' => e = .returned (.bool true) ∧ Below w.heap.size w w' := by
  cases hf : fewB l
  · exact finds_few A n c l S m k v t p R w hz h hf
  · by_cases hr : 100 < R.size
    · exact finds_text A n c l S m k v t p R w hz h hf hr
    · by_cases hs : 100 < S.size
      · exact finds_long A n c l S m k v t p R w hz h hf (by omega) hs
      · have hl := h.len
        have hn := few_len hf
        by_cases hE : adE l ⟨S, m, k, v, t, p⟩ = 0
        · have hM := adL_yes hE
          have hb : nmB S = true := by
            cases hb : nmB S
            · rw [ad_bad (e := ⟨S, m, k, v, t, p⟩) hb] at hE; omega
            · rfl
          have hb2 : 1 ≤ S.size ∧ S.size ≤ 31 := by unfold nmB at hb; simpa using hb
          have hS : dF (l ++ [aU ⟨S, m, k, v, t, p⟩]) S = some n := by
            rw [dF_app _ _ _ (by omega)]; show (if nEq (up S) (up S) = true then some l.length else dF l S) = some n; rw [if_pos (nEq_self _), hl]
          refine finds_ok A n c l S m k v t p R (n + 1) (l ++ [aU ⟨S, m, k, v, t, p⟩]) (up S) (up R) _ _ _ _ w hz h hf (by omega) (by omega) (by omega) (Lib.hid hE) (Lib.hid hM) (Lib.hid (by simp [hl])) (Lib.hid (by rw [← hl]; simp)) (by simp) (by omega) (by omega)
            (Lib.hid (by rw [hS]; rfl)) (Lib.hid (by rw [hS]; rfl)) (Lib.hid rfl) (Lib.hid rfl) (Lib.hid rfl) (Lib.hid rfl) (Lib.hid rfl) (Lib.hid rfl) (Lib.hid fun hU => ?_) (Lib.hid fun hU => ?_)
          · have hRS : up R = up S := nEq_iff.1 hU
            have hR0 : R.size ≠ 0 := by rw [← up_size R, hRS, up_size]; omega
            have e1 : dF (l ++ [aU ⟨S, m, k, v, t, p⟩]) R = some n := by
              rw [dF_app _ _ _ hR0]
              show (if nEq (up S) (up R) = true then some l.length else dF l R) = some n
              rw [if_pos (by rw [nEq_comm]; exact hU), hl]
            rw [e1]
            exact ⟨rfl, rfl⟩
          · by_cases hR0 : R.size = 0
            · have e1 : ∀ L, dF L R = none := fun L => by unfold dF; rw [if_pos hR0]
              rw [e1, e1]
              exact ⟨rfl, fun _ => rfl⟩
            · have e1 : dF (l ++ [aU ⟨S, m, k, v, t, p⟩]) R = dF l R := by
                rw [dF_app _ _ _ hR0]
                show (if nEq (up S) (up R) = true then some l.length else dF l R) = dF l R
                rw [if_neg (by rw [nEq_comm, hU]; decide)]
              rw [e1]
              exact ⟨rfl, fun _ => rfl⟩
        · have hM := adL_no hE
          exact finds_no A n c l S m k v t p R (adE l ⟨S, m, k, v, t, p⟩) w hz h hf (by omega) (by omega) (by omega) (Lib.hid rfl) (Lib.hid hM) (Lib.hid hl) (by simpa using hE)
end Go.Proofs.Ytkpomphjicoaeaa
