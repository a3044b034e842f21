/-
  What the document's own calls of layer 10 answer: divide, Digit (tenterhookref10), and Sign (tenterhookref05).
-/
import Derived.Test.YticeeckahdjjmaaRef10Calls
import Derived.Test.YticeeckahdjjmaaPicDigit
import Derived.Test.YticeeckahdjjmaaPicUMod
namespace Go.Proofs.Yticeeckahdjjmaa
open Go.RowKit

theorem rumod_is (x u lo hi r q : Int) (hu : InC u) (h1 : dLo x = lo) (h2 : dHi x = hi) (h3 : uR x u = r) (h4 : uQ x u = q) (w : World) :
    Calls Try.prog 50 #[.agg #[.int .i64 lo, .int .i64 hi], .int .i64 u] w fun e w' => (∃ t, e = .returned (.tuple #[.int .i64 r, .int .i64 q, .int .i64 t])) ∧ Keeps w w' := by
  subst h1; subst h2; subst h3; subst h4
  exact (rumod_any x u hu w).mono fun _ _ h => ⟨⟨_, h.1⟩, h.2⟩
theorem ret_di {a a' l l' h h' : Int} (e1 : a = a') (e2 : l = l') (e3 : h = h') : Ending.returned (.tuple #[.agg #[.int .i64 l, .int .i64 h], .int .i64 a]) = .returned (.tuple #[.agg #[.int .i64 l', .int .i64 h'], .int .i64 a']) := by rw [e1, e2, e3]
set_option maxHeartbeats 400000 in
theorem rpdivide_any (u b : Int) (h0 : 0 ≤ u) (h1 : u < 340282366920938463463374607431768211456) (hb : baB b = true) (w : World) :
    Calls Try.prog 35 #[.agg #[.int .i64 (dLo u), .int .i64 (dHi u)], .int .i64 b] w fun e w' => e = .returned (.tuple #[.agg #[.int .i64 (dLo (u / b)), .int .i64 (dHi (u / b))], .int .i64 (u % b)]) ∧ Keeps w w' := by
  have hb2 := baB_iff.1 hb
  have hbc : InC b := by unfold InC; omega
  have HA := Lib.hid (div_one u b h0 h1 hb2)
  have HB := Lib.hid (div_two u b hb2)
  clear hb hb2 h0 h1
  go_enter Try.func35, Try.ntmps35
  go_wp2_with (first
    | (go_at_call 50; have hw1' := hw1; refine (rumod_is (u % 18446744073709551616 + 18446744073709551616 * (u / 18446744073709551616 % b)) b _ _ _ _ hbc HB.out.1 HB.out.2.1 HB.out.2.2.1 HB.out.2.2.2.1 _).mono ?_; rintro e w2 ⟨⟨t2, rfl⟩, hw2⟩; obtain ⟨c0, c1, f0, f1⟩ := resK (hw1'.trans hw2) (R := w.heap.size + 1) (by simp) ⟨by simp [go_sem]; rfl, by simp [go_sem]; rfl, by simp [go_sem], by simp [go_sem]⟩)
    | (go_at_call 50; refine (rumod_is (u / 18446744073709551616) b _ _ _ _ hbc HA.out.1 HA.out.2.1 HA.out.2.2.1 HA.out.2.2.2 _).mono ?_; rintro e w1 ⟨⟨t1, rfl⟩, hw1⟩; obtain ⟨d0, d1, g0, g1⟩ := resK hw1 (R := w.heap.size) (by simp; omega) ⟨by simp [go_sem]; rfl, by simp [go_sem]; rfl, by simp [go_sem], by simp [go_sem]⟩; have z1 : w.heap.size + 1 < w1.heap.size := (by have := hw1.size; simp at this; omega); have z0 : w.heap.size < w1.heap.size := (by have := hw1.size; simp at this; omega)))
  refine bodyPost_ret (v := .tuple #[.agg #[.int .i64 (dLo (u / b)), .int .i64 (wrap64 (u / 18446744073709551616 / b))], .int .i64 (u % b)]) (by simp [results, Try.results35, go_sem, c0, c1]) rfl ⟨ret_di rfl rfl HB.out.2.2.2.2, ?_⟩
  exact ((((((Keeps.refl w).alloc _).alloc _).trans hw1).trans hw2).setCell (by simp) _).setCell (by simp) _
theorem rpdivide_is (q b r k : Nat) (hq : q < 340282366920938463463374607431768211456) (h2 : 2 ≤ b) (h36 : b ≤ 36) (hr : q % b = r) (hk : q / b = k) (w : World) :
    Calls Try.prog 35 #[.agg #[.int .i64 (dLo q), .int .i64 (dHi q)], .int .i64 (b : Int)] w fun e w' => e = .returned (.tuple #[.agg #[.int .i64 (dLo k), .int .i64 (dHi k)], .int .i64 (r : Int)]) ∧ Keeps w w' := by
  subst hr; subst hk
  have h := rpdivide_any q b (by omega) (by omega) (baB_iff.2 (by omega)) w
  rw [Int.natCast_emod, Int.natCast_ediv]
  exact h
theorem rsign_any (v : Int) (w : World) :
    Calls Try.prog 36 #[.int .i64 v] w fun e w' => e = .returned (.string ⟨(sgL v).toArray⟩) ∧ w = w' := by
  by_cases h0 : v < 0
  · go_enter Try.func36, Try.ntmps36
    go_wp2
    go_ret
    exact ⟨ret_str (by unfold sgL; rw [if_neg (by omega)]), rfl⟩
  · by_cases h1 : 35 < v
    · go_enter Try.func36, Try.ntmps36
      go_wp2
      go_ret
      exact ⟨ret_str (by unfold sgL; rw [if_neg (by omega)]), rfl⟩
    · obtain ⟨n, rfl⟩ : ∃ n : Nat, v = n := ⟨v.toNat, by omega⟩
      have hs := sgn_cut ⟨n, by omega⟩
      have HS := Lib.hid hs
      clear hs
      go_enter Try.func36, Try.ntmps36
      go_wp2
      go_ret
      refine ⟨ret_str ?_, rfl⟩
      unfold sgL; rw [if_pos (by omega)]
      exact HS.out
theorem rsign_is (v : Int) (S : ByteArray) (h : S = ⟨(sgL v).toArray⟩) (w : World) :
    Calls Try.prog 36 #[.int .i64 v] w fun e w' => e = .returned (.string S) ∧ w = w' := h ▸ rsign_any v w
section
variable (A : Option Addr) (n c : Nat) (l : List UInt8) (w : World)
set_option maxHeartbeats 400000 in
theorem rpdigit_base (u : Int) (q : Nat) (hn : n ≤ 1000000) (hm : Mem w A n c l) (h0 : ¬ bE l u = 0) :
    Calls Try.prog 13 #[.slice A n c, .int .i64 u, .agg #[.int .i64 (dLo q), .int .i64 (dHi q)]] w (DigPost w n l 0 (bE l u)) := by
  obtain ⟨t, ht⟩ : ∃ t, bE l u = t := ⟨_, rfl⟩
  obtain ⟨x, hx⟩ : ∃ x, bX l u = x := ⟨_, rfl⟩
  have hz : (t != 0) = true := by rw [← ht]; simpa using h0
  rw [ht]
  have HM := Lib.hid hm
  have HT := Lib.hid ht
  have HX := Lib.hid hx
  clear hm ht hx h0
  go_enter Try.func13, Try.ntmps13
  go_wp2_with (go_at_call 21; refine (rpbase_is A n c l _ u x t hn (HM.out.keeps (((Keeps.refl w).alloc _).alloc _)) HX.out HT.out).mono ?_; rintro e w' ⟨rfl, rfl⟩)
  refine bodyPost_ret (v := .tuple #[.slice A n c, .agg #[.int .i64 0, .int .i64 0], .int .i64 t]) (by simp [results, Try.results13, go_sem]) rfl ⟨_, _, ret_mdt dLo_0.symm dHi_0.symm, ?_, ?_⟩
  · exact HM.out.keeps (((Keeps.refl w).alloc _).alloc _)
  · exact ((Keeps.refl w).alloc _).alloc _
set_option maxHeartbeats 1000000 in
theorem rpdigit_hold (u : Int) (q b r k : Nat) (te : Int) (l' : List UInt8) (hq : q < 340282366920938463463374607431768211456) (hn : n ≤ 1000000) (hm : Mem w A n c l) (h0 : bE l u = 0) (hb : bX l u = (b : Int)) (h2 : 2 ≤ b) (h36 : b ≤ 36)
    (hr : q % b = r) (hk : q / b = k) (ht : hE l u = te) (hl : hL l u ((sgn r).toNat : Int) = l') (hz : (te != 0) = true) :
    Calls Try.prog 13 #[.slice A n c, .int .i64 u, .agg #[.int .i64 (dLo q), .int .i64 (dHi q)]] w (DigPost w n l 0 te) := by
  have hrb : r < b := by rw [← hr]; exact Nat.mod_lt _ (by omega)
  have HD := Lib.hid (rpdivide_is q b r k hq h2 h36 hr hk)
  obtain ⟨S, hS⟩ : ∃ S : ByteArray, S = ⟨(sgL (r : Int)).toArray⟩ := ⟨_, rfl⟩
  have HS := Lib.hid hS
  rw [sgL_nat (by omega)] at hS
  have hz1 : S.size = 1 := by rw [hS]; rfl
  have hz2 : 0 < S.size := by omega
  have hz3 : ∀ k, S[(0 : Nat)]'k = sgn r := by intro k; subst hS; rfl
  have hv := u8_lt (sgn r)
  have v0 : (0 : Int) ≤ ((sgn r).toNat : Int) := by omega
  have v1 : ((sgn r).toNat : Int) ≤ 255 := by omega
  have HM := Lib.hid hm
  have H0 := Lib.hid h0
  have HX := Lib.hid hb
  have HT := Lib.hid ht
  have HL := Lib.hid hl
  clear hm h0 hb hr hk ht hl hS hrb hq
  go_enter Try.func13, Try.ntmps13
  go_wp2_with (first
    | (go_at_call 21; refine (rpbase_is A n c l _ u b 0 hn (HM.out.keeps (((Keeps.refl w).alloc _).alloc _)) HX.out H0.out).mono ?_; rintro e w' ⟨rfl, rfl⟩)
    | (go_at_call 35; refine (HD.out _).mono ?_; rintro e w1 ⟨rfl, hw1⟩)
    | (go_at_call 36; refine (rsign_is _ S HS.out _).mono ?_; rintro e w' ⟨rfl, rfl⟩)
    | (go_at_call 11; refine (rphold_is A n c l _ u _ te l' hn (HM.out.keeps (((((Keeps.refl w).alloc _).alloc _).trans hw1).alloc _)) HT.out HL.out).mono ?_; rintro e w2 ⟨A2, c2, rfl, hm2, hw2⟩; have H2 := Lib.hid hm2; clear hm2; have KW := (((((Keeps.refl w).alloc _).alloc _).trans hw1).alloc _).trans hw2; obtain ⟨c0, c1, f0, f1⟩ := resK ((hw1.alloc _).trans hw2) (R := w.heap.size + 1) (by simp) ⟨by simp [go_sem]; rfl, by simp [go_sem]; rfl, by simp [go_sem], by simp [go_sem]⟩; obtain ⟨d0, d1, g0, g1⟩ := resK hw2 (R := w1.heap.size) (by simp) ⟨by simp [go_sem]; rfl, by simp [go_sem]; rfl, by simp [go_sem], by simp [go_sem]⟩))
  refine bodyPost_ret (v := .tuple #[.slice A n c, .agg #[.int .i64 0, .int .i64 0], .int .i64 te]) (by simp [results, Try.results13, go_sem, c0, c1]) rfl ⟨_, _, ret_mdt dLo_0.symm dHi_0.symm, ?_, ?_⟩
  · exact HM.out.keeps ((KW.setCell (by simp) _).setCell (by simp) _)
  · exact (KW.setCell (by simp) _).setCell (by simp) _
set_option maxHeartbeats 1000000 in
theorem rpdigit_yes (u : Int) (q b r k : Nat) (l' : List UInt8) (hq : q < 340282366920938463463374607431768211456) (hn : n ≤ 1000000) (hm : Mem w A n c l) (h0 : bE l u = 0) (hb : bX l u = (b : Int)) (h2 : 2 ≤ b) (h36 : b ≤ 36)
    (hr : q % b = r) (hk : q / b = k) (ht : hE l u = 0) (hl : hL l u ((sgn r).toNat : Int) = l') :
    Calls Try.prog 13 #[.slice A n c, .int .i64 u, .agg #[.int .i64 (dLo q), .int .i64 (dHi q)]] w (DigPost w n l' k 0) := by
  have hrb : r < b := by rw [← hr]; exact Nat.mod_lt _ (by omega)
  have HD := Lib.hid (rpdivide_is q b r k hq h2 h36 hr hk)
  obtain ⟨S, hS⟩ : ∃ S : ByteArray, S = ⟨(sgL (r : Int)).toArray⟩ := ⟨_, rfl⟩
  have HS := Lib.hid hS
  rw [sgL_nat (by omega)] at hS
  have hz1 : S.size = 1 := by rw [hS]; rfl
  have hz2 : 0 < S.size := by omega
  have hz3 : ∀ k, S[(0 : Nat)]'k = sgn r := by intro k; subst hS; rfl
  have hv := u8_lt (sgn r)
  have v0 : (0 : Int) ≤ ((sgn r).toNat : Int) := by omega
  have v1 : ((sgn r).toNat : Int) ≤ 255 := by omega
  have HM := Lib.hid hm
  have H0 := Lib.hid h0
  have HX := Lib.hid hb
  have HT := Lib.hid ht
  have HL := Lib.hid hl
  clear hm h0 hb hr hk ht hl hS hrb hq
  go_enter Try.func13, Try.ntmps13
  go_wp2_with (first
    | (go_at_call 21; refine (rpbase_is A n c l _ u b 0 hn (HM.out.keeps (((Keeps.refl w).alloc _).alloc _)) HX.out H0.out).mono ?_; rintro e w' ⟨rfl, rfl⟩)
    | (go_at_call 35; refine (HD.out _).mono ?_; rintro e w1 ⟨rfl, hw1⟩)
    | (go_at_call 36; refine (rsign_is _ S HS.out _).mono ?_; rintro e w' ⟨rfl, rfl⟩)
    | (go_at_call 11; refine (rphold_is A n c l _ u _ 0 l' hn (HM.out.keeps (((((Keeps.refl w).alloc _).alloc _).trans hw1).alloc _)) HT.out HL.out).mono ?_; rintro e w2 ⟨A2, c2, rfl, hm2, hw2⟩; have H2 := Lib.hid hm2; clear hm2; have hB2 := ((hw1.alloc _).trans hw2).block (w.heap.size + 1) (by simp); have KW := (((((Keeps.refl w).alloc _).alloc _).trans hw1).alloc _).trans hw2; obtain ⟨c0, c1, f0, f1⟩ := resK ((hw1.alloc _).trans hw2) (R := w.heap.size + 1) (by simp) ⟨by simp [go_sem]; rfl, by simp [go_sem]; rfl, by simp [go_sem], by simp [go_sem]⟩; obtain ⟨d0, d1, g0, g1⟩ := resK hw2 (R := w1.heap.size) (by simp) ⟨by simp [go_sem]; rfl, by simp [go_sem]; rfl, by simp [go_sem], by simp [go_sem]⟩))
  go_region
  all_goals
    go_wp2
    refine bodyPost_ret (v := .tuple #[.slice A2 n c2, .agg #[.int .i64 (dLo k), .int .i64 (dHi k)], .int .i64 0]) (by simp [results, Try.results13, go_sem, c0, c1]) rfl ⟨_, _, rfl, ?_, ?_⟩
    · have hoff := Mem.off H2.out (hB2.trans (new_two _ _ _))
      exact ((H2.out.set hoff _).set hoff _).drew
    · exact ((KW.setCell (by simp) _).setCell (by simp) _).drew
theorem rpdigit_any (u : Int) (q : Nat) (hq : q < 340282366920938463463374607431768211456) (hn : n ≤ 1000000) (hm : Mem w A n c l) :
    Calls Try.prog 13 #[.slice A n c, .int .i64 u, .agg #[.int .i64 (dLo q), .int .i64 (dHi q)]] w (DigPost w n (dL l u q) (dQ l u q) (dE l u)) := by
  by_cases h0 : bE l u = 0
  · obtain ⟨_, b2, b36, hbx⟩ := bE_ok h0
    obtain ⟨b, hb⟩ : ∃ b : Nat, bX l u = (b : Int) := ⟨(bX l u).toNat, by omega⟩
    have hbn : (bX l u).toNat = b := by omega
    by_cases h1 : hE l u = 0
    · have e1 : dE l u = 0 := by unfold dE; rw [if_pos h0, h1]
      have e2 : dL l u q = hL l u ((sgn (q % b)).toNat : Int) := by unfold dL; rw [if_pos e1, hbn]
      have e3 : dQ l u q = q / b := by unfold dQ; rw [if_pos e1, hbn]
      rw [e1, e2, e3]
      exact rpdigit_yes A n c l w u q b _ _ _ hq hn hm h0 hb (by omega) (by omega) rfl rfl h1 rfl
    · have e1 : dE l u = hE l u := by unfold dE; rw [if_pos h0]
      have e2 : dL l u q = l := by unfold dL; rw [if_neg (by rw [e1]; exact h1)]
      have e3 : dQ l u q = 0 := by unfold dQ; rw [if_neg (by rw [e1]; exact h1)]
      rw [e1, e2, e3]
      exact rpdigit_hold A n c l w u q b _ _ _ _ hq hn hm h0 hb (by omega) (by omega) rfl rfl rfl rfl (by simpa using h1)
  · have e1 : dE l u = bE l u := by unfold dE; rw [if_neg h0]
    have e2 : dL l u q = l := by unfold dL; rw [if_neg (by rw [e1]; exact h0)]
    have e3 : dQ l u q = 0 := by unfold dQ; rw [if_neg (by rw [e1]; exact h0)]
    rw [e1, e2, e3]
    exact rpdigit_base A n c l w u q hn hm h0
theorem rpdigit_is (u lo hi t : Int) (q k : Nat) (l' : List UInt8) (lo' hi' : Int) (h1 : dLo q = lo) (h2 : dHi q = hi) (ht : dE l u = t) (hl : dL l u q = l') (hk : dQ l u q = k) (k1 : dLo k = lo') (k2 : dHi k = hi') (hq : q < 340282366920938463463374607431768211456) (hn : n ≤ 1000000) (hm : Mem w A n c l) :
    Calls Try.prog 13 #[.slice A n c, .int .i64 u, .agg #[.int .i64 lo, .int .i64 hi]] w fun e w' => ∃ A' c', e = .returned (.tuple #[.slice A' n c', .agg #[.int .i64 lo', .int .i64 hi'], .int .i64 t]) ∧ Mem w' A' n c' l' ∧ Keeps w w' := by
  subst h1 h2 ht hl hk k1 k2; exact rpdigit_any A n c l w u q hq hn hm
end
end Go.Proofs.Yticeeckahdjjmaa
