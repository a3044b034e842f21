/-
  What the document's own calls of layer 10 answer (tenterhookref10: there, Base, Begin, Hold, Sign, End): the same as the calls of package pic.
-/
import Derived.Test.YticeeckahdjjmaaRef03Calls
namespace Go.Proofs.Yticeeckahdjjmaa
open Go.RowKit

theorem rpthere_any (u : Int) (w : World) :
    Calls Try.prog 27 #[.int .i64 u] w fun e w' => e = .returned (.bool (pcT u)) ∧ w = w' := by
  have HB : Hid (pcT u = (decide (0 ≤ u) && decide (u ≤ 5120))) := Lib.hid (by unfold pcT; rw [Bool.decide_and])
  by_cases h1 : 0 ≤ u <;> by_cases h2 : u ≤ 5120
  all_goals
    go_enter Try.func27, Try.ntmps27
    go_wp2
    go_ret
    exact ⟨by rw [HB.out]; simp [h1, h2], rfl⟩
theorem rpthere_is (u : Int) (v : Bool) (h : pcT u = v) (w : World) :
    Calls Try.prog 27 #[.int .i64 u] w fun e w' => e = .returned (.bool v) ∧ w = w' := h ▸ rpthere_any u w
/-- How a cell of a user's area may be told. -/
theorem own_cases (l : List UInt8) (u : Int) (k : Nat) (hk : k ≤ 8) :
    (pcT u = false ∧ oE l.length u k = -9 ∧ oX l u k = 0) ∨
    (∃ t a : Int, pcT u = true ∧ oE l.length u k = t ∧ t ≠ 0 ∧ oX l u k = 0 ∧ wrap64 (u + (k : Int)) = a ∧ u + (k : Int) = a ∧ InC a ∧ mE l.length a = t) ∨
    (∃ (i j : Nat) (a x : Int), pcT u = true ∧ oE l.length u k = 0 ∧ u = (i : Int) ∧ i ≤ 5120 ∧ i + k = j ∧ j + 8 ≤ l.length ∧ wrap64 (u + (k : Int)) = a ∧ a = (j : Int) ∧ mE l.length (j : Int) = 0 ∧ mC (mT l j 8) = x ∧ oX l u k = x) := by
  by_cases h0 : oE l.length u k = 0
  · obtain ⟨i, hi, hi5, hin, hin2, hmE⟩ := oE_at h0
    refine Or.inr (Or.inr ⟨i, i + k, ((i + k : Nat) : Int), _, (oE_ok h0).1, h0, hi, hi5, rfl, hin, ?_, rfl, hmE, rfl, ?_⟩)
    · unfold wrap64; omega
    · unfold oX; rw [if_pos h0, hin2]
  · have hx0 : oX l u k = 0 := by unfold oX; rw [if_neg h0]
    cases ht : pcT u with
    | false => exact Or.inl ⟨rfl, by unfold oE; rw [ht]; rfl, hx0⟩
    | true =>
      have h3 := pcT_iff.1 ht
      refine Or.inr (Or.inl ⟨_, u + (k : Int), rfl, rfl, h0, hx0, ?_, rfl, ?_, ?_⟩)
      · unfold wrap64; omega
      · unfold InC; omega
      · unfold oE; rw [ht]; rfl
section
variable (A : Option Addr) (n c : Nat) (l : List UInt8) (w : World)
set_option maxHeartbeats 400000 in
theorem rpbase_any (u : Int) (hn : n ≤ 1000000) (hm : Mem w A n c l) :
    Calls Try.prog 21 #[.slice A n c, .int .i64 u] w fun e w' => e = .returned (.tuple #[.int .i64 (bX l u), .int .i64 (bE l u)]) ∧ w = w' := by
  obtain rfl : l.length = n := hm.len
  have HM := Lib.hid hm
  rcases own_cases l u 0 (by omega) with ⟨ht, h0, hx⟩ | ⟨t, a, ht, h0, hne, hx, _, ha, hc, hE⟩ | ⟨i, j, a, x, ht, h0, hu, hi, hj, hjl, ha, haj, hE, hmx, hx⟩
  · have hb : bE l u = -9 := by unfold bE; simp only [Int.natCast_zero] at h0; rw [if_neg (by rw [h0]; decide), h0]
    have hbx : bX l u = 0 := by unfold bX; rw [hb]; rfl
    have HT := Lib.hid ht
    rw [hb, hbx]
    clear hm hb hbx h0 hx ht
    go_enter Try.func21, Try.ntmps21
    go_wp2_with (go_at_call 27; refine (rpthere_is u false HT.out _).mono ?_; rintro e w' ⟨rfl, rfl⟩)
    go_ret2
    exact ⟨rfl, rfl⟩
  · simp only [Int.natCast_zero, Int.add_zero] at h0 ha
    have hb : bE l u = t := by unfold bE; rw [if_neg (by rw [h0]; exact hne), h0]
    have hbx : bX l u = 0 := by unfold bX; rw [hb, if_neg hne]
    have hz : (t != 0) = true := by simpa using hne
    have HT := Lib.hid ht
    have HE : Hid (mE l.length u = t) := Lib.hid (by rw [ha]; exact hE)
    have hcu : InC u := by rw [ha]; exact hc
    rw [hb, hbx]
    clear hm hb hbx h0 hx ht hne ha hE hc
    go_enter Try.func21, Try.ntmps21
    go_wp2_with (first
      | (go_at_call 27; refine (rpthere_is u true HT.out _).mono ?_; rintro e w' ⟨rfl, rfl⟩)
      | (go_at_call 31; refine (r3get_bad A l.length c _ u t hn hcu HE.out hz).mono ?_; rintro e w' ⟨rfl, rfl⟩))
    go_ret2
    exact ⟨rfl, rfl⟩
  · simp only [Int.natCast_zero] at h0 hx
    have HT := Lib.hid ht
    have HE := Lib.hid hE
    have HU : Hid (u = (j : Int)) := Lib.hid (by omega)
    have HX := Lib.hid hmx
    by_cases h2 : 2 ≤ x ∧ x ≤ 36
    · have hb : bE l u = 0 := by unfold bE; rw [if_pos h0, hx, if_pos h2]
      have hbx : bX l u = x := by unfold bX; rw [if_pos hb, hx]
      rw [hb, hbx]
      have d1 : decide (x < 2) = false := decide_eq_false (by omega)
      have d2 : decide (36 < x) = false := decide_eq_false (by omega)
      clear hm hb hbx h0 hx ht hE hu hi hj hjl ha haj hmx h2
      go_enter Try.func21, Try.ntmps21
      go_wp2_with (first
        | (go_at_call 27; refine (rpthere_is u true HT.out _).mono ?_; rintro e w' ⟨rfl, rfl⟩)
        | (go_at_call 31; refine (r3get_good A l.length c l _ u j x hn HM.out HU.out HE.out HX.out).mono ?_; rintro e w' ⟨rfl, rfl⟩))
      go_ret2
      exact ⟨rfl, rfl⟩
    · have hb : bE l u = -24 := by unfold bE; rw [if_pos h0, hx, if_neg h2]
      have hbx : bX l u = 0 := by unfold bX; rw [hb]; rfl
      rw [hb, hbx]
      have h2' : x < 2 ∨ (¬ x < 2 ∧ 36 < x) := by omega
      clear hm hb hbx h0 hx ht hE hu hi hj hjl ha haj hmx h2
      rcases h2' with d1 | ⟨d1, d2⟩
      all_goals
        go_enter Try.func21, Try.ntmps21
        go_wp2_with (first
          | (go_at_call 27; refine (rpthere_is u true HT.out _).mono ?_; rintro e w' ⟨rfl, rfl⟩)
          | (go_at_call 31; refine (r3get_good A l.length c l _ u j x hn HM.out HU.out HE.out HX.out).mono ?_; rintro e w' ⟨rfl, rfl⟩))
        go_ret2
        exact ⟨rfl, rfl⟩
theorem rpbase_is (u x t : Int) (hn : n ≤ 1000000) (hm : Mem w A n c l) (hx : bX l u = x) (ht : bE l u = t) :
    Calls Try.prog 21 #[.slice A n c, .int .i64 u] w fun e w' => e = .returned (.tuple #[.int .i64 x, .int .i64 t]) ∧ w = w' := by
  subst hx ht; exact rpbase_any A n c l w u hn hm
set_option maxHeartbeats 400000 in
theorem rpbegin_any (u : Int) (hn : n ≤ 1000000) (hm : Mem w A n c l) :
    Calls Try.prog 9 #[.slice A n c, .int .i64 u] w (HoldPost w n (gL l u) (oE n u 8)) := by
  obtain rfl : l.length = n := hm.len
  have HM := Lib.hid hm
  rcases own_cases l u 8 (by omega) with ⟨ht, h0, hx⟩ | ⟨t, a, ht, h0, hne, hx, hw, ha, hc, hE⟩ | ⟨i, j, a, x, ht, h0, hu, hi, hj, hjl, hw, haj, hE, hmx, hx⟩
  · have h0' : oE l.length u 8 = -9 := h0
    have hg : gL l u = l := by unfold gL; rw [if_neg (by rw [h0']; decide)]
    have HT := Lib.hid ht
    rw [hg, h0']
    clear hm hg h0 h0' hx ht
    go_enter Try.func9, Try.ntmps9
    go_wp2_with (go_at_call 27; refine (rpthere_is u false HT.out _).mono ?_; rintro e w' ⟨rfl, rfl⟩)
    go_ret2
    exact ⟨_, _, rfl, HM.out, Keeps.refl _⟩
  · have h0' : oE l.length u 8 = t := h0
    have hg : gL l u = l := by unfold gL; rw [if_neg (by rw [h0']; exact hne)]
    have hz : (t != 0) = true := by simpa using hne
    have HT := Lib.hid ht
    have HE := Lib.hid hE
    have hw' : wrap64 (u + 8) = a := hw
    rw [hg, h0']
    clear hm hg h0 h0' hx ht hne ha hE hw
    go_enter Try.func9, Try.ntmps9
    go_wp2_with (first
      | (go_at_call 27; refine (rpthere_is u true HT.out _).mono ?_; rintro e w' ⟨rfl, rfl⟩)
      | (go_at_call 28; refine (r3put_bad A l.length c _ a _ t hn hc HE.out hz).mono ?_; rintro e w' ⟨rfl, rfl⟩))
    go_ret2
    exact ⟨_, _, rfl, HM.out, Keeps.refl _⟩
  · have h0' : oE l.length u 8 = 0 := h0
    obtain ⟨b, hb⟩ : ∃ b : Int, u + 128 = b := ⟨_, rfl⟩
    have hg : gL l u = splice l j (mB b) := by unfold gL; rw [if_pos h0', show (u + 8).toNat = j by omega, hb]
    have HT := Lib.hid ht
    have HE := Lib.hid hE
    have HA := Lib.hid haj
    have hw' : wrap64 (u + 8) = a := hw
    have hw2 : wrap64 (u + 128) = b := by unfold wrap64; omega
    rw [hg, h0']
    clear hm hg h0 h0' hx ht hE hw hu hi hj hjl haj hmx hb
    go_enter Try.func9, Try.ntmps9
    go_wp2_with (first
      | (go_at_call 27; refine (rpthere_is u true HT.out _).mono ?_; rintro e w' ⟨rfl, rfl⟩)
      | (go_at_call 28; refine (r3put_good A l.length c l _ a j b _ HA.out rfl hn HM.out HE.out).mono ?_; rintro e w1 ⟨A1, c1, rfl, hm1, hk1⟩; have H1 := Lib.hid hm1; have HK := Lib.hid hk1; clear hm1 hk1))
    go_ret2
    exact ⟨_, _, rfl, H1.out, HK.out⟩
set_option maxHeartbeats 1000000 in
theorem rphold_any (u ch : Int) (hn : n ≤ 1000000) (hm : Mem w A n c l) :
    Calls Try.prog 11 #[.slice A n c, .int .i64 u, .int .i64 ch] w (HoldPost w n (hL l u ch) (hE l u)) := by
  obtain rfl : l.length = n := hm.len
  have HM := Lib.hid hm
  rcases own_cases l u 8 (by omega) with ⟨ht, h0, hx⟩ | ⟨t, a, ht, h0, hne, hx, hw, ha, hc, hE⟩ | ⟨i, j, g, x, ht, h0, hu, hi, hj, hjl, hw, haj, hE, hmx, hx⟩
  · have h0' : oE l.length u 8 = -9 := h0
    have hE0 : Go.Proofs.Yticeeckahdjjmaa.hE l u = -9 := by unfold Go.Proofs.Yticeeckahdjjmaa.hE; rw [if_neg (by rw [h0']; decide), h0']
    have hL0 : hL l u ch = l := by unfold hL; rw [hE0]; rfl
    have HT := Lib.hid ht
    rw [hE0, hL0]
    clear hm hE0 hL0 h0 h0' hx ht
    go_enter Try.func11, Try.ntmps11
    go_wp2_with (go_at_call 27; refine (rpthere_is u false HT.out _).mono ?_; rintro e w' ⟨rfl, rfl⟩)
    go_ret2
    exact ⟨_, _, rfl, HM.out, Keeps.refl _⟩
  · have h0' : oE l.length u 8 = t := h0
    have hE0 : Go.Proofs.Yticeeckahdjjmaa.hE l u = t := by unfold Go.Proofs.Yticeeckahdjjmaa.hE; rw [if_neg (by rw [h0']; exact hne), h0']
    have hL0 : hL l u ch = l := by unfold hL; rw [hE0, if_neg hne]
    have hz : (t != 0) = true := by simpa using hne
    have HT := Lib.hid ht
    have HE := Lib.hid hE
    have hw' : wrap64 (u + 8) = a := hw
    rw [hE0, hL0]
    clear hm hE0 hL0 h0 h0' hx ht hne ha hE hw
    go_enter Try.func11, Try.ntmps11
    go_wp2_with (first
      | (go_at_call 27; refine (rpthere_is u true HT.out _).mono ?_; rintro e w' ⟨rfl, rfl⟩)
      | (go_at_call 31; refine (r3get_bad A l.length c _ a t hn hc HE.out hz).mono ?_; rintro e w' ⟨rfl, rfl⟩))
    go_ret2
    exact ⟨_, _, rfl, HM.out, Keeps.refl _⟩
  · have h0' : oE l.length u 8 = 0 := h0
    have hx' : oX l u 8 = x := hx
    have HT := Lib.hid ht
    have HE := Lib.hid hE
    have HG := Lib.hid haj
    have HX := Lib.hid hmx
    have f3 : wrap64 (u + 8) = g := hw
    obtain ⟨a, ha⟩ : ∃ a : Int, u + 33 = a := ⟨_, rfl⟩
    obtain ⟨b, hb⟩ : ∃ b : Int, u + 128 = b := ⟨_, rfl⟩
    have f1 : wrap64 (u + 33) = a := by unfold wrap64; omega
    have f2 : wrap64 (u + 128) = b := by unfold wrap64; omega
    by_cases h2 : a ≤ x ∧ x ≤ b
    · have d1 : decide (x < a) = false := decide_eq_false (by omega)
      have d2 : decide (b < x) = false := decide_eq_false (by omega)
      obtain ⟨y, hy⟩ : ∃ y : Int, x - 1 = y := ⟨_, rfl⟩
      obtain ⟨m, hmy⟩ : ∃ m : Nat, y = (m : Int) := ⟨y.toNat, by omega⟩
      have f4 : wrap64 (x - 1) = y := by unfold wrap64; omega
      have HY := Lib.hid hmy
      have hyc : InC y := by unfold InC; omega
      by_cases h3 : thB l.length y 1 = true
      · have hE0 : Go.Proofs.Yticeeckahdjjmaa.hE l u = 0 := by unfold Go.Proofs.Yticeeckahdjjmaa.hE; rw [hx', if_pos h0', if_pos (by omega), hy, if_pos h3]
        have hL0 : hL l u ch = splice (splice l j (mB y)) m [b8 ch] := by unfold hL; rw [if_pos hE0, hx', hy, show (u + 8).toNat = j by omega, show y.toNat = m by omega]
        have HI : Hid (m < l.length) := Lib.hid (by obtain ⟨i', n', e1, e2, e3⟩ := thB_yes h3; omega)
        rw [hE0, hL0]
        clear hm hx hx' h0 h0' hw hu hi hj hjl haj hE hmx ha hb hy hmy hE0 hL0 h3 h2 ht
        go_enter Try.func11, Try.ntmps11
        go_wp2_with (first
          | (go_at_call 27; refine (rpthere_is u true HT.out _).mono ?_; rintro e w' ⟨rfl, rfl⟩)
          | (go_at_call 31; refine (r3get_good A l.length c l _ g j x hn HM.out HG.out HE.out HX.out).mono ?_; rintro e w' ⟨rfl, rfl⟩)
          | (go_at_call 32; refine (r3putByte_good _ l.length _ _ _ y m ch _ HY.out rfl hn H1.out HI.out).mono ?_; rintro e w2 ⟨A2, c2, rfl, hm2, hk2⟩; have H2 := Lib.hid hm2; have HK2 := Lib.hid hk2; clear hm2 hk2)
          | (go_at_call 28; refine (r3put_good A l.length c l _ g j y _ HG.out rfl hn HM.out HE.out).mono ?_; rintro e w1 ⟨A1, c1, rfl, hm1, hk1⟩; have H1 := Lib.hid hm1; have HK := Lib.hid hk1; clear hm1 hk1))
        go_ret2
        exact ⟨_, _, rfl, H2.out, HK.out.trans HK2.out⟩
      · have h3' : thB l.length y 1 = false := by simpa using h3
        have hE0 : Go.Proofs.Yticeeckahdjjmaa.hE l u = -9 := by unfold Go.Proofs.Yticeeckahdjjmaa.hE; rw [hx', if_pos h0', if_pos (by omega), hy, if_neg h3]
        have hL0 : hL l u ch = l := by unfold hL; rw [hE0]; rfl
        have HI := Lib.hid h3'
        rw [hE0, hL0]
        clear hm hx hx' h0 h0' hw hu hi hj hjl haj hE hmx ha hb hy hmy hE0 hL0 h3 h3' h2 ht
        go_enter Try.func11, Try.ntmps11
        go_wp2_with (first
          | (go_at_call 27; refine (rpthere_is u true HT.out _).mono ?_; rintro e w' ⟨rfl, rfl⟩)
          | (go_at_call 31; refine (r3get_good A l.length c l _ g j x hn HM.out HG.out HE.out HX.out).mono ?_; rintro e w' ⟨rfl, rfl⟩)
          | (go_at_call 32; refine (r3putByte_bad _ l.length _ _ y ch hn hyc HI.out).mono ?_; rintro e w2 ⟨rfl, rfl⟩)
          | (go_at_call 28; refine (r3put_good A l.length c l _ g j y _ HG.out rfl hn HM.out HE.out).mono ?_; rintro e w1 ⟨A1, c1, rfl, hm1, hk1⟩; have H1 := Lib.hid hm1; have HK := Lib.hid hk1; clear hm1 hk1))
        go_ret2
        exact ⟨_, _, rfl, HM.out.keeps HK.out, HK.out⟩
    · have hE0 : Go.Proofs.Yticeeckahdjjmaa.hE l u = -17 := by unfold Go.Proofs.Yticeeckahdjjmaa.hE; rw [hx', if_pos h0', if_neg (by omega)]
      have hL0 : hL l u ch = l := by unfold hL; rw [hE0]; rfl
      rw [hE0, hL0]
      have h4 : x < a ∨ (¬ x < a ∧ b < x) := by omega
      clear hm hx hx' h0 h0' hw hu hi hj hjl haj hE hmx ha hb hE0 hL0 h2 ht
      rcases h4 with d1 | ⟨d1, d2⟩
      all_goals
        go_enter Try.func11, Try.ntmps11
        go_wp2_with (first
          | (go_at_call 27; refine (rpthere_is u true HT.out _).mono ?_; rintro e w' ⟨rfl, rfl⟩)
          | (go_at_call 31; refine (r3get_good A l.length c l _ g j x hn HM.out HG.out HE.out HX.out).mono ?_; rintro e w' ⟨rfl, rfl⟩))
        go_ret2
        exact ⟨_, _, rfl, HM.out, Keeps.refl _⟩
theorem rphold_is (u ch t : Int) (l' : List UInt8) (hn : n ≤ 1000000) (hm : Mem w A n c l) (ht : hE l u = t) (hl : hL l u ch = l') :
    Calls Try.prog 11 #[.slice A n c, .int .i64 u, .int .i64 ch] w (HoldPost w n l' t) := by
  subst ht hl; exact rphold_any A n c l w u ch hn hm
theorem rpsign_any (u k : Int) (hn : n ≤ 1000000) (hm : Mem w A n c l) :
    Calls Try.prog 17 #[.slice A n c, .int .i64 u, .int .i64 k] w (HoldPost w n (psL l u k) (psE l u k)) := by
  have HM := Lib.hid hm
  cases ht : pcT u with
  | false =>
    have HT := Lib.hid ht
    have h9 : oE l.length u 8 = -9 := by unfold oE; rw [ht]; rfl
    have h8 : hE l u = -9 := by unfold hE; rw [if_neg (by rw [h9]; decide), h9]
    have h1 : psE l u k = -9 := by unfold psE; rw [h8, ht]; split <;> rfl
    have h2 : psL l u k = l := by
      unfold psL
      split
      · unfold hL; rw [h8]; rfl
      · rfl
    rw [h1, h2]
    clear hm ht h9 h8 h1 h2
    go_enter Try.func17, Try.ntmps17
    go_wp2_with (go_at_call 27; refine (rpthere_is u false HT.out _).mono ?_; rintro e w' ⟨rfl, rfl⟩)
    go_ret2
    exact ⟨_, _, rfl, HM.out, Keeps.refl _⟩
  | true =>
    have HT := Lib.hid ht
    by_cases h0 : k < 0
    · obtain ⟨t, hte⟩ : ∃ t, hE l u = t := ⟨_, rfl⟩
      obtain ⟨l', hl⟩ : ∃ l', hL l u 45 = l' := ⟨_, rfl⟩
      have h1 : psE l u k = t := by unfold psE; rw [if_pos h0, hte]
      have h2 : psL l u k = l' := by unfold psL; rw [if_pos h0, hl]
      have HTE := Lib.hid hte
      have HL := Lib.hid hl
      have d1 : ¬ 0 ≤ k := by omega
      rw [h1, h2]
      clear hm h1 h2 hte hl ht
      go_enter Try.func17, Try.ntmps17
      go_wp2_with (first
        | (go_at_call 27; refine (rpthere_is u true HT.out _).mono ?_; rintro e w' ⟨rfl, rfl⟩)
        | (go_at_call 11; refine (rphold_is A n c l _ u 45 t l' hn HM.out HTE.out HL.out).mono ?_; rintro e w1 ⟨A1, c1, rfl, hm1, hw1⟩; have H1 := Lib.hid hm1; clear hm1))
      go_ret2
      exact ⟨_, _, rfl, H1.out, hw1⟩
    · have h1 : psE l u k = 0 := by unfold psE; rw [if_neg h0, ht]; rfl
      have h2 : psL l u k = l := by unfold psL; rw [if_neg h0]
      have d1 : 0 ≤ k := by omega
      rw [h1, h2]
      clear hm h1 h2 ht h0
      go_enter Try.func17, Try.ntmps17
      go_wp2_with (go_at_call 27; refine (rpthere_is u true HT.out _).mono ?_; rintro e w' ⟨rfl, rfl⟩)
      go_ret2
      exact ⟨_, _, rfl, HM.out, Keeps.refl _⟩
set_option maxHeartbeats 400000 in
theorem rpend_any (u : Int) (hn : n ≤ 1000000) (hm : Mem w A n c l) :
    Calls Try.prog 19 #[.slice A n c, .int .i64 u] w fun e w' => e = .returned (.tuple #[.int .i64 (nH l u), .int .i64 (nN l u), .int .i64 (nE l u)]) ∧ w = w' := by
  obtain rfl : l.length = n := hm.len
  have HM := Lib.hid hm
  rcases own_cases l u 8 (by omega) with ⟨ht, h0, hx⟩ | ⟨t, a, ht, h0, hne, hx, hw, ha, hc, hE⟩ | ⟨i, j, g, x, ht, h0, hu, hi, hj, hjl, hw, haj, hE, hmx, hx⟩
  · have h0' : oE l.length u 8 = -9 := h0
    have e1 : nE l u = -9 := by unfold nE; rw [if_neg (by rw [h0']; decide), h0']
    have e2 : nH l u = 0 := by unfold nH; rw [e1]; rfl
    have e3 : nN l u = 0 := by unfold nN; rw [e1]; rfl
    have HT := Lib.hid ht
    rw [e1, e2, e3]
    clear hm e1 e2 e3 h0 h0' hx ht
    go_enter Try.func19, Try.ntmps19
    go_wp2_with (go_at_call 27; refine (rpthere_is u false HT.out _).mono ?_; rintro e w' ⟨rfl, rfl⟩)
    go_ret3
    exact ⟨rfl, rfl⟩
  · have h0' : oE l.length u 8 = t := h0
    have e1 : nE l u = t := by unfold nE; rw [if_neg (by rw [h0']; exact hne), h0']
    have e2 : nH l u = 0 := by unfold nH; rw [e1, if_neg hne]
    have e3 : nN l u = 0 := by unfold nN; rw [e1, if_neg hne]
    have hz : (t != 0) = true := by simpa using hne
    have HT := Lib.hid ht
    have HE := Lib.hid hE
    have hw' : wrap64 (u + 8) = a := hw
    rw [e1, e2, e3]
    clear hm e1 e2 e3 h0 h0' hx ht hne ha hE hw
    go_enter Try.func19, Try.ntmps19
    go_wp2_with (first
      | (go_at_call 27; refine (rpthere_is u true HT.out _).mono ?_; rintro e w' ⟨rfl, rfl⟩)
      | (go_at_call 31; refine (r3get_bad A l.length c _ a t hn hc HE.out hz).mono ?_; rintro e w' ⟨rfl, rfl⟩))
    go_ret3
    exact ⟨rfl, rfl⟩
  · have h0' : oE l.length u 8 = 0 := h0
    have hx' : oX l u 8 = x := hx
    have HT := Lib.hid ht
    have HE := Lib.hid hE
    have HG := Lib.hid haj
    have HX := Lib.hid hmx
    have f3 : wrap64 (u + 8) = g := hw
    obtain ⟨a, ha⟩ : ∃ a : Int, u + 32 = a := ⟨_, rfl⟩
    obtain ⟨b, hb⟩ : ∃ b : Int, u + 128 = b := ⟨_, rfl⟩
    have f1 : wrap64 (u + 32) = a := by unfold wrap64; omega
    have f2 : wrap64 (u + 128) = b := by unfold wrap64; omega
    by_cases h2 : a ≤ x ∧ x ≤ b
    · obtain ⟨z, hz⟩ : ∃ z : Int, b - x = z := ⟨_, rfl⟩
      have f4 : wrap64 (b - x) = z := by unfold wrap64; omega
      have e1 : nE l u = 0 := by unfold nE; rw [hx', if_pos h0', if_pos (by omega)]
      have e2 : nH l u = x := by unfold nH; rw [if_pos e1, hx']
      have e3 : nN l u = z := by unfold nN; rw [if_pos e1, hx', hb, hz]
      have d1 : decide (x < a) = false := decide_eq_false (by omega)
      have d2 : decide (b < x) = false := decide_eq_false (by omega)
      rw [e1, e2, e3]
      clear hm hx hx' h0 h0' hw hu hi hj hjl haj hE hmx ha hb e1 e2 e3 hz h2 ht
      go_enter Try.func19, Try.ntmps19
      go_wp2_with (first
        | (go_at_call 27; refine (rpthere_is u true HT.out _).mono ?_; rintro e w' ⟨rfl, rfl⟩)
        | (go_at_call 31; refine (r3get_good A l.length c l _ g j x hn HM.out HG.out HE.out HX.out).mono ?_; rintro e w' ⟨rfl, rfl⟩))
      go_ret3
      first | exact ⟨rfl, rfl⟩ | exact ⟨ret_iii rfl f4 rfl, rfl⟩ | exact ⟨ret_iii rfl (by rw [f2]; exact f4) rfl, rfl⟩
    · have e1 : nE l u = -9 := by unfold nE; rw [hx', if_pos h0', if_neg (by omega)]
      have e2 : nH l u = 0 := by unfold nH; rw [e1]; rfl
      have e3 : nN l u = 0 := by unfold nN; rw [e1]; rfl
      rw [e1, e2, e3]
      have h4 : x < a ∨ (¬ x < a ∧ b < x) := by omega
      clear hm hx hx' h0 h0' hw hu hi hj hjl haj hE hmx ha hb e1 e2 e3 h2 ht
      rcases h4 with d1 | ⟨d1, d2⟩
      all_goals
        go_enter Try.func19, Try.ntmps19
        go_wp2_with (first
          | (go_at_call 27; refine (rpthere_is u true HT.out _).mono ?_; rintro e w' ⟨rfl, rfl⟩)
          | (go_at_call 31; refine (r3get_good A l.length c l _ g j x hn HM.out HG.out HE.out HX.out).mono ?_; rintro e w' ⟨rfl, rfl⟩))
        go_ret3
        exact ⟨rfl, rfl⟩
end
end Go.Proofs.Yticeeckahdjjmaa
