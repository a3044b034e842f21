/-
  What the calls there, own, Base, Begin, Hold, Digit, Sign and End of package pic answer (contracts of the translated functions).
-/
import Derived.Test.YticeeckahdjjmaaPicMath
import Derived.Test.YticeeckahdjjmaaPicDivided
import Derived.Test.YticeeckahdjjmaaMemOut
namespace Go.Proofs.Yticeeckahdjjmaa
open Go.RowKit

theorem Mem.keeps {w w' : World} {A : Option Addr} {n c : Nat} {l : List UInt8} (h : Mem w A n c l) (k : Keeps w w') : Mem w' A n c l := h.keep k.size fun _ _ hb => k.cell hb
/-- A memory is answered with a throw; of what was there nothing has changed. -/
def HoldPost (w : World) (n : Nat) (l : List UInt8) (t : Int) (e : Ending) (w' : World) : Prop := ∃ A c, e = .returned (.tuple #[.slice A n c, .int .i64 t]) ∧ Mem w' A n c l ∧ Keeps w w'
theorem HoldPost.as {w : World} {n : Nat} {l l' : List UInt8} {t t' : Int} {e : Ending} {w' : World} (h : HoldPost w n l t e w') (hl : l = l') (ht : t = t') : HoldPost w n l' t' e w' := by subst hl ht; exact h

theorem ret_iii {a b c x y z : Int} (h : a = x) (k : b = y) (j : c = z) : Ending.returned (.tuple #[.int .i64 a, .int .i64 b, .int .i64 c]) = .returned (.tuple #[.int .i64 x, .int .i64 y, .int .i64 z]) := by rw [h, k, j]
theorem pthere_any (u : Int) (w : World) :
    Calls Try.prog 25 #[.int .i64 u] w fun e w' => e = .returned (.bool (pcT u)) ∧ w = w' := by
  have HB : Hid (pcT u = (decide (0 ≤ u) && decide (u ≤ 5120))) := Lib.hid (by unfold pcT; rw [Bool.decide_and])
  by_cases h1 : 0 ≤ u <;> by_cases h2 : u ≤ 5120
  all_goals
    go_enter Try.func25, Try.ntmps25
    go_wp2
    go_ret
    exact ⟨by rw [HB.out]; simp [h1, h2], rfl⟩
theorem pthere_is (u : Int) (v : Bool) (h : pcT u = v) (w : World) :
    Calls Try.prog 25 #[.int .i64 u] w fun e w' => e = .returned (.bool v) ∧ w = w' := h ▸ pthere_any u w

section
variable (A : Option Addr) (n c : Nat) (l : List UInt8) (w : World)
theorem get_bad (a t : Int) (hn : n ≤ 1000000) (ha : InC a) (ht : mE n a = t) (h : (t != 0) = true) :
    Calls Try.prog 47 #[.slice A n c, .int .i64 a] w fun e w' => e = .returned (.tuple #[.int .i64 0, .int .i64 t]) ∧ w = w' := by
  subst ht; exact get_no A n c w a hn ha h
theorem get_good (a : Int) (i : Nat) (x : Int) (hn : n ≤ 1000000) (hm : Mem w A n c l) (ha : a = (i : Int)) (h : mE n (i : Int) = 0) (hx : mC (mT l i 8) = x) :
    Calls Try.prog 47 #[.slice A n c, .int .i64 a] w fun e w' => e = .returned (.tuple #[.int .i64 x, .int .i64 0]) ∧ w = w' := by
  subst ha hx; exact get_yes A n c l w i hn hm h
theorem own_any (u : Int) (k : Nat) (hk : k ≤ 8) (hn : n ≤ 1000000) (hm : Mem w A n c l) :
    Calls Try.prog 29 #[.slice A n c, .int .i64 u, .int .i64 (k : Int)] w fun e w' => e = .returned (.tuple #[.int .i64 (oX l u k), .int .i64 (oE n u k)]) ∧ w = w' := by
  have hl := hm.len
  by_cases h0 : oE n u k = 0
  · obtain ⟨i, hi, hi5, hin, hin2, hmE⟩ := oE_at h0
    have ht := (oE_ok h0).1
    obtain ⟨j, hj⟩ : ∃ j, i + k = j := ⟨_, rfl⟩
    rw [hj] at hin2 hmE
    have HX : Hid (mC (mT l j 8) = oX l u k) := Lib.hid (by unfold oX; rw [hl, if_pos h0, hin2])
    obtain ⟨a, ha⟩ : ∃ a : Int, a = (j : Int) := ⟨_, rfl⟩
    have h2 : wrap64 (u + (k : Int)) = a := by unfold wrap64; omega
    have HA := Lib.hid ha
    have HT := Lib.hid ht
    have HM := Lib.hid hm
    have HE := Lib.hid hmE
    rw [h0]
    clear ht hm hmE hin2 ha hj hi hin h0
    go_enter Try.func29, Try.ntmps29
    go_wp2_with (first
      | (go_at_call 25; refine (pthere_is u true HT.out _).mono ?_; rintro e w' ⟨rfl, rfl⟩)
      | (go_at_call 47; refine (get_good A n c l _ a j _ hn HM.out HA.out HE.out HX.out).mono ?_; rintro e w' ⟨rfl, rfl⟩))
    go_ret2
    exact ⟨rfl, rfl⟩
  · have hx0 : oX l u k = 0 := by unfold oX; rw [hl, if_neg h0]
    rw [hx0]
    clear hx0
    cases ht : pcT u with
    | false =>
      have HT := Lib.hid ht
      have hE9 : oE n u k = -9 := by unfold oE; rw [ht]; rfl
      rw [hE9]
      clear ht hm hE9 h0
      go_enter Try.func29, Try.ntmps29
      go_wp2_with (go_at_call 25; refine (pthere_is u false HT.out _).mono ?_; rintro e w' ⟨rfl, rfl⟩)
      go_ret2
      exact ⟨rfl, rfl⟩
    | true =>
      have h3 := pcT_iff.1 ht
      have HT := Lib.hid ht
      have HE : Hid (mE n (u + (k : Int)) = oE n u k) := Lib.hid (by unfold oE; rw [ht]; rfl)
      obtain ⟨t, hte⟩ : ∃ t, oE n u k = t := ⟨_, rfl⟩
      rw [hte] at HE h0 ⊢
      have hz : (t != 0) = true := by simpa using h0
      obtain ⟨a, ha⟩ : ∃ a : Int, u + (k : Int) = a := ⟨_, rfl⟩
      have h2 : wrap64 (u + (k : Int)) = a := by unfold wrap64; omega
      have hu2 : InC a := by unfold InC; omega
      rw [ha] at HE
      clear ht hm h0 hte h3 ha
      go_enter Try.func29, Try.ntmps29
      go_wp2_with (first
        | (go_at_call 25; refine (pthere_is u true HT.out _).mono ?_; rintro e w' ⟨rfl, rfl⟩)
        | (go_at_call 47; refine (get_bad A n c _ a t hn hu2 HE.out hz).mono ?_; rintro e w' ⟨rfl, rfl⟩))
      go_ret2
      exact ⟨rfl, rfl⟩
theorem own_is (u b : Int) (k : Nat) (x t : Int) (hk : k ≤ 8) (hb : b = (k : Int)) (hn : n ≤ 1000000) (hm : Mem w A n c l) (hx : oX l u b = x) (ht : oE n u b = t) :
    Calls Try.prog 29 #[.slice A n c, .int .i64 u, .int .i64 b] w fun e w' => e = .returned (.tuple #[.int .i64 x, .int .i64 t]) ∧ w = w' := by
  subst hb hx ht; exact own_any A n c l w u k hk hn hm
theorem put_good (a : Int) (i : Nat) (x : Int) (l' : List UInt8) (ha : a = (i : Int)) (hl : splice l i (mB x) = l') (hn : n ≤ 1000000) (hm : Mem w A n c l) (h : mE n (i : Int) = 0) :
    Calls Try.prog 26 #[.slice A n c, .int .i64 a, .int .i64 x] w (PutPost w n l') := by
  subst ha hl; exact put_yes A n c l w i x hn hm h
theorem put_bad (a x t : Int) (hn : n ≤ 1000000) (ha : InC a) (ht : mE n a = t) (h : (t != 0) = true) :
    Calls Try.prog 26 #[.slice A n c, .int .i64 a, .int .i64 x] w fun e w' => e = .returned (.tuple #[.slice A n c, .int .i64 t]) ∧ w = w' := by
  subst ht; exact put_no A n c w a x hn ha h
theorem putByte_good (a : Int) (i : Nat) (x : Int) (l' : List UInt8) (ha : a = (i : Int)) (hl : splice l i [b8 x] = l') (hn : n ≤ 1000000) (hm : Mem w A n c l) (hi : i < n) :
    Calls Try.prog 30 #[.slice A n c, .int .i64 a, .int .i64 x] w (PutPost w n l') := by
  subst ha hl; exact putByte_yes A n c l w i x hn hm hi
set_option maxHeartbeats 400000 in
theorem pbase_any (u : Int) (hn : n ≤ 1000000) (hm : Mem w A n c l) :
    Calls Try.prog 20 #[.slice A n c, .int .i64 u] w fun e w' => e = .returned (.tuple #[.int .i64 (bX l u), .int .i64 (bE l u)]) ∧ w = w' := by
  have hl := hm.len
  have HM := Lib.hid hm
  by_cases h0 : oE n u 0 = 0
  · obtain ⟨x, hx⟩ : ∃ x, oX l u 0 = x := ⟨_, rfl⟩
    have HX := Lib.hid hx
    have H0 := Lib.hid h0
    by_cases h2 : 2 ≤ x ∧ x ≤ 36
    · have hb : bE l u = 0 := by unfold bE; rw [hl, if_pos h0, hx, if_pos h2]
      have hbx : bX l u = x := by unfold bX; rw [if_pos hb, hx]
      rw [hb, hbx]
      have d1 : decide (x < 2) = false := decide_eq_false (by omega)
      have d2 : decide (36 < x) = false := decide_eq_false (by omega)
      clear hm hb hbx hx h0 h2
      go_enter Try.func20, Try.ntmps20
      go_wp2_with (go_at_call 29; refine (own_is A n c l _ u 0 0 x 0 (by omega) rfl hn HM.out HX.out H0.out).mono ?_; rintro e w' ⟨rfl, rfl⟩)
      go_ret2
      exact ⟨rfl, rfl⟩
    · have hb : bE l u = -24 := by unfold bE; rw [hl, if_pos h0, hx, if_neg h2]
      have hbx : bX l u = 0 := by unfold bX; rw [hb]; rfl
      rw [hb, hbx]
      by_cases h3 : x < 2
      · clear hm hb hbx hx h0 h2
        go_enter Try.func20, Try.ntmps20
        go_wp2_with (go_at_call 29; refine (own_is A n c l _ u 0 0 x 0 (by omega) rfl hn HM.out HX.out H0.out).mono ?_; rintro e w' ⟨rfl, rfl⟩)
        go_ret2
        exact ⟨rfl, rfl⟩
      · have h4 : 36 < x := by omega
        clear hm hb hbx hx h0 h2
        go_enter Try.func20, Try.ntmps20
        go_wp2_with (go_at_call 29; refine (own_is A n c l _ u 0 0 x 0 (by omega) rfl hn HM.out HX.out H0.out).mono ?_; rintro e w' ⟨rfl, rfl⟩)
        go_ret2
        exact ⟨rfl, rfl⟩
  · obtain ⟨t, ht⟩ : ∃ t, oE n u 0 = t := ⟨_, rfl⟩
    obtain ⟨x, hx⟩ : ∃ x, oX l u 0 = x := ⟨_, rfl⟩
    have HX := Lib.hid hx
    have HT := Lib.hid ht
    have hb : bE l u = t := by unfold bE; rw [hl, if_neg h0, ht]
    have hbx : bX l u = 0 := by unfold bX; rw [hb, if_neg (by rw [← ht]; exact h0)]
    have hz : (t != 0) = true := by rw [← ht]; simpa using h0
    rw [hb, hbx]
    clear hm hb hbx hx h0 ht
    go_enter Try.func20, Try.ntmps20
    go_wp2_with (go_at_call 29; refine (own_is A n c l _ u 0 0 x t (by omega) rfl hn HM.out HX.out HT.out).mono ?_; rintro e w' ⟨rfl, rfl⟩)
    go_ret2
    exact ⟨rfl, rfl⟩
theorem pbase_is (u x t : Int) (hn : n ≤ 1000000) (hm : Mem w A n c l) (hx : bX l u = x) (ht : bE l u = t) :
    Calls Try.prog 20 #[.slice A n c, .int .i64 u] w fun e w' => e = .returned (.tuple #[.int .i64 x, .int .i64 t]) ∧ w = w' := by
  subst hx ht; exact pbase_any A n c l w u hn hm
set_option maxHeartbeats 400000 in
theorem pbegin_any (u : Int) (hn : n ≤ 1000000) (hm : Mem w A n c l) :
    Calls Try.prog 8 #[.slice A n c, .int .i64 u] w (HoldPost w n (gL l u) (oE n u 8)) := by
  have hl := hm.len
  have HM := Lib.hid hm
  by_cases h0 : oE n u 8 = 0
  · obtain ⟨i, hi, hi5, hin, hin2, hmE⟩ := oE_at (k := 8) h0
    obtain ⟨j, hj⟩ : ∃ j, i + 8 = j := ⟨_, rfl⟩
    have hg : gL l u = splice l j (mB (u + 128)) := by unfold gL; rw [hl, if_pos h0, show (u + 8).toNat = j by omega]
    rw [hj] at hmE
    rw [hg, h0]
    have HT := Lib.hid (oE_ok h0).1
    have HE := Lib.hid hmE
    obtain ⟨a, ha⟩ : ∃ a : Int, a = (j : Int) := ⟨_, rfl⟩
    obtain ⟨b, hb⟩ : ∃ b : Int, u + 128 = b := ⟨_, rfl⟩
    have h2 : wrap64 (u + 8) = a := by unfold wrap64; omega
    have h3 : wrap64 (u + 128) = b := by unfold wrap64; omega
    have HA := Lib.hid ha
    rw [hb]
    clear hm h0 hg hmE hin2 hin ha hb hj hi
    go_enter Try.func8, Try.ntmps8
    go_wp2_with (first
      | (go_at_call 25; refine (pthere_is u true HT.out _).mono ?_; rintro e w' ⟨rfl, rfl⟩)
      | (go_at_call 26; refine (put_good A n c l _ a j b _ HA.out rfl hn HM.out HE.out).mono ?_; rintro e w1 ⟨A1, c1, rfl, hm1, hb1⟩; have H1 := Lib.hid hm1; have HB := Lib.hid hb1; clear hm1 hb1))
    go_ret2
    exact ⟨_, _, rfl, H1.out, keeps_of_below HB.out⟩
  · have hg : gL l u = l := by unfold gL; rw [hl, if_neg h0]
    rw [hg]
    cases ht : pcT u with
    | false =>
      have HT := Lib.hid ht
      have hE9 : oE n u 8 = -9 := by unfold oE; rw [ht]; rfl
      rw [hE9]
      clear ht hm hE9 h0 hg
      go_enter Try.func8, Try.ntmps8
      go_wp2_with (go_at_call 25; refine (pthere_is u false HT.out _).mono ?_; rintro e w' ⟨rfl, rfl⟩)
      go_ret2
      exact ⟨_, _, rfl, HM.out, Keeps.refl _⟩
    | true =>
      have h3 := pcT_iff.1 ht
      have HT := Lib.hid ht
      have HE : Hid (mE n (u + 8) = oE n u 8) := Lib.hid (by unfold oE; rw [ht]; rfl)
      obtain ⟨t, hte⟩ : ∃ t, oE n u 8 = t := ⟨_, rfl⟩
      rw [hte] at HE h0 ⊢
      have hz : (t != 0) = true := by simpa using h0
      obtain ⟨a, ha⟩ : ∃ a : Int, u + 8 = a := ⟨_, rfl⟩
      have h2 : wrap64 (u + 8) = a := by unfold wrap64; omega
      have hu2 : InC a := by unfold InC; omega
      rw [ha] at HE
      clear ht hm h0 hte h3 ha hg
      go_enter Try.func8, Try.ntmps8
      go_wp2_with (first
        | (go_at_call 25; refine (pthere_is u true HT.out _).mono ?_; rintro e w' ⟨rfl, rfl⟩)
        | (go_at_call 26; refine (put_bad A n c _ a _ t hn hu2 HE.out hz).mono ?_; rintro e w' ⟨rfl, rfl⟩))
      go_ret2
      exact ⟨_, _, rfl, HM.out, Keeps.refl _⟩
set_option maxHeartbeats 400000 in
theorem phold_any (u ch : Int) (hn : n ≤ 1000000) (hm : Mem w A n c l) :
    Calls Try.prog 10 #[.slice A n c, .int .i64 u, .int .i64 ch] w (HoldPost w n (hL l u ch) (hE l u)) := by
  have hl := hm.len
  have HM := Lib.hid hm
  obtain ⟨x, hx⟩ : ∃ x, oX l u 8 = x := ⟨_, rfl⟩
  have HX := Lib.hid hx
  by_cases h0 : oE n u 8 = 0
  · have H0 := Lib.hid h0
    obtain ⟨i, hi, hi5, hin, hin2, hmE⟩ := oE_at (k := 8) h0
    obtain ⟨a, ha⟩ : ∃ a : Int, u + 32 = a := ⟨_, rfl⟩
    obtain ⟨b, hb⟩ : ∃ b : Int, u + 128 = b := ⟨_, rfl⟩
    have f1 : wrap64 (u + 32) = a := by unfold wrap64; omega
    have f2 : wrap64 (u + 128) = b := by unfold wrap64; omega
    by_cases h2 : a < x ∧ x ≤ b
    · have d1 : decide (x ≤ a) = false := decide_eq_false (by omega)
      have d2 : decide (b < x) = false := decide_eq_false (by omega)
      obtain ⟨g, hg⟩ : ∃ g : Int, u + 8 = g := ⟨_, rfl⟩
      obtain ⟨j, hj⟩ : ∃ j : Nat, i + 8 = j := ⟨_, rfl⟩
      obtain ⟨y, hy⟩ : ∃ y : Int, x - 1 = y := ⟨_, rfl⟩
      obtain ⟨m, hmy⟩ : ∃ m : Nat, y = (m : Int) := ⟨y.toNat, by omega⟩
      have f3 : wrap64 (u + 8) = g := by unfold wrap64; omega
      have f4 : wrap64 (x - 1) = y := by unfold wrap64; omega
      have HG : Hid (g = (j : Int)) := Lib.hid (by omega)
      have HY := Lib.hid hmy
      rw [hj] at hmE
      have HE := Lib.hid hmE
      have hyc : InC y := by unfold InC; omega
      by_cases h3 : thB n y 1 = true
      · have hE0 : hE l u = 0 := by unfold hE; rw [hl, hx, if_pos h0, if_pos (by omega), hy, if_pos h3]
        have hL0 : hL l u ch = splice (splice l j (mB y)) m [b8 ch] := by unfold hL; rw [if_pos hE0, hx, hy, show (u + 8).toNat = j by omega, show y.toNat = m by omega]
        have HI : Hid (m < n) := Lib.hid (by obtain ⟨i', n', e1, e2, e3⟩ := thB_yes h3; omega)
        rw [hE0, hL0]
        clear hm hx h0 hi hi5 hin hin2 hmE ha hb hg hj hy hmy hE0 hL0 h3 h2
        go_enter Try.func10, Try.ntmps10
        go_wp2_with (first
          | (go_at_call 29; refine (own_is A n c l _ u 8 8 x 0 (by omega) rfl hn HM.out HX.out H0.out).mono ?_; rintro e w' ⟨rfl, rfl⟩)
          | (go_at_call 30; refine (putByte_good _ n _ _ _ y m ch _ HY.out rfl hn H1.out HI.out).mono ?_; rintro e w2 ⟨A2, c2, rfl, hm2, hb2⟩; have H2 := Lib.hid hm2; have HB2 := Lib.hid hb2; clear hm2 hb2)
          | (go_at_call 26; refine (put_good A n c l _ g j y _ HG.out rfl hn HM.out HE.out).mono ?_; rintro e w1 ⟨A1, c1, rfl, hm1, hb1⟩; have H1 := Lib.hid hm1; have HB := Lib.hid hb1; clear hm1 hb1))
        go_ret2
        exact ⟨_, _, rfl, H2.out, (keeps_of_below HB.out).trans (keeps_of_below HB2.out)⟩
      · have h3' : thB n y 1 = false := by simpa using h3
        have hE0 : hE l u = -9 := by unfold hE; rw [hl, hx, if_pos h0, if_pos (by omega), hy, if_neg h3]
        have hL0 : hL l u ch = l := by unfold hL; rw [hE0]; rfl
        have HI := Lib.hid h3'
        rw [hE0, hL0]
        clear hm hx h0 hi hi5 hin hin2 hmE ha hb hg hj hy hmy hE0 hL0 h3 h3' h2
        go_enter Try.func10, Try.ntmps10
        go_wp2_with (first
          | (go_at_call 29; refine (own_is A n c l _ u 8 8 x 0 (by omega) rfl hn HM.out HX.out H0.out).mono ?_; rintro e w' ⟨rfl, rfl⟩)
          | (go_at_call 30; refine (putByte_no _ n _ _ y ch hn hyc HI.out).mono ?_; rintro e w2 ⟨rfl, rfl⟩)
          | (go_at_call 26; refine (put_good A n c l _ g j y _ HG.out rfl hn HM.out HE.out).mono ?_; rintro e w1 ⟨A1, c1, rfl, hm1, hb1⟩; have H1 := Lib.hid hm1; have HB := Lib.hid hb1; clear hm1 hb1))
        go_ret2
        exact ⟨_, _, rfl, HM.out.below HB.out, keeps_of_below HB.out⟩
    · have hE0 : hE l u = -17 := by unfold hE; rw [hl, hx, if_pos h0, if_neg (by omega)]
      have hL0 : hL l u ch = l := by unfold hL; rw [hE0]; rfl
      rw [hE0, hL0]
      by_cases h4 : x ≤ a
      · clear hm hx h0 hi hi5 hin hin2 hmE ha hb hE0 hL0 h2
        go_enter Try.func10, Try.ntmps10
        go_wp2_with (go_at_call 29; refine (own_is A n c l _ u 8 8 x 0 (by omega) rfl hn HM.out HX.out H0.out).mono ?_; rintro e w' ⟨rfl, rfl⟩)
        go_ret2
        exact ⟨_, _, rfl, HM.out, Keeps.refl _⟩
      · have h5 : b < x := by omega
        clear hm hx h0 hi hi5 hin hin2 hmE ha hb hE0 hL0 h2
        go_enter Try.func10, Try.ntmps10
        go_wp2_with (go_at_call 29; refine (own_is A n c l _ u 8 8 x 0 (by omega) rfl hn HM.out HX.out H0.out).mono ?_; rintro e w' ⟨rfl, rfl⟩)
        go_ret2
        exact ⟨_, _, rfl, HM.out, Keeps.refl _⟩
  · obtain ⟨t, ht⟩ : ∃ t, oE n u 8 = t := ⟨_, rfl⟩
    have HT := Lib.hid ht
    have hE0 : hE l u = t := by unfold hE; rw [hl, if_neg h0, ht]
    have hz : (t != 0) = true := by rw [← ht]; simpa using h0
    have hL0 : hL l u ch = l := by unfold hL; rw [hE0, if_neg (by rw [← ht]; exact h0)]
    rw [hE0, hL0]
    clear hm hx h0 ht hE0 hL0
    go_enter Try.func10, Try.ntmps10
    go_wp2_with (go_at_call 29; refine (own_is A n c l _ u 8 8 x t (by omega) rfl hn HM.out HX.out HT.out).mono ?_; rintro e w' ⟨rfl, rfl⟩)
    go_ret2
    exact ⟨_, _, rfl, HM.out, Keeps.refl _⟩
theorem phold_is (u ch t : Int) (l' : List UInt8) (hn : n ≤ 1000000) (hm : Mem w A n c l) (ht : hE l u = t) (hl : hL l u ch = l') :
    Calls Try.prog 10 #[.slice A n c, .int .i64 u, .int .i64 ch] w (HoldPost w n l' t) := by
  subst ht hl; exact phold_any A n c l w u ch hn hm
theorem psign_any (u k : Int) (hn : n ≤ 1000000) (hm : Mem w A n c l) :
    Calls Try.prog 16 #[.slice A n c, .int .i64 u, .int .i64 k] w (HoldPost w n (psL l u k) (psE l u k)) := by
  have HM := Lib.hid hm
  by_cases h0 : k < 0
  · obtain ⟨t, ht⟩ : ∃ t, hE l u = t := ⟨_, rfl⟩
    obtain ⟨l', hl⟩ : ∃ l', hL l u 45 = l' := ⟨_, rfl⟩
    have h1 : psE l u k = t := by unfold psE; rw [if_pos h0, ht]
    have h2 : psL l u k = l' := by unfold psL; rw [if_pos h0, hl]
    have HT := Lib.hid ht
    have HL := Lib.hid hl
    rw [h1, h2]
    clear hm h1 h2 ht hl
    go_enter Try.func16, Try.ntmps16
    go_wp2_with (go_at_call 10; refine (phold_is A n c l _ u 45 t l' hn HM.out HT.out HL.out).mono ?_; rintro e w1 ⟨A1, c1, rfl, hm1, hw1⟩; have H1 := Lib.hid hm1; clear hm1)
    go_ret2
    exact ⟨_, _, rfl, H1.out, hw1⟩
  · have h2 : psL l u k = l := by unfold psL; rw [if_neg h0]
    rw [h2]
    cases ht : pcT u with
    | false =>
      have h1 : psE l u k = -9 := by unfold psE; rw [if_neg h0, ht]; rfl
      have HT := Lib.hid ht
      rw [h1]
      clear hm h1 h2 ht
      go_enter Try.func16, Try.ntmps16
      go_wp2_with (go_at_call 25; refine (pthere_is u false HT.out _).mono ?_; rintro e w' ⟨rfl, rfl⟩)
      go_ret2
      exact ⟨_, _, rfl, HM.out, Keeps.refl _⟩
    | true =>
      have h1 : psE l u k = 0 := by unfold psE; rw [if_neg h0, ht]; rfl
      have HT := Lib.hid ht
      rw [h1]
      clear hm h1 h2 ht
      go_enter Try.func16, Try.ntmps16
      go_wp2_with (go_at_call 25; refine (pthere_is u true HT.out _).mono ?_; rintro e w' ⟨rfl, rfl⟩)
      go_ret2
      exact ⟨_, _, rfl, HM.out, Keeps.refl _⟩
set_option maxHeartbeats 400000 in
theorem pend_any (u : Int) (hn : n ≤ 1000000) (hm : Mem w A n c l) :
    Calls Try.prog 18 #[.slice A n c, .int .i64 u] w fun e w' => e = .returned (.tuple #[.int .i64 (nH l u), .int .i64 (nN l u), .int .i64 (nE l u)]) ∧ w = w' := by
  have hl := hm.len
  have HM := Lib.hid hm
  obtain ⟨x, hx⟩ : ∃ x, oX l u 8 = x := ⟨_, rfl⟩
  have HX := Lib.hid hx
  by_cases h0 : oE n u 8 = 0
  · have H0 := Lib.hid h0
    obtain ⟨i, hi, hi5, hin, hin2, hmE⟩ := oE_at (k := 8) h0
    obtain ⟨a, ha⟩ : ∃ a : Int, u + 32 = a := ⟨_, rfl⟩
    obtain ⟨b, hb⟩ : ∃ b : Int, u + 128 = b := ⟨_, rfl⟩
    have f1 : wrap64 (u + 32) = a := by unfold wrap64; omega
    have f2 : wrap64 (u + 128) = b := by unfold wrap64; omega
    by_cases h2 : a ≤ x ∧ x ≤ b
    · obtain ⟨z, hz⟩ : ∃ z : Int, b - x = z := ⟨_, rfl⟩
      have f3 : wrap64 (b - x) = z := by unfold wrap64; omega
      have e1 : nE l u = 0 := by unfold nE; rw [hl, hx, if_pos h0, if_pos (by omega)]
      have e2 : nH l u = x := by unfold nH; rw [if_pos e1, hx]
      have e3 : nN l u = z := by unfold nN; rw [if_pos e1, hx, hb, hz]
      have d1 : decide (x < a) = false := decide_eq_false (by omega)
      have d2 : decide (b < x) = false := decide_eq_false (by omega)
      rw [e1, e2, e3]
      clear hm hx h0 hi hi5 hin hin2 hmE ha hb e1 e2 e3 hz h2
      go_enter Try.func18, Try.ntmps18
      go_wp2_with (go_at_call 29; refine (own_is A n c l _ u 8 8 x 0 (by omega) rfl hn HM.out HX.out H0.out).mono ?_; rintro e w' ⟨rfl, rfl⟩)
      go_ret3
      exact ⟨ret_iii rfl f3 rfl, rfl⟩
    · have e1 : nE l u = -9 := by unfold nE; rw [hl, hx, if_pos h0, if_neg (by omega)]
      have e2 : nH l u = 0 := by unfold nH; rw [e1]; rfl
      have e3 : nN l u = 0 := by unfold nN; rw [e1]; rfl
      rw [e1, e2, e3]
      by_cases h4 : x < a
      · clear hm hx h0 hi hi5 hin hin2 hmE ha hb e1 e2 e3 h2
        go_enter Try.func18, Try.ntmps18
        go_wp2_with (go_at_call 29; refine (own_is A n c l _ u 8 8 x 0 (by omega) rfl hn HM.out HX.out H0.out).mono ?_; rintro e w' ⟨rfl, rfl⟩)
        go_ret3
        exact ⟨rfl, rfl⟩
      · have h5 : b < x := by omega
        clear hm hx h0 hi hi5 hin hin2 hmE ha hb e1 e2 e3 h2
        go_enter Try.func18, Try.ntmps18
        go_wp2_with (go_at_call 29; refine (own_is A n c l _ u 8 8 x 0 (by omega) rfl hn HM.out HX.out H0.out).mono ?_; rintro e w' ⟨rfl, rfl⟩)
        go_ret3
        exact ⟨rfl, rfl⟩
  · obtain ⟨t, ht⟩ : ∃ t, oE n u 8 = t := ⟨_, rfl⟩
    have HT := Lib.hid ht
    have hz : (t != 0) = true := by rw [← ht]; simpa using h0
    have ht0 : ¬ t = 0 := by rw [← ht]; exact h0
    have e1 : nE l u = t := by unfold nE; rw [hl, if_neg h0, ht]
    have e2 : nH l u = 0 := by unfold nH; rw [e1, if_neg ht0]
    have e3 : nN l u = 0 := by unfold nN; rw [e1, if_neg ht0]
    rw [e1, e2, e3]
    clear hm hx h0 ht e1 e2 e3 ht0
    go_enter Try.func18, Try.ntmps18
    go_wp2_with (go_at_call 29; refine (own_is A n c l _ u 8 8 x t (by omega) rfl hn HM.out HX.out HT.out).mono ?_; rintro e w' ⟨rfl, rfl⟩)
    go_ret3
    exact ⟨rfl, rfl⟩
end
end Go.Proofs.Yticeeckahdjjmaa
