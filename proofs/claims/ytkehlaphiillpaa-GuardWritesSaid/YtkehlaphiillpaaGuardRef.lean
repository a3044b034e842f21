/-
  What the document's own calls of layer 12 answer: UserAt, Region, one, May, Read, Write (tenterhookref12).
-/
import Derived.Test.YtkehlaphiillpaaGuardOut
import Derived.Test.YtkehlaphiillpaaRef03Calls
namespace Go.Proofs.Ytkehlaphiillpaa
open Go.RowKit

theorem r12userAt_is (t a : Int) (b : Bool) (ha : gU t = a) (hb : gUo t = b) (w : World) :
    Calls Try.prog 11 #[.int .i64 t] w fun e w' => e = .returned (.tuple #[.int .i64 a, .bool b]) ∧ w = w' := by
  by_cases h0 : t < 0
  · obtain rfl : 0 = a := by rw [← ha]; unfold gU; rw [if_neg (by omega)]
    obtain rfl : false = b := by rw [← hb]; unfold gUo; rw [decide_eq_false (by omega)]
    clear ha hb
    go_enter Try.func11, Try.ntmps11
    go_wp2
    go_ret2
    exact ⟨rfl, rfl⟩
  · by_cases h8 : 7 < t
    · obtain rfl : 0 = a := by rw [← ha]; unfold gU; rw [if_neg (by omega)]
      obtain rfl : false = b := by rw [← hb]; unfold gUo; rw [decide_eq_false (by omega)]
      clear ha hb
      go_enter Try.func11, Try.ntmps11
      go_wp2
      go_ret2
      exact ⟨rfl, rfl⟩
    · obtain rfl : true = b := by rw [← hb]; unfold gUo; rw [decide_eq_true (by omega)]
      have h1 : a = 4096 + 128 * t := by rw [← ha]; unfold gU; rw [if_pos (by omega)]
      have hw1 : wrap64 (128 * t) = 128 * t := by unfold wrap64; omega
      have hw2 : wrap64 (4096 + 128 * t) = a := by unfold wrap64; omega
      have hw3 : 4096 + 128 * t = a := h1.symm
      clear ha hb h1
      go_enter Try.func11, Try.ntmps11
      go_wp2
      go_ret2
      exact ⟨rfl, rfl⟩
theorem r12region_is (a k t : Int) (hk : gK a = k) (ht : gT a = t) (w : World) :
    Calls Try.prog 13 #[.int .i64 a] w fun e w' => e = .returned (.tuple #[.int .i64 k, .int .i64 t]) ∧ w = w' := by
  subst hk ht
  rcases gK_cases a with ⟨e1, e2, h⟩ | ⟨e1, e2, h1, h2⟩ | ⟨e1, e2, h1, h2⟩ | ⟨e1, e2, h1, h2⟩
  · rw [e1, e2]
    clear e1 e2
    rcases h with h | h
    · go_enter Try.func13, Try.ntmps13
      go_wp2
      go_ret2
      exact ⟨rfl, rfl⟩
    · have h0 : ¬ a < 0 := by omega
      go_enter Try.func13, Try.ntmps13
      go_wp2
      go_ret2
      exact ⟨rfl, rfl⟩
  · rw [e1, e2]
    clear e1 e2
    have h0 : ¬ a < 0 := by omega
    have h3 : ¬ 5120 ≤ a := by omega
    go_enter Try.func13, Try.ntmps13
    go_wp2
    go_ret2
    exact ⟨rfl, rfl⟩
  · rw [e1, e2]
    clear e1 e2
    have h0 : ¬ a < 0 := by omega
    have h3 : ¬ 5120 ≤ a := by omega
    have h4 : ¬ a < 2048 := by omega
    go_enter Try.func13, Try.ntmps13
    go_wp2
    go_ret2
    exact ⟨rfl, rfl⟩
  · rw [e1, e2]
    clear e1 e2
    have h0 : ¬ a < 0 := by omega
    have h3 : ¬ 5120 ≤ a := by omega
    have h4 : ¬ a < 2048 := by omega
    have h5 : ¬ a < 4096 := by omega
    have hw : wrap64 (a - 4096) = a - 4096 := by unfold wrap64; omega
    have hd : (a - 4096).tdiv 128 = (a - 4096) / 128 := Int.tdiv_eq_ediv_of_nonneg (by omega)
    have hT : 0 ≤ (a - 4096) / 128 ∧ (a - 4096) / 128 < 8 := by omega
    generalize (a - 4096) / 128 = T at *
    have hw2 : wrap64 T = T := by unfold wrap64; omega
    go_enter Try.func13, Try.ntmps13
    go_wp2
    go_ret2
    exact ⟨rfl, rfl⟩
set_option maxHeartbeats 1000000 in
theorem r12one_is (t a : Int) (lib wt b : Bool) (h : gB t lib a wt = b) (w : World) :
    Calls Try.prog 29 #[.agg #[.int .i64 t, .bool lib], .int .i64 a, .bool wt] w fun e w' => e = .returned (.bool b) ∧ Below w.heap.size w w' := by
  rcases gK_cases a with ⟨e1, e2, h0⟩ | ⟨e1, e2, h0, h1⟩ | ⟨e1, e2, h0, h1⟩ | ⟨e1, e2, h0, h1⟩
  · rw [gB_none h0] at h
    subst h
    have HK := Lib.hid e1
    have HT := Lib.hid e2
    clear e1 e2 h0
    go_enter Try.func29, Try.ntmps29
    go_wp2_with (go_at_call 13; refine (r12region_is a _ _ HK.out HT.out _).mono ?_; rintro e w' ⟨rfl, rfl⟩)
    go_ret
    exact ⟨rfl, below_one _ _⟩
  · rw [gB_data h0 h1] at h
    subst h
    have HK := Lib.hid e1
    have HT := Lib.hid e2
    clear e1 e2 h0 h1
    cases wt
    all_goals
      go_enter Try.func29, Try.ntmps29
      go_wp2_with (go_at_call 13; refine (r12region_is a _ _ HK.out HT.out _).mono ?_; rintro e w' ⟨rfl, rfl⟩)
      go_ret
      exact ⟨rfl, below_one _ _⟩
  · rw [gB_heap h0 h1] at h
    subst h
    have HK := Lib.hid e1
    have HT := Lib.hid e2
    clear e1 e2 h0 h1
    cases lib
    all_goals
      go_enter Try.func29, Try.ntmps29
      go_wp2_with (go_at_call 13; refine (r12region_is a _ _ HK.out HT.out _).mono ?_; rintro e w' ⟨rfl, rfl⟩)
      go_ret
      exact ⟨rfl, below_one _ _⟩
  · rw [gB_user h0 h1] at h
    have HK := Lib.hid e1
    have HT := Lib.hid e2
    generalize (a - 4096) / 128 = T at *
    clear e1 e2 h0 h1
    go_enter Try.func29, Try.ntmps29
    go_wp2_with (go_at_call 13; refine (r12region_is a _ _ HK.out HT.out _).mono ?_; rintro e w' ⟨rfl, rfl⟩)
    go_ret
    exact ⟨rfl, below_one _ _⟩
set_option maxHeartbeats 2000000 in
theorem r12may_is (t : Int) (lib : Bool) (a n : Int) (wt b : Bool) (ha : a ≤ 9223372036854775807) (h : gM t lib a n wt = b) (w : World) :
    Calls Try.prog 20 #[.agg #[.int .i64 t, .bool lib], .int .i64 a, .int .i64 n, .bool wt] w fun e w' => e = .returned (.bool b) ∧ Below w.heap.size w w' := by
  have HX := Lib.hid (Wh.new w 24 t lib)
  have HB := Lib.hid (below_one w (.cells #[.int .i64 t, .bool lib] 24))
  cases hg : gIn a n
  · obtain rfl : false = b := by rw [← h]; unfold gM; rw [hg]; rfl
    have hin : ¬ (0 ≤ n ∧ 0 ≤ a ∧ n ≤ 5120 - a) := by unfold gIn at hg; exact of_decide_eq_false hg
    clear hg h
    by_cases h1 : n < 0
    · go_enter Try.func20, Try.ntmps20
      go_wp2
      go_ret
      exact ⟨rfl, HB.out⟩
    · by_cases h2 : a < 0
      · go_enter Try.func20, Try.ntmps20
        go_wp2
        go_ret
        exact ⟨rfl, HB.out⟩
      · by_cases h3 : 5120 < a
        · clear hin
          go_enter Try.func20, Try.ntmps20
          go_wp2
          go_ret
          exact ⟨rfl, HB.out⟩
        · have h4 : 5120 - a < n := by omega
          have hw : wrap64 (5120 - a) = 5120 - a := by unfold wrap64; omega
          clear hin
          go_enter Try.func20, Try.ntmps20
          go_wp2
          go_ret
          exact ⟨rfl, HB.out⟩
  · have hin : 0 ≤ n ∧ 0 ≤ a ∧ n ≤ 5120 - a := by unfold gIn at hg; exact of_decide_eq_true hg
    obtain ⟨N, rfl⟩ : ∃ N : Nat, n = (N : Int) := ⟨n.toNat, by omega⟩
    have h1 : ((t == -1) || gE t lib a wt N) = b := by rw [← h]; unfold gM; rw [hg, Bool.true_and, Int.toNat_natCast]
    have h2 : a + (N : Int) ≤ 5120 := by omega
    have h3 : ¬ a < 0 := by omega
    have h4 : ¬ 5120 < a := by omega
    have h5 : ¬ 5120 - a < (N : Int) := by omega
    have h6 : ¬ (N : Int) < 0 := by omega
    have hw : wrap64 (5120 - a) = 5120 - a := by unfold wrap64; omega
    clear hg h hin
    go_enter Try.func20, Try.ntmps20
    go_upto_region 1 with (fail)
    generalize w.alloc (.cells #[.int .i64 t, .bool lib] 24) = W at *
    go_upto_region 3 with (fail)
    go_wp2
    go_loopw [9] (fun i wr => ∃ k : Nat, k ≤ N ∧ (t == -1 && decide (0 < k)) = false ∧ i = .int .i64 k ∧ (t == -1 || gE t lib a wt k) = true ∧ Below W.heap.size W wr) (fun i _ => ((N : Int) - intOf i).toNat)
    case atStart => exact ⟨0, by omega, by simp, rfl, by simp [gE], Below.refl _ _⟩
    case round =>
      obtain ⟨k, hk, hz, rfl, hg, hb⟩ := hrel
      have HG := Lib.hid hg
      have HW := Lib.hid hb
      have XW := Lib.hid (HX.out.keep HW.out)
      have HZ := Lib.hid hz
      have H1 := Lib.hid h1
      have c0 := XW.out.c0
      have c1 := XW.out.c1
      have lt := XW.out.lt
      have h3 : 0 ≤ a := by omega
      clear hg hb hw hz h1 h4 h5 h6
      by_cases hlt : k < N
      · cases ht : t == -1
        · have hb0 : (t != -1) = true := by rw [bne, ht]; rfl
          obtain ⟨p, hp⟩ : ∃ p : Int, a + (k : Int) = p := ⟨_, rfl⟩
          have hw1 : wrap64 (a + (k : Int)) = p := by unfold wrap64; omega
          obtain ⟨o, ho⟩ : ∃ x, gB t lib p wt = x := ⟨_, rfl⟩
          have HO := Lib.hid ho
          have HP := Lib.hid hp
          have HT := Lib.hid ht
          clear ho ht
          cases o
          · obtain rfl : false = b := by rw [← H1.out, HT.out, gE_not hlt (by rw [HP.out]; exact HO.out)]; rfl
            go_wp2_with (go_at_call 29; (with_reducible refine (r12one_is t p lib wt false HO.out _).mono ?_); rintro e w2 ⟨rfl, hb2⟩; have HV := Lib.hid (below_then HW.out hb2); clear hb2)
            go_ret
            exact ⟨rfl, below_then HB.out HV.out⟩
          · go_wp2_with (go_at_call 29; (with_reducible refine (r12one_is t p lib wt true HO.out _).mono ?_); rintro e w2 ⟨rfl, hb2⟩; have HV := Lib.hid (below_then HW.out hb2); clear hb2)
            go_roundw
            case rel => exact ⟨k + 1, by omega, rfl, by go_num, by rw [Bool.false_or, gE, HP.out, HO.out]; have := HG.out; rw [HT.out, Bool.false_or] at this; rw [this]; rfl, HV.out⟩
            case measure => simp [intOf]; omega
        · have hb0 : (t != -1) = false := by rw [bne, ht]; rfl
          obtain rfl : true = b := by rw [← H1.out, ht]; rfl
          clear ht
          go_wp2
          go_ret
          exact ⟨rfl, below_then HB.out HW.out⟩
      · obtain rfl : k = N := by omega
        obtain rfl : true = b := by rw [← H1.out, HG.out]
        go_wp2
        go_ret
        exact ⟨rfl, below_then HB.out HW.out⟩
section
variable (A : Option Addr) (n c : Nat) (l : List UInt8) (w : World)
set_option maxHeartbeats 1000000 in
theorem r12read_may (t a : Int) (lib : Bool) (ha : a ≤ 9223372036854775807) (h : gM t lib a 8 false = false) :
    Calls Try.prog 16 #[.slice A n c, .agg #[.int .i64 t, .bool lib], .int .i64 a] w fun e w' => e = .returned (.tuple #[.int .i64 0, .int .i64 (-9)]) ∧ Below w.heap.size w w' := by
  have HX := Lib.hid (Wh.new w 24 t lib)
  have HB := Lib.hid (below_one w (.cells #[.int .i64 t, .bool lib] 24))
  have HG := Lib.hid h
  have c0 := HX.out.c0
  have c1 := HX.out.c1
  have lt := HX.out.lt
  clear h
  go_enter Try.func16, Try.ntmps16
  go_wp2_with (go_at_call 20; refine (r12may_is t lib a 8 false false ha HG.out _).mono ?_; rintro e w1 ⟨rfl, hb1⟩; have HB := Lib.hid (below_then HB.out hb1); clear hb1 c0 c1 lt)
  go_ret2
  exact ⟨rfl, HB.out⟩
set_option maxHeartbeats 1000000 in
theorem r12read_bad (t a f : Int) (lib : Bool) (hn : n ≤ 1000000) (ha : InC a) (h : gM t lib a 8 false = true) (hf : mE n a = f) (hz : (f != 0) = true) :
    Calls Try.prog 16 #[.slice A n c, .agg #[.int .i64 t, .bool lib], .int .i64 a] w fun e w' => e = .returned (.tuple #[.int .i64 0, .int .i64 f]) ∧ Below w.heap.size w w' := by
  have HX := Lib.hid (Wh.new w 24 t lib)
  have HB := Lib.hid (below_one w (.cells #[.int .i64 t, .bool lib] 24))
  have HG := Lib.hid h
  have HF := Lib.hid hf
  have c0 := HX.out.c0
  have c1 := HX.out.c1
  have lt := HX.out.lt
  clear h hf
  go_enter Try.func16, Try.ntmps16
  go_wp2_with (first
    | (go_at_call 20; refine (r12may_is t lib a 8 false true ha.2 HG.out _).mono ?_; rintro e w1 ⟨rfl, hb1⟩; have HB := Lib.hid (below_then HB.out hb1); clear hb1 c0 c1 lt)
    | (go_at_call 23; refine (r3get_bad A n c _ a f hn ha HF.out hz).mono ?_; rintro e w' ⟨rfl, rfl⟩))
  go_ret2
  exact ⟨rfl, HB.out⟩
set_option maxHeartbeats 1000000 in
theorem r12read_good (t a x : Int) (i : Nat) (lib : Bool) (hn : n ≤ 1000000) (hm : Mem w A n c l) (hi : a = (i : Int)) (h : gM t lib a 8 false = true) (hf : mE n (i : Int) = 0) (hx : mC (mT l i 8) = x) :
    Calls Try.prog 16 #[.slice A n c, .agg #[.int .i64 t, .bool lib], .int .i64 a] w fun e w' => e = .returned (.tuple #[.int .i64 x, .int .i64 0]) ∧ Below w.heap.size w w' := by
  have HX := Lib.hid (Wh.new w 24 t lib)
  have HB := Lib.hid (below_one w (.cells #[.int .i64 t, .bool lib] 24))
  have HG := Lib.hid h
  have HF := Lib.hid hf
  have HI := Lib.hid hi
  have HM := Lib.hid hm
  have ha : a ≤ 9223372036854775807 := by have := gM_in h; omega
  have c0 := HX.out.c0
  have c1 := HX.out.c1
  have lt := HX.out.lt
  clear h hf hi hm
  go_enter Try.func16, Try.ntmps16
  go_wp2_with (first
    | (go_at_call 20; refine (r12may_is t lib a 8 false true ha HG.out _).mono ?_; rintro e w1 ⟨rfl, hb1⟩; have HB := Lib.hid (below_then HB.out hb1); clear hb1 c0 c1 lt)
    | (go_at_call 23; refine (r3get_good A n c l _ a i x hn (HM.out.below HB.out) HI.out HF.out hx).mono ?_; rintro e w' ⟨rfl, rfl⟩))
  go_ret2
  exact ⟨rfl, HB.out⟩
set_option maxHeartbeats 1000000 in
theorem r12write_may (t a x : Int) (lib : Bool) (ha : a ≤ 9223372036854775807) (h : gM t lib a 8 true = false) :
    Calls Try.prog 18 #[.slice A n c, .agg #[.int .i64 t, .bool lib], .int .i64 a, .int .i64 x] w fun e w' => e = .returned (.tuple #[.slice A n c, .int .i64 (-9)]) ∧ Below w.heap.size w w' := by
  have HX := Lib.hid (Wh.new w 24 t lib)
  have HB := Lib.hid (below_one w (.cells #[.int .i64 t, .bool lib] 24))
  have HG := Lib.hid h
  have c0 := HX.out.c0
  have c1 := HX.out.c1
  have lt := HX.out.lt
  clear h
  go_enter Try.func18, Try.ntmps18
  go_wp2_with (go_at_call 20; refine (r12may_is t lib a 8 true false ha HG.out _).mono ?_; rintro e w1 ⟨rfl, hb1⟩; have HB := Lib.hid (below_then HB.out hb1); clear hb1 c0 c1 lt)
  go_ret2
  exact ⟨rfl, HB.out⟩
set_option maxHeartbeats 1000000 in
theorem r12write_bad (t a x f : Int) (lib : Bool) (hn : n ≤ 1000000) (ha : InC a) (h : gM t lib a 8 true = true) (hf : mE n a = f) (hz : (f != 0) = true) :
    Calls Try.prog 18 #[.slice A n c, .agg #[.int .i64 t, .bool lib], .int .i64 a, .int .i64 x] w fun e w' => e = .returned (.tuple #[.slice A n c, .int .i64 f]) ∧ Below w.heap.size w w' := by
  have HX := Lib.hid (Wh.new w 24 t lib)
  have HB := Lib.hid (below_one w (.cells #[.int .i64 t, .bool lib] 24))
  have HG := Lib.hid h
  have HF := Lib.hid hf
  have c0 := HX.out.c0
  have c1 := HX.out.c1
  have lt := HX.out.lt
  clear h hf
  go_enter Try.func18, Try.ntmps18
  go_wp2_with (first
    | (go_at_call 20; refine (r12may_is t lib a 8 true true ha.2 HG.out _).mono ?_; rintro e w1 ⟨rfl, hb1⟩; have HB := Lib.hid (below_then HB.out hb1); clear hb1 c0 c1 lt)
    | (go_at_call 25; refine (r3put_bad A n c _ a x f hn ha HF.out hz).mono ?_; rintro e w' ⟨rfl, rfl⟩))
  go_ret2
  exact ⟨rfl, HB.out⟩
set_option maxHeartbeats 1000000 in
theorem r12write_good (t a x : Int) (i : Nat) (l' : List UInt8) (lib : Bool) (hn : n ≤ 1000000) (hm : Mem w A n c l) (hi : a = (i : Int)) (h : gM t lib a 8 true = true) (hf : mE n (i : Int) = 0) (hl : splice l i (mB x) = l') :
    Calls Try.prog 18 #[.slice A n c, .agg #[.int .i64 t, .bool lib], .int .i64 a, .int .i64 x] w (HoldPost w n l' 0) := by
  have HX := Lib.hid (Wh.new w 24 t lib)
  have HB := Lib.hid (below_one w (.cells #[.int .i64 t, .bool lib] 24))
  have HG := Lib.hid h
  have HF := Lib.hid hf
  have HI := Lib.hid hi
  have HM := Lib.hid hm
  have ha : a ≤ 9223372036854775807 := by have := gM_in h; omega
  have c0 := HX.out.c0
  have c1 := HX.out.c1
  have lt := HX.out.lt
  clear h hf hi hm
  go_enter Try.func18, Try.ntmps18
  go_wp2_with (first
    | (go_at_call 20; refine (r12may_is t lib a 8 true true ha HG.out _).mono ?_; rintro e w1 ⟨rfl, hb1⟩; have HB := Lib.hid (below_then HB.out hb1); clear hb1 c0 c1 lt)
    | (go_at_call 25; refine (r3put_good A n c l _ a i x l' HI.out hl hn (HM.out.below HB.out) HF.out).mono ?_; rintro e w2 ⟨A2, c2, rfl, hm2, hb2⟩; have H2 := Lib.hid hm2; have HB2 := Lib.hid ((keeps_of_below HB.out).trans hb2); clear hm2 hb2))
  go_ret2
  exact ⟨_, _, rfl, H2.out, HB2.out⟩
end
end Go.Proofs.Ytkehlaphiillpaa
