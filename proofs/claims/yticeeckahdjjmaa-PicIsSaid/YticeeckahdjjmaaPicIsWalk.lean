/-
  The call of the statement PicIs answers true at every memory, user, cell and double; of what was there nothing has changed.
-/
import Derived.Test.YticeeckahdjjmaaPicAwake
import Derived.Test.YticeeckahdjjmaaRef10All
namespace Go.Proofs.Yticeeckahdjjmaa
open Go.RowKit

theorem dbl_un {l h : Int} (hl : InC l) (hh : InC h) : ∃ q : Nat, q < 340282366920938463463374607431768211456 ∧ l = dLo q ∧ h = dHi q := by
  refine ⟨(dV l h % 340282366920938463463374607431768211456).toNat, by omega, ?_, ?_⟩
  · unfold InC at hl hh; unfold dLo dV wrap64; omega
  · unfold InC at hl hh; unfold dHi dV wrap64; omega
section
variable (A : Option Addr) (n c : Nat) (l : List UInt8) (w : World)
set_option maxRecDepth 100000 in
theorem is_out (u ch lo hi : Int) (hn : 700 < n) :
    Calls Try.prog 3 #[.slice A n c, .int .i64 u, .int .i64 ch, .agg #[.int .i64 lo, .int .i64 hi]] w fun e w' => e = .returned (.bool true) ∧ Keeps w w' := by
  have d0 : decide ((700 : Int) < (n : Int)) = true := decide_eq_true (by omega)
  go_enter Try.func3, Try.ntmps3
  go_wp2_with (go_at_call 7; refine (pawake_any _).mono ?_; rintro e w1 ⟨rfl, hk1⟩; have HK1 := Lib.hid (((Keeps.refl w).alloc _).trans hk1); clear hk1)
  go_ret
  exact ⟨rfl, HK1.out⟩
set_option maxHeartbeats 4000000 in
set_option maxRecDepth 100000 in
theorem is_in (u ch : Int) (q : Nat) (hq : q < 340282366920938463463374607431768211456) (hn : n ≤ 700) (hm : Mem w A n c l) :
    Calls Try.prog 3 #[.slice A n c, .int .i64 u, .int .i64 ch, .agg #[.int .i64 (dLo q), .int .i64 (dHi q)]] w fun e w' => e = .returned (.bool true) ∧ Keeps w w' := by
  have d0 : decide ((700 : Int) < (n : Int)) = false := decide_eq_false (by omega)
  have hn2 : n ≤ 1000000 := by omega
  have HM := Lib.hid hm
  have hlen := hm.len
  obtain ⟨LB, hLB⟩ : ∃ x, gL l u = x := ⟨_, rfl⟩
  obtain ⟨EB, hEB⟩ : ∃ x, oE n u 8 = x := ⟨_, rfl⟩
  obtain ⟨LH, hLH⟩ : ∃ x, hL l u ch = x := ⟨_, rfl⟩
  obtain ⟨EH, hEH⟩ : ∃ x, hE l u = x := ⟨_, rfl⟩
  obtain ⟨LD, hLD⟩ : ∃ x, dL l u q = x := ⟨_, rfl⟩
  obtain ⟨KD, hKD⟩ : ∃ x, dQ l u q = x := ⟨_, rfl⟩
  obtain ⟨ED, hED⟩ : ∃ x, dE l u = x := ⟨_, rfl⟩
  obtain ⟨LA, hLA⟩ : ∃ x, aL l u q = x := ⟨_, rfl⟩
  obtain ⟨EA, hEA⟩ : ∃ x, aE 200 l u q = x := ⟨_, rfl⟩
  obtain ⟨LS, hLS⟩ : ∃ x, psL l u ch = x := ⟨_, rfl⟩
  obtain ⟨ES, hES⟩ : ∃ x, psE l u ch = x := ⟨_, rfl⟩
  obtain ⟨EX, hEX⟩ : ∃ x, nH l u = x := ⟨_, rfl⟩
  obtain ⟨EN, hEN⟩ : ∃ x, nN l u = x := ⟨_, rfl⟩
  obtain ⟨EE, hEE⟩ : ∃ x, nE l u = x := ⟨_, rfl⟩
  obtain ⟨BX0, hBX0⟩ : ∃ x, bX l u = x := ⟨_, rfl⟩
  obtain ⟨BE0, hBE0⟩ : ∃ x, bE l u = x := ⟨_, rfl⟩
  obtain ⟨lo, hlo⟩ : ∃ x, dLo (q : Int) = x := ⟨_, rfl⟩
  obtain ⟨hi, hhi⟩ : ∃ x, dHi (q : Int) = x := ⟨_, rfl⟩
  obtain ⟨lo2, hlo2⟩ : ∃ x, dLo (KD : Int) = x := ⟨_, rfl⟩
  obtain ⟨hi2, hhi2⟩ : ∃ x, dHi (KD : Int) = x := ⟨_, rfl⟩
  have HB1 : Hid (∀ w, Mem w A n c l → Calls Try.prog 8 #[.slice A n c, .int .i64 u] w (HoldPost w n LB EB)) := Lib.hid fun w h => by have := pbegin_any A n c l w u hn2 h; rw [hLB, hEB] at this; exact this
  have HB2 : Hid (∀ w, Mem w A n c l → Calls Try.prog 9 #[.slice A n c, .int .i64 u] w (HoldPost w n LB EB)) := Lib.hid fun w h => by have := rpbegin_any A n c l w u hn2 h; rw [hLB, hEB] at this; exact this
  have HH1 : Hid (∀ w, Mem w A n c l → Calls Try.prog 10 #[.slice A n c, .int .i64 u, .int .i64 ch] w (HoldPost w n LH EH)) := Lib.hid fun w h => phold_is A n c l w u ch EH LH hn2 h hEH hLH
  have HH2 : Hid (∀ w, Mem w A n c l → Calls Try.prog 11 #[.slice A n c, .int .i64 u, .int .i64 ch] w (HoldPost w n LH EH)) := Lib.hid fun w h => rphold_is A n c l w u ch EH LH hn2 h hEH hLH
  have HD1 : Hid (∀ w, Mem w A n c l → Calls Try.prog 12 #[.slice A n c, .int .i64 u, .agg #[.int .i64 lo, .int .i64 hi]] w fun e w' => ∃ A' c', e = .returned (.tuple #[.slice A' n c', .agg #[.int .i64 lo2, .int .i64 hi2], .int .i64 ED]) ∧ Mem w' A' n c' LD ∧ Keeps w w') := Lib.hid fun w h => pdigit_is A n c l w u lo hi ED q KD LD lo2 hi2 hlo hhi hED hLD hKD hlo2 hhi2 hq hn2 h
  have HD2 : Hid (∀ w, Mem w A n c l → Calls Try.prog 13 #[.slice A n c, .int .i64 u, .agg #[.int .i64 lo, .int .i64 hi]] w fun e w' => ∃ A' c', e = .returned (.tuple #[.slice A' n c', .agg #[.int .i64 lo2, .int .i64 hi2], .int .i64 ED]) ∧ Mem w' A' n c' LD ∧ Keeps w w') := Lib.hid fun w h => rpdigit_is A n c l w u lo hi ED q KD LD lo2 hi2 hlo hhi hED hLD hKD hlo2 hhi2 hq hn2 h
  have HA1 : Hid (∀ w, Mem w A n c l → Calls Try.prog 14 #[.slice A n c, .int .i64 u, .agg #[.int .i64 lo, .int .i64 hi]] w fun e w' => ∃ A' c', e = .returned (.tuple #[.slice A' n c', .agg #[.int .i64 0, .int .i64 0], .int .i64 EA]) ∧ Mem w' A' n c' LA ∧ Keeps w w') := Lib.hid fun w h => pall_is A n c l w u lo hi EA q LA hlo hhi hEA hLA hq hn2 h
  have HA2 : Hid (∀ w, Mem w A n c l → Calls Try.prog 15 #[.slice A n c, .int .i64 u, .agg #[.int .i64 lo, .int .i64 hi]] w fun e w' => ∃ A' c', e = .returned (.tuple #[.slice A' n c', .agg #[.int .i64 0, .int .i64 0], .int .i64 EA]) ∧ Mem w' A' n c' LA ∧ Keeps w w') := Lib.hid fun w h => rpall_is A n c l w u lo hi EA q LA hlo hhi hEA hLA hq hn2 h
  have HS1 : Hid (∀ w, Mem w A n c l → Calls Try.prog 16 #[.slice A n c, .int .i64 u, .int .i64 ch] w (HoldPost w n LS ES)) := Lib.hid fun w h => by have := psign_any A n c l w u ch hn2 h; rw [hLS, hES] at this; exact this
  have HS2 : Hid (∀ w, Mem w A n c l → Calls Try.prog 17 #[.slice A n c, .int .i64 u, .int .i64 ch] w (HoldPost w n LS ES)) := Lib.hid fun w h => by have := rpsign_any A n c l w u ch hn2 h; rw [hLS, hES] at this; exact this
  have HE1 : Hid (∀ w, Mem w A n c l → Calls Try.prog 18 #[.slice A n c, .int .i64 u] w fun e w' => e = .returned (.tuple #[.int .i64 EX, .int .i64 EN, .int .i64 EE]) ∧ w = w') := Lib.hid fun w h => by have := pend_any A n c l w u hn2 h; rw [hEX, hEN, hEE] at this; exact this
  have HE2 : Hid (∀ w, Mem w A n c l → Calls Try.prog 19 #[.slice A n c, .int .i64 u] w fun e w' => e = .returned (.tuple #[.int .i64 EX, .int .i64 EN, .int .i64 EE]) ∧ w = w') := Lib.hid fun w h => by have := rpend_any A n c l w u hn2 h; rw [hEX, hEN, hEE] at this; exact this
  have HC1 : Hid (∀ w, Mem w A n c l → Calls Try.prog 20 #[.slice A n c, .int .i64 u] w fun e w' => e = .returned (.tuple #[.int .i64 BX0, .int .i64 BE0]) ∧ w = w') := Lib.hid fun w h => by have := pbase_any A n c l w u hn2 h; rw [hBX0, hBE0] at this; exact this
  have HC2 : Hid (∀ w, Mem w A n c l → Calls Try.prog 21 #[.slice A n c, .int .i64 u] w fun e w' => e = .returned (.tuple #[.int .i64 BX0, .int .i64 BE0]) ∧ w = w') := Lib.hid fun w h => by have := rpbase_any A n c l w u hn2 h; rw [hBX0, hBE0] at this; exact this
  have qEB : (EB == EB) = true := by simp
  have nEB : (EB != EB) = false := by simp
  have qEH : (EH == EH) = true := by simp
  have nEH : (EH != EH) = false := by simp
  have qED : (ED == ED) = true := by simp
  have nED : (ED != ED) = false := by simp
  have qEA : (EA == EA) = true := by simp
  have nEA : (EA != EA) = false := by simp
  have qES : (ES == ES) = true := by simp
  have nES : (ES != ES) = false := by simp
  have qEX : (EX == EX) = true := by simp
  have nEX : (EX != EX) = false := by simp
  have qEN : (EN == EN) = true := by simp
  have nEN : (EN != EN) = false := by simp
  have qEE : (EE == EE) = true := by simp
  have nEE : (EE != EE) = false := by simp
  have qBX0 : (BX0 == BX0) = true := by simp
  have nBX0 : (BX0 != BX0) = false := by simp
  have qBE0 : (BE0 == BE0) = true := by simp
  have nBE0 : (BE0 != BE0) = false := by simp
  have qlo2 : (lo2 == lo2) = true := by simp
  have nlo2 : (lo2 != lo2) = false := by simp
  have qhi2 : (hi2 == hi2) = true := by simp
  have nhi2 : (hi2 != hi2) = false := by simp
  rw [hlo, hhi]
  clear hm hlen hq hLB hEB hLH hEH hLD hKD hED hLA hEA hLS hES hEX hEN hEE hBX0 hBE0 hlo hhi hlo2 hhi2
  go_enter Try.func3, Try.ntmps3
  go_wp2_with (first
    | (go_at_call 7; refine (pawake_any _).mono ?_; rintro e w1 ⟨rfl, hk⟩; have BX := Lib.hid (Two.keeps (w := w.alloc (.cells #[.int .i64 lo, .int .i64 hi] 24)) (B := w.heap.size) (heap_alloc_new w _) hk); have HK := Lib.hid (((Keeps.refl w).alloc _).trans hk); clear hk)
    | (go_at_call 8; refine (HB1.out _ (HM.out.keeps HK.out)).mono ?_; rintro e w2 ⟨Aa, ca, rfl, hm, hk⟩; have Ma := Lib.hid hm; have HK := Lib.hid (HK.out.trans hk); have BX := Lib.hid (BX.out.keeps hk); clear hm hk)
    | (go_at_call 9; refine (HB2.out _ (HM.out.keeps HK.out)).mono ?_; rintro e w3 ⟨Ab, cb, rfl, hm, hk⟩; have Mb := Lib.hid hm; have Ma := Lib.hid (Ma.out.keeps hk); have HK := Lib.hid (HK.out.trans hk); have BX := Lib.hid (BX.out.keeps hk); clear hm hk)
    | (go_at_call 10; refine (HH1.out _ (HM.out.keeps HK.out)).mono ?_; rintro e w4 ⟨Ax, cx, rfl, hm, hk⟩; have Mx := Lib.hid hm; have Ma := Lib.hid (Ma.out.keeps hk); have Mb := Lib.hid (Mb.out.keeps hk); have HK := Lib.hid (HK.out.trans hk); have BX := Lib.hid (BX.out.keeps hk); clear hm hk)
    | (go_at_call 11; refine (HH2.out _ (HM.out.keeps HK.out)).mono ?_; rintro e w5 ⟨Ay, cy, rfl, hm, hk⟩; have My := Lib.hid hm; have Ma := Lib.hid (Ma.out.keeps hk); have Mb := Lib.hid (Mb.out.keeps hk); have Mx := Lib.hid (Mx.out.keeps hk); have HK := Lib.hid (HK.out.trans hk); have BX := Lib.hid (BX.out.keeps hk); clear hm hk; have hsa := Ma.out.str; have hsb := Mb.out.str; have hsx := Mx.out.str; have hsy := My.out.str; obtain ⟨x0, x1, -, -⟩ := BX.out.cells; have hl5 := BX.out.lt)
    | (go_at_call 12; refine (HD1.out _ (HM.out.keeps HK.out)).mono ?_; rintro e w6 ⟨Ap, cp, rfl, hm, hk⟩; have Mp := Lib.hid (hm.alloc (.cells #[.int .i64 lo2, .int .i64 hi2] 24)); have Tp : Hid (Two (w6.alloc (.cells #[.int .i64 lo2, .int .i64 hi2] 24)) w6.heap.size lo2 hi2) := Lib.hid (heap_alloc_new w6 (.cells #[.int .i64 lo2, .int .i64 hi2] 24)); have BX := Lib.hid (BX.out.keeps hk); obtain ⟨x0, x1, -, -⟩ := BX.out.cells; have hlw6 := BX.out.lt; have BX := Lib.hid (BX.out.keeps ((Keeps.refl _).alloc (.cells #[.int .i64 lo2, .int .i64 hi2] 24))); have HK := Lib.hid ((HK.out.trans hk).alloc (.cells #[.int .i64 lo2, .int .i64 hi2] 24)); clear hm hk)
    | (go_at_call 13; refine (HD2.out _ (HM.out.keeps HK.out)).mono ?_; rintro e w7 ⟨Ar, cr, rfl, hm, hk⟩; have Mr := Lib.hid (hm.alloc (.cells #[.int .i64 lo2, .int .i64 hi2] 24)); have Mp := Lib.hid ((Mp.out.keeps hk).alloc (.cells #[.int .i64 lo2, .int .i64 hi2] 24)); have Tp := Lib.hid (Tp.out.keeps hk); obtain ⟨tp0, tp1, -, -⟩ := Tp.out.cells; have tlpw7 := Tp.out.lt; have Tp := Lib.hid (Tp.out.keeps ((Keeps.refl _).alloc (.cells #[.int .i64 lo2, .int .i64 hi2] 24))); have Tr : Hid (Two (w7.alloc (.cells #[.int .i64 lo2, .int .i64 hi2] 24)) w7.heap.size lo2 hi2) := Lib.hid (heap_alloc_new w7 (.cells #[.int .i64 lo2, .int .i64 hi2] 24)); have BX := Lib.hid (BX.out.keeps hk); obtain ⟨x0, x1, -, -⟩ := BX.out.cells; have hlw7 := BX.out.lt; have BX := Lib.hid (BX.out.keeps ((Keeps.refl _).alloc (.cells #[.int .i64 lo2, .int .i64 hi2] 24))); have HK := Lib.hid ((HK.out.trans hk).alloc (.cells #[.int .i64 lo2, .int .i64 hi2] 24)); clear hm hk)
    | (go_at_call 14; refine (HA1.out _ (HM.out.keeps HK.out)).mono ?_; rintro e w8 ⟨At, ct, rfl, hm, hk⟩; have Mt := Lib.hid (hm.alloc (.cells #[.int .i64 0, .int .i64 0] 24)); have Mp := Lib.hid ((Mp.out.keeps hk).alloc (.cells #[.int .i64 0, .int .i64 0] 24)); have Mr := Lib.hid ((Mr.out.keeps hk).alloc (.cells #[.int .i64 0, .int .i64 0] 24)); have Tp := Lib.hid (Tp.out.keeps hk); obtain ⟨tp0, tp1, -, -⟩ := Tp.out.cells; have tlpw8 := Tp.out.lt; have Tp := Lib.hid (Tp.out.keeps ((Keeps.refl _).alloc (.cells #[.int .i64 0, .int .i64 0] 24))); have Tr := Lib.hid (Tr.out.keeps hk); obtain ⟨tr0, tr1, -, -⟩ := Tr.out.cells; have tlrw8 := Tr.out.lt; have Tr := Lib.hid (Tr.out.keeps ((Keeps.refl _).alloc (.cells #[.int .i64 0, .int .i64 0] 24))); have Tt : Hid (Two (w8.alloc (.cells #[.int .i64 0, .int .i64 0] 24)) w8.heap.size 0 0) := Lib.hid (heap_alloc_new w8 (.cells #[.int .i64 0, .int .i64 0] 24)); have BX := Lib.hid (BX.out.keeps hk); obtain ⟨x0, x1, -, -⟩ := BX.out.cells; have hlw8 := BX.out.lt; have BX := Lib.hid (BX.out.keeps ((Keeps.refl _).alloc (.cells #[.int .i64 0, .int .i64 0] 24))); have HK := Lib.hid ((HK.out.trans hk).alloc (.cells #[.int .i64 0, .int .i64 0] 24)); clear hm hk)
    | (go_at_call 15; refine (HA2.out _ (HM.out.keeps HK.out)).mono ?_; rintro e w9 ⟨Av, cv, rfl, hm, hk⟩; have Mv := Lib.hid (hm.alloc (.cells #[.int .i64 0, .int .i64 0] 24)); have Mp := Lib.hid ((Mp.out.keeps hk).alloc (.cells #[.int .i64 0, .int .i64 0] 24)); have Mr := Lib.hid ((Mr.out.keeps hk).alloc (.cells #[.int .i64 0, .int .i64 0] 24)); have Mt := Lib.hid ((Mt.out.keeps hk).alloc (.cells #[.int .i64 0, .int .i64 0] 24)); have Tp := Lib.hid (Tp.out.keeps hk); obtain ⟨tp0, tp1, -, -⟩ := Tp.out.cells; have tlpw9 := Tp.out.lt; have Tp := Lib.hid (Tp.out.keeps ((Keeps.refl _).alloc (.cells #[.int .i64 0, .int .i64 0] 24))); have Tr := Lib.hid (Tr.out.keeps hk); obtain ⟨tr0, tr1, -, -⟩ := Tr.out.cells; have tlrw9 := Tr.out.lt; have Tr := Lib.hid (Tr.out.keeps ((Keeps.refl _).alloc (.cells #[.int .i64 0, .int .i64 0] 24))); have Tt := Lib.hid (Tt.out.keeps hk); obtain ⟨tt0, tt1, -, -⟩ := Tt.out.cells; have tltw9 := Tt.out.lt; have Tt := Lib.hid (Tt.out.keeps ((Keeps.refl _).alloc (.cells #[.int .i64 0, .int .i64 0] 24))); have Tv : Hid (Two (w9.alloc (.cells #[.int .i64 0, .int .i64 0] 24)) w9.heap.size 0 0) := Lib.hid (heap_alloc_new w9 (.cells #[.int .i64 0, .int .i64 0] 24)); have BX := Lib.hid (BX.out.keeps hk); obtain ⟨x0, x1, -, -⟩ := BX.out.cells; have hlw9 := BX.out.lt; have BX := Lib.hid (BX.out.keeps ((Keeps.refl _).alloc (.cells #[.int .i64 0, .int .i64 0] 24))); have HK := Lib.hid ((HK.out.trans hk).alloc (.cells #[.int .i64 0, .int .i64 0] 24)); clear hm hk; have hsp := Mp.out.str; have hsr := Mr.out.str; have hst := Mt.out.str; have hsv := Mv.out.str)
    | (go_at_call 16; refine (HS1.out _ (HM.out.keeps HK.out)).mono ?_; rintro e w10 ⟨Af, cf, rfl, hm, hk⟩; have Mf := Lib.hid hm; have HK := Lib.hid (HK.out.trans hk); have BX := Lib.hid (BX.out.keeps hk); clear hm hk)
    | (go_at_call 17; refine (HS2.out _ (HM.out.keeps HK.out)).mono ?_; rintro e w11 ⟨Ag, cg, rfl, hm, hk⟩; have Mg := Lib.hid hm; have Mf := Lib.hid (Mf.out.keeps hk); have HK := Lib.hid (HK.out.trans hk); have BX := Lib.hid (BX.out.keeps hk); clear hm hk; have hsf := Mf.out.str; have hsg := Mg.out.str)
    | (go_at_call 18; refine (HE1.out _ (HM.out.keeps HK.out)).mono ?_; rintro e w' ⟨rfl, rfl⟩)
    | (go_at_call 19; refine (HE2.out _ (HM.out.keeps HK.out)).mono ?_; rintro e w' ⟨rfl, rfl⟩)
    | (go_at_call 20; refine (HC1.out _ (HM.out.keeps HK.out)).mono ?_; rintro e w' ⟨rfl, rfl⟩)
    | (go_at_call 21; refine (HC2.out _ (HM.out.keeps HK.out)).mono ?_; rintro e w' ⟨rfl, rfl⟩))
  go_ret
  exact ⟨rfl, HK.out⟩
theorem picIs_walk (u ch lo hi : Int) (hm : Mem w A n c l) (hlo : InC lo) (hhi : InC hi) :
    Calls Try.prog 3 #[.slice A n c, .int .i64 u, .int .i64 ch, .agg #[.int .i64 lo, .int .i64 hi]] w fun e w' => e = .returned (.bool true) ∧ Keeps w w' := by
  by_cases h : n ≤ 700
  · obtain ⟨q, hq, rfl, rfl⟩ := dbl_un hlo hhi
    exact is_in A n c l w u ch q hq h hm
  · exact is_out A n c w u ch lo hi (by omega)
end
end Go.Proofs.Yticeeckahdjjmaa
