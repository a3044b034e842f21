/-
  GuardWrites walked: what may not be written stays; what is written is there; no other byte changes.
-/
import Derived.Test.YtkehlaphiillpaaGuardBoth
namespace Go.Proofs.Ytkehlaphiillpaa
open Go.RowKit

section
variable (A : Option Addr) (n c : Nat) (l : List UInt8) (w : World)
set_option maxRecDepth 100000 in
theorem gwr_out (t a x q : Int) (lib : Bool) (hn : 5120 < n) :
    Calls Try.prog 6 #[.slice A n c, .agg #[.int .i64 t, .bool lib], .int .i64 a, .int .i64 x, .int .i64 q] w fun e w' => e = .returned (.bool true) ∧ Keeps w w' := by
  have d0 : decide ((5120 : Int) < (n : Int)) = true := decide_eq_true (by omega)
  have HX := Lib.hid (Wh.new w 24 t lib)
  have HK := Lib.hid (keeps_of_below (below_one w (.cells #[.int .i64 t, .bool lib] 24)))
  have c0 := HX.out.c0
  have c1 := HX.out.c1
  have lt := HX.out.lt
  go_enter Try.func6, Try.ntmps6
  go_wp2_with (go_at_call 9; (with_reducible refine (awake_any _).mono ?_); rintro e we ⟨rfl, hb⟩; have hk := keeps_of_below hb; have HX := Lib.hid (HX.out.keeps hk); have HK := Lib.hid (HK.out.trans hk); clear hk hb c0 c1 lt; have c0 := HX.out.c0; have c1 := HX.out.c1; have lt := HX.out.lt)
  go_ret
  exact ⟨rfl, HK.out⟩
set_option maxHeartbeats 4000000 in
set_option maxRecDepth 100000 in
/-- It is not written. -/
theorem gwr_not (t a x q y e0 g : Int) (lib : Bool) (hn : n ≤ 5120) (HM : Hid (Mem w A n c l)) (hg : g = -9 ∨ g = -23)
    (D1 : Hid (∀ w, Mem w A n c l → Calls Try.prog 14 #[.slice A n c, .agg #[.int .i64 t, .bool lib], .int .i64 a] w (RdPost w y e0)))
    (W1 : Hid (∀ w, Calls Try.prog 17 #[.slice A n c, .agg #[.int .i64 t, .bool lib], .int .i64 a, .int .i64 x] w fun e w' => e = .returned (.tuple #[.slice A n c, .int .i64 g]) ∧ Below w.heap.size w w')) :
    Calls Try.prog 6 #[.slice A n c, .agg #[.int .i64 t, .bool lib], .int .i64 a, .int .i64 x, .int .i64 q] w fun e w' => e = .returned (.bool true) ∧ Keeps w w' := by
  have d0 : decide ((5120 : Int) < (n : Int)) = false := decide_eq_false (by omega)
  have HX := Lib.hid (Wh.new w 24 t lib)
  have HK := Lib.hid (keeps_of_below (below_one w (.cells #[.int .i64 t, .bool lib] 24)))
  have c0 := HX.out.c0
  have c1 := HX.out.c1
  have lt := HX.out.lt
  rcases hg with rfl | rfl
  all_goals
    go_enter Try.func6, Try.ntmps6
    go_wp2_with (first
      | (go_at_call 9; (with_reducible refine (awake_any _).mono ?_); rintro e we ⟨rfl, hb⟩; have hk := keeps_of_below hb; have HX := Lib.hid (HX.out.keeps hk); have HK := Lib.hid (HK.out.trans hk); clear hk hb c0 c1 lt; have c0 := HX.out.c0; have c1 := HX.out.c1; have lt := HX.out.lt)
      | (go_at_call 15; (with_reducible refine (ours_is _ _ _).mono ?_); rintro e we ⟨rfl, hb⟩; have hk := keeps_of_below hb; have HX := Lib.hid (HX.out.keeps hk); have HK := Lib.hid (HK.out.trans hk); clear hk hb c0 c1 lt; have c0 := HX.out.c0; have c1 := HX.out.c1; have lt := HX.out.lt)
      | (go_at_call 17; (with_reducible refine (W1.out _).mono ?_); rintro e we ⟨rfl, hb⟩; have hk := keeps_of_below hb; have HX := Lib.hid (HX.out.keeps hk); have HK := Lib.hid (HK.out.trans hk); clear hk hb c0 c1 lt; have c0 := HX.out.c0; have c1 := HX.out.c1; have lt := HX.out.lt)
      | (go_at_call 14; (with_reducible refine (D1.out _ (HM.out.keeps HK.out)).mono ?_); rintro e we ⟨rfl, hb⟩; have hk := keeps_of_below hb; have HX := Lib.hid (HX.out.keeps hk); have HK := Lib.hid (HK.out.trans hk); have hs := (HM.out.keeps HK.out).str; clear hk hb c0 c1 lt; have c0 := HX.out.c0; have c1 := HX.out.c1; have lt := HX.out.lt))
    go_ret
    exact ⟨rfl, HK.out⟩
set_option maxHeartbeats 4000000 in
set_option maxRecDepth 100000 in
/-- It is written. -/
theorem gwr_done (t x q : Int) (i : Nat) (a : Int) (lib : Bool) (L0 : List UInt8) (hn : n ≤ 5120) (hm : Mem w A n c l) (hi : a = (i : Int)) (h : gM t lib a 8 true = true) (hf : mE n (i : Int) = 0) (hl : splice l i (mB x) = L0) (hx : InC x) :
    Calls Try.prog 6 #[.slice A n c, .agg #[.int .i64 t, .bool lib], .int .i64 a, .int .i64 x, .int .i64 q] w fun e w' => e = .returned (.bool true) ∧ Keeps w w' := by
  have d0 : decide ((5120 : Int) < (n : Int)) = false := decide_eq_false (by omega)
  have hn2 : n ≤ 1000000 := by omega
  obtain ⟨i', hi', hle, _, _⟩ := mE_ok hf
  obtain rfl : i = i' := by omega
  have hlen := hm.1
  have hback : mC (mT L0 i 8) = x := by rw [← hl, mT_splice _ _ _ _ (mB_length x) (by omega), mC_mB hx]
  have HR := Lib.hid (gM_read h)
  have HG := Lib.hid h
  have HL := Lib.hid hl
  have HI := Lib.hid hi
  have HF := Lib.hid hf
  have HM := Lib.hid hm
  have HBK := Lib.hid hback
  have q1 : (x != x) = false := by simp
  have q2 : ((n : Int) != (n : Int)) = false := by simp
  have q3 : (n != n) = false := by simp
  have hq : (q < 0) ∨ (0 ≤ q ∧ (n : Int) ≤ q) ∨ (0 ≤ q ∧ q < n ∧ L0.getD q.toNat 0 = l.getD q.toNat 0) ∨ (0 ≤ q ∧ q < n ∧ ((L0.getD q.toNat 0).toNat : Int) ≠ ((l.getD q.toNat 0).toNat : Int) ∧ gM t lib q 1 true = true) := by
    by_cases h1 : q < 0
    · exact .inl h1
    by_cases h2 : (n : Int) ≤ q
    · exact .inr (.inl ⟨by omega, h2⟩)
    by_cases h3 : L0.getD q.toNat 0 = l.getD q.toNat 0
    · exact .inr (.inr (.inl ⟨by omega, by omega, h3⟩))
    refine .inr (.inr (.inr ⟨by omega, by omega, fun h4 => h3 (UInt8.toNat_inj.1 (by omega)), ?_⟩))
    have h5 : i ≤ q.toNat ∧ q.toNat < i + 8 := by
      by_cases h5 : i ≤ q.toNat ∧ q.toNat < i + 8
      · exact h5
      · refine absurd ?_ h3
        rw [← hl, List.getD_eq_getElem?_getD, List.getD_eq_getElem?_getD, splice_get _ _ _ _ (by rw [mB_length]; omega), if_neg (by rw [mB_length]; exact h5)]
    have h6 := gM_parts t lib a 8 (q - a) true (by omega)
    rw [h] at h6
    have h7 : gM t lib (a + (q - a)) (8 - (q - a)) true = true := by
      cases h8 : gM t lib (a + (q - a)) (8 - (q - a)) true
      · rw [h8, Bool.and_false] at h6; cases h6
      · rfl
    rw [show a + (q - a) = q by omega, gM_parts t lib q (8 - (q - a)) 1 true (by omega)] at h7
    rw [Bool.and_eq_true] at h7
    exact h7.1
  have HX := Lib.hid (Wh.new w 24 t lib)
  have HK := Lib.hid (keeps_of_below (below_one w (.cells #[.int .i64 t, .bool lib] 24)))
  have c0 := HX.out.c0
  have c1 := HX.out.c1
  have lt := HX.out.lt
  clear h hl hi hf hm hback hi' hle
  obtain ⟨d, hd⟩ : ∃ d, d = q.toNat := ⟨_, rfl⟩
  rcases hq with h1 | ⟨h1, h2⟩ | ⟨h1, h2, h3⟩ | ⟨h1, h2, h3, h4⟩
  · have e1 : decide (0 ≤ q) = false := decide_eq_false (by omega)
    go_enter Try.func6, Try.ntmps6
    go_upto_region 12 with (first
      | (go_at_call 9; (with_reducible refine (awake_any _).mono ?_); rintro e we ⟨rfl, hb⟩; have hk := keeps_of_below hb; have HX := Lib.hid (HX.out.keeps hk); have HK := Lib.hid (HK.out.trans hk); clear hk hb c0 c1 lt; have c0 := HX.out.c0; have c1 := HX.out.c1; have lt := HX.out.lt)
      | (go_at_call 15; (with_reducible refine (ours_is _ _ _).mono ?_); rintro e we ⟨rfl, hb⟩; have hk := keeps_of_below hb; have HX := Lib.hid (HX.out.keeps hk); have HK := Lib.hid (HK.out.trans hk); have Mp := Lib.hid (Mp.out.keeps hk); clear hk hb c0 c1 lt; have c0 := HX.out.c0; have c1 := HX.out.c1; have lt := HX.out.lt)
      | (go_at_call 15; (with_reducible refine (ours_is _ _ _).mono ?_); rintro e we ⟨rfl, hb⟩; have hk := keeps_of_below hb; have HX := Lib.hid (HX.out.keeps hk); have HK := Lib.hid (HK.out.trans hk); clear hk hb c0 c1 lt; have c0 := HX.out.c0; have c1 := HX.out.c1; have lt := HX.out.lt)
      | (go_at_call 17; (with_reducible refine (write_good A n c l _ t a x i L0 lib hn2 (HM.out.keeps HK.out) HI.out HG.out HF.out HL.out).mono ?_); rintro e wp ⟨Ap, cp, rfl, hm, hb⟩; have hk := keeps_of_below hb; have HX := Lib.hid (HX.out.keeps hk); have HK := Lib.hid (HK.out.trans hk); have Mp := Lib.hid hm; clear hm; clear hk hb c0 c1 lt; have c0 := HX.out.c0; have c1 := HX.out.c1; have lt := HX.out.lt)
      | (go_at_call 14; (with_reducible refine (read_good Ap n cp L0 _ t a x i lib hn2 Mp.out HI.out HR.out HF.out HBK.out).mono ?_); rintro e wr ⟨rfl, hb⟩; have hk := keeps_of_below hb; have HX := Lib.hid (HX.out.keeps hk); have HK := Lib.hid (HK.out.trans hk); have Mp := Lib.hid (Mp.out.keeps hk); clear hk hb c0 c1 lt; have c0 := HX.out.c0; have c1 := HX.out.c1; have lt := HX.out.lt)
      | (go_at_call 21; (with_reducible refine (get_good Ap n cp L0 _ a i x hn2 Mp.out HI.out HF.out HBK.out).mono ?_); rintro e we ⟨rfl, rfl⟩))
    go_quiet (fail)
    go_wp2
    go_ret
    exact ⟨rfl, (HK.out).drewN _⟩
  · have e1 : decide (0 ≤ q) = true := decide_eq_true h1
    have e2 : decide (q < (n : Int)) = false := decide_eq_false (by omega)
    go_enter Try.func6, Try.ntmps6
    go_upto_region 12 with (first
      | (go_at_call 9; (with_reducible refine (awake_any _).mono ?_); rintro e we ⟨rfl, hb⟩; have hk := keeps_of_below hb; have HX := Lib.hid (HX.out.keeps hk); have HK := Lib.hid (HK.out.trans hk); clear hk hb c0 c1 lt; have c0 := HX.out.c0; have c1 := HX.out.c1; have lt := HX.out.lt)
      | (go_at_call 15; (with_reducible refine (ours_is _ _ _).mono ?_); rintro e we ⟨rfl, hb⟩; have hk := keeps_of_below hb; have HX := Lib.hid (HX.out.keeps hk); have HK := Lib.hid (HK.out.trans hk); have Mp := Lib.hid (Mp.out.keeps hk); clear hk hb c0 c1 lt; have c0 := HX.out.c0; have c1 := HX.out.c1; have lt := HX.out.lt)
      | (go_at_call 15; (with_reducible refine (ours_is _ _ _).mono ?_); rintro e we ⟨rfl, hb⟩; have hk := keeps_of_below hb; have HX := Lib.hid (HX.out.keeps hk); have HK := Lib.hid (HK.out.trans hk); clear hk hb c0 c1 lt; have c0 := HX.out.c0; have c1 := HX.out.c1; have lt := HX.out.lt)
      | (go_at_call 17; (with_reducible refine (write_good A n c l _ t a x i L0 lib hn2 (HM.out.keeps HK.out) HI.out HG.out HF.out HL.out).mono ?_); rintro e wp ⟨Ap, cp, rfl, hm, hb⟩; have hk := keeps_of_below hb; have HX := Lib.hid (HX.out.keeps hk); have HK := Lib.hid (HK.out.trans hk); have Mp := Lib.hid hm; clear hm; clear hk hb c0 c1 lt; have c0 := HX.out.c0; have c1 := HX.out.c1; have lt := HX.out.lt)
      | (go_at_call 14; (with_reducible refine (read_good Ap n cp L0 _ t a x i lib hn2 Mp.out HI.out HR.out HF.out HBK.out).mono ?_); rintro e wr ⟨rfl, hb⟩; have hk := keeps_of_below hb; have HX := Lib.hid (HX.out.keeps hk); have HK := Lib.hid (HK.out.trans hk); have Mp := Lib.hid (Mp.out.keeps hk); clear hk hb c0 c1 lt; have c0 := HX.out.c0; have c1 := HX.out.c1; have lt := HX.out.lt)
      | (go_at_call 21; (with_reducible refine (get_good Ap n cp L0 _ a i x hn2 Mp.out HI.out HF.out HBK.out).mono ?_); rintro e we ⟨rfl, rfl⟩))
    go_quiet (fail)
    go_wp2
    go_ret
    exact ⟨rfl, (HK.out).drewN _⟩
  · obtain ⟨bm, om, hA, hbm, hcm⟩ := HM.out.atq q.toNat (by omega)
    have HCM := Lib.hid hcm
    have HBM := Lib.hid hbm
    have HA := Lib.hid hA
    have HQ : Hid (q.toNat < n) := show _ < _ by omega
    clear hcm hbm hA
    have e1 : decide (0 ≤ q) = true := decide_eq_true h1
    have e2 : decide (q < (n : Int)) = true := decide_eq_true h2
    have e3 := Lib.hid h3
    clear h3
    go_enter Try.func6, Try.ntmps6
    go_upto_region 12 with (first
      | (go_at_call 9; (with_reducible refine (awake_any _).mono ?_); rintro e we ⟨rfl, hb⟩; have hk := keeps_of_below hb; have HX := Lib.hid (HX.out.keeps hk); have HK := Lib.hid (HK.out.trans hk); clear hk hb c0 c1 lt; have c0 := HX.out.c0; have c1 := HX.out.c1; have lt := HX.out.lt)
      | (go_at_call 15; (with_reducible refine (ours_is _ _ _).mono ?_); rintro e we ⟨rfl, hb⟩; have hk := keeps_of_below hb; have HX := Lib.hid (HX.out.keeps hk); have HK := Lib.hid (HK.out.trans hk); have Mp := Lib.hid (Mp.out.keeps hk); clear hk hb c0 c1 lt; have c0 := HX.out.c0; have c1 := HX.out.c1; have lt := HX.out.lt)
      | (go_at_call 15; (with_reducible refine (ours_is _ _ _).mono ?_); rintro e we ⟨rfl, hb⟩; have hk := keeps_of_below hb; have HX := Lib.hid (HX.out.keeps hk); have HK := Lib.hid (HK.out.trans hk); clear hk hb c0 c1 lt; have c0 := HX.out.c0; have c1 := HX.out.c1; have lt := HX.out.lt)
      | (go_at_call 17; (with_reducible refine (write_good A n c l _ t a x i L0 lib hn2 (HM.out.keeps HK.out) HI.out HG.out HF.out HL.out).mono ?_); rintro e wp ⟨Ap, cp, rfl, hm, hb⟩; have hk := keeps_of_below hb; have HX := Lib.hid (HX.out.keeps hk); have HK := Lib.hid (HK.out.trans hk); have Mp := Lib.hid hm; clear hm; clear hk hb c0 c1 lt; have c0 := HX.out.c0; have c1 := HX.out.c1; have lt := HX.out.lt)
      | (go_at_call 14; (with_reducible refine (read_good Ap n cp L0 _ t a x i lib hn2 Mp.out HI.out HR.out HF.out HBK.out).mono ?_); rintro e wr ⟨rfl, hb⟩; have hk := keeps_of_below hb; have HX := Lib.hid (HX.out.keeps hk); have HK := Lib.hid (HK.out.trans hk); have Mp := Lib.hid (Mp.out.keeps hk); clear hk hb c0 c1 lt; have c0 := HX.out.c0; have c1 := HX.out.c1; have lt := HX.out.lt)
      | (go_at_call 21; (with_reducible refine (get_good Ap n cp L0 _ a i x hn2 Mp.out HI.out HF.out HBK.out).mono ?_); rintro e we ⟨rfl, rfl⟩))
    obtain ⟨bp, op, hAp, hbp, hcp⟩ := Mp.out.atq q.toNat HQ.out
    have hcm := HK.out.cell_some HBM.out HCM.out
    have hbm := Nat.lt_of_lt_of_le HBM.out HK.out.size
    have hA := HA.out
    subst hA hAp
    rw [e3.out] at hcp
    go_quiet (fail)
    go_wp2
    go_ret
    exact ⟨rfl, (HK.out).drewN _⟩
  · obtain ⟨bm, om, hA, hbm, hcm⟩ := HM.out.atq q.toNat (by omega)
    have HCM := Lib.hid hcm
    have HBM := Lib.hid hbm
    have HA := Lib.hid hA
    have HQ : Hid (q.toNat < n) := show _ < _ by omega
    clear hcm hbm hA
    have e1 : decide (0 ≤ q) = true := decide_eq_true h1
    have e2 : decide (q < (n : Int)) = true := decide_eq_true h2
    have e3 := Lib.hid h3
    have HQM := Lib.hid h4
    have qb : q ≤ 9223372036854775807 := by omega
    clear h3 h4
    go_enter Try.func6, Try.ntmps6
    go_upto_region 12 with (first
      | (go_at_call 9; (with_reducible refine (awake_any _).mono ?_); rintro e we ⟨rfl, hb⟩; have hk := keeps_of_below hb; have HX := Lib.hid (HX.out.keeps hk); have HK := Lib.hid (HK.out.trans hk); clear hk hb c0 c1 lt; have c0 := HX.out.c0; have c1 := HX.out.c1; have lt := HX.out.lt)
      | (go_at_call 15; (with_reducible refine (ours_is _ _ _).mono ?_); rintro e we ⟨rfl, hb⟩; have hk := keeps_of_below hb; have HX := Lib.hid (HX.out.keeps hk); have HK := Lib.hid (HK.out.trans hk); have Mp := Lib.hid (Mp.out.keeps hk); clear hk hb c0 c1 lt; have c0 := HX.out.c0; have c1 := HX.out.c1; have lt := HX.out.lt)
      | (go_at_call 15; (with_reducible refine (ours_is _ _ _).mono ?_); rintro e we ⟨rfl, hb⟩; have hk := keeps_of_below hb; have HX := Lib.hid (HX.out.keeps hk); have HK := Lib.hid (HK.out.trans hk); clear hk hb c0 c1 lt; have c0 := HX.out.c0; have c1 := HX.out.c1; have lt := HX.out.lt)
      | (go_at_call 17; (with_reducible refine (write_good A n c l _ t a x i L0 lib hn2 (HM.out.keeps HK.out) HI.out HG.out HF.out HL.out).mono ?_); rintro e wp ⟨Ap, cp, rfl, hm, hb⟩; have hk := keeps_of_below hb; have HX := Lib.hid (HX.out.keeps hk); have HK := Lib.hid (HK.out.trans hk); have Mp := Lib.hid hm; clear hm; clear hk hb c0 c1 lt; have c0 := HX.out.c0; have c1 := HX.out.c1; have lt := HX.out.lt)
      | (go_at_call 14; (with_reducible refine (read_good Ap n cp L0 _ t a x i lib hn2 Mp.out HI.out HR.out HF.out HBK.out).mono ?_); rintro e wr ⟨rfl, hb⟩; have hk := keeps_of_below hb; have HX := Lib.hid (HX.out.keeps hk); have HK := Lib.hid (HK.out.trans hk); have Mp := Lib.hid (Mp.out.keeps hk); clear hk hb c0 c1 lt; have c0 := HX.out.c0; have c1 := HX.out.c1; have lt := HX.out.lt)
      | (go_at_call 21; (with_reducible refine (get_good Ap n cp L0 _ a i x hn2 Mp.out HI.out HF.out HBK.out).mono ?_); rintro e we ⟨rfl, rfl⟩))
    obtain ⟨bp, op, hAp, hbp, hcp⟩ := Mp.out.atq q.toNat HQ.out
    have hcm := HK.out.cell_some HBM.out HCM.out
    have hbm := Nat.lt_of_lt_of_le HBM.out HK.out.size
    have hA := HA.out
    subst hA hAp
    have e4 := e3.out
    generalize (L0.getD q.toNat 0).toNat = vp at *
    generalize (l.getD q.toNat 0).toNat = vm at *
    have e5 : ((vp : Int) == (vm : Int)) = false := beq_eq_false_iff_ne.2 e4
    clear e4 e3
    have PS : Hid (∀ w9, Keeps wr w9 → Keeps wr w9 ∧ w.heap.size < w9.heap.size ∧ w9.cell? ⟨w.heap.size, 0, none⟩ = some (.int .i64 t) ∧ w9.cell? ⟨w.heap.size, 1, none⟩ = some (.bool lib) ∧ w9.cell? ⟨bp, op + q.toNat, none⟩ = some (.int .u8 (vp : Int)) ∧ w9.cell? ⟨bm, om + q.toNat, none⟩ = some (.int .u8 (vm : Int))) := Lib.hid fun w9 hk => ⟨hk, (HX.out.keeps hk).lt, (HX.out.keeps hk).c0, (HX.out.keeps hk).c1, hk.cell_some hbp hcp, hk.cell_some hbm hcm⟩
    have HV := Lib.hid ((Keeps.refl wr).drew)
    go_region_held3 (fun w9 => Keeps wr w9 ∧ w.heap.size < w9.heap.size ∧ w9.cell? ⟨w.heap.size, 0, none⟩ = some (.int .i64 t) ∧ w9.cell? ⟨w.heap.size, 1, none⟩ = some (.bool lib) ∧ w9.cell? ⟨bp, op + q.toNat, none⟩ = some (.int .u8 (vp : Int)) ∧ w9.cell? ⟨bm, om + q.toNat, none⟩ = some (.int .u8 (vm : Int))) (first | assumption | exact PS.out _ HV.out)
      (first
        | (go_at_call 15; (with_reducible refine (ours_is _ _ _).mono ?_); rintro e wv ⟨rfl, hb⟩; have HV := Lib.hid (HV.out.trans (keeps_of_below hb)); clear hb)
        | (go_at_call 19; (with_reducible refine (may_is t lib q 1 true true qb HQM.out _).mono ?_); rintro e wv ⟨rfl, hb⟩; have HV := Lib.hid (HV.out.trans (keeps_of_below hb)); clear hb))
    go_wp2
    go_ret
    exact ⟨rfl, HK.out.trans HV.out⟩
theorem guardWrites_any (t a x q : Int) (lib : Bool) (hm : Mem w A n c l) (ha : InC a) (hx : InC x) :
    Calls Try.prog 6 #[.slice A n c, .agg #[.int .i64 t, .bool lib], .int .i64 a, .int .i64 x, .int .i64 q] w fun e w' => e = .returned (.bool true) ∧ Keeps w w' := by
  by_cases hn : n ≤ 5120
  · obtain ⟨y, e0, D1, _⟩ := reads_any A n c l t a lib ha (by omega)
    cases h : gM t lib a 8 true
    · exact gwr_not A n c l w t a x q y e0 (-9) lib hn (Lib.hid hm) (.inl rfl) (Lib.hid D1) (Lib.hid fun w => write_may A n c w t a x lib ha.2 h)
    · rcases mE_cases n a with hf | ⟨hz, hg⟩
      · obtain ⟨i, hi, _⟩ := mE_ok hf
        exact gwr_done A n c l w t x q i a lib _ hn hm hi h (hi ▸ hf) rfl hx
      · exact gwr_not A n c l w t a x q y e0 _ lib hn (Lib.hid hm) hg (Lib.hid D1) (Lib.hid fun w => write_bad A n c w t a x _ lib (by omega) ha h rfl hz)
  · exact gwr_out A n c w t a x q lib (by omega)
end
end Go.Proofs.Ytkehlaphiillpaa
