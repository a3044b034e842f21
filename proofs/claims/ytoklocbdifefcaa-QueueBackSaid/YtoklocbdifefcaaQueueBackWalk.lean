/-
  QueueBack answers true, whatever the queue and the numbers are.
-/
import Derived.Test.YtoklocbdifefcaaQueueLine
import Derived.Test.YtoklocbdifefcaaQueueBackMath
namespace Go.Proofs.Ytoklocbdifefcaa
open Go.RowKit

theorem rem_at {l : List It} {n : Nat} (h : l.length = n) (z : Int) : ((if 0 < z then z else 0) % (n : Int)) = (atN l z : Int) ∧ ((if z < 0 then 0 else z) % (n : Int)) = (atN l z : Int) ∧ ((if z > 0 then z else 0) % (n : Int)) = (atN l z : Int) := by
  have := at_val h z
  have e : (if 0 < z then z else 0) = (if z < 0 then 0 else z) := by split <;> split <;> omega
  exact ⟨by rw [e]; exact this, this, by rw [show (if z > 0 then z else 0) = (if 0 < z then z else 0) from rfl, e]; exact this⟩
set_option maxHeartbeats 4000000 in
set_option maxRecDepth 4000 in
theorem back_any (N : Int) (A : Option Addr) (n c : Nat) (l : List It) (d p z : Int) (w : World) (h : Its w A n c l) :
    Calls Try.prog 7 #[.agg #[.int .i64 N, .slice A n c], .int .i64 d, .int .i64 p, .int .i64 z] w fun e w' => e = .returned (.bool true) ∧ Below w.heap.size w w' := by
  have HQ := Lib.hid (Qv.new w 24 N A n c)
  have HB := Lib.hid (below_one w (.cells #[.int .i64 N, .slice A n c] 24))
  have HI := Lib.hid (h.below HB.out)
  have HN := Lib.hid h.len
  clear h
  go_enter Try.func7, Try.ntmps7
  go_upto_region 1 with (fail)
  generalize w.alloc (.cells #[.int .i64 N, .slice A n c] 24) = W at *
  have qa := HQ.out.c0; have qb := HQ.out.c1
  go_upto_region 2 with (go_at_call 8; (with_reducible refine (awake_any _).mono ?_); rintro e w1 ⟨rfl, hb⟩; have HB := Lib.hid (below_then HB.out hb); have HQ := Lib.hid (HQ.out.keep hb); have HI := Lib.hid (HI.out.below hb); clear qa qb; have qa := HQ.out.c0; have qb := HQ.out.c1; clear hb)
  by_cases hn : n ≤ 30
  rotate_left
  · go_wp2
    go_ret
    exact ⟨rfl, HB.out⟩
  by_cases hs : Sq N l
  rotate_left
  · have HS : Hid (decide (Sq N l) = false) := Lib.hid (decide_eq_false hs)
    clear hs
    go_wp2_with (first
      | (go_at_call 10; (with_reducible refine (line_is N A n c l _ (by omega) HI.out).mono ?_); rintro e w2 ⟨A2, c2, rfl, hi, hb, -⟩; have HL2 := Lib.hid hi; clear hi; have HB := Lib.hid (below_then HB.out hb); have HQ := Lib.hid (HQ.out.keep hb); have HI := Lib.hid (HI.out.below hb); clear qa qb; have qa := HQ.out.c0; have qb := HQ.out.c1; clear hb)
      | (go_at_call 23; (with_reducible refine (sane_is N A2 n c2 l false _ (by omega) HL2.out HS.out).mono ?_); rintro e w3 ⟨rfl, hb⟩; have HB := Lib.hid (below_then HB.out hb); have HQ := Lib.hid (HQ.out.keep hb); have HI := Lib.hid (HI.out.below hb); clear qa qb; have qa := HQ.out.c0; have qb := HQ.out.c1; clear hb))
    go_ret
    exact ⟨rfl, HB.out⟩
  have HS := Lib.hid hs
  clear hs
  go_upto_region 4 with (first
    | (go_at_call 10; (with_reducible refine (line_is N A n c l _ (by omega) HI.out).mono ?_); rintro e w2 ⟨A2, c2, rfl, hi, hb, -⟩; have HL2 := Lib.hid hi; clear hi; have HB := Lib.hid (below_then HB.out hb); have HQ := Lib.hid (HQ.out.keep hb); have HI := Lib.hid (HI.out.below hb); clear qa qb; have qa := HQ.out.c0; have qb := HQ.out.c1; clear hb)
    | (go_at_call 23; (with_reducible refine (sane_at N A2 n c2 l _ HS.out HL2.out).mono ?_); rintro e w3 ⟨rfl, hb⟩; have HB := Lib.hid (below_then HB.out hb); have HQ := Lib.hid (HQ.out.keep hb); have HI := Lib.hid (HI.out.below hb); clear qa qb; have qa := HQ.out.c0; have qb := HQ.out.c1; clear hb))
  go_upto_region 5 with (first
    | (go_at_call 10; (with_reducible refine (line_is N A n c l _ (by omega) HI.out).mono ?_); rintro e w4 ⟨A4, c4, rfl, hi, hb, -⟩; have HL4 := Lib.hid hi; clear hi; have HB := Lib.hid (below_then HB.out hb); have HQ := Lib.hid (HQ.out.keep hb); have HI := Lib.hid (HI.out.below hb); clear qa qb; have qa := HQ.out.c0; have qb := HQ.out.c1; clear hb)
    | (go_at_call 21; (with_reducible refine (ids_at N A4 n c4 l _ _ HS.out rfl HL4.out).mono ?_); rintro e w5 ⟨A5, n5, c5, rfl, hk, hb⟩; have HK := Lib.hid hk; obtain rfl : n = n5 := (by have h := hk.len; unfold idL at h; rw [List.length_map, HN.out] at h; exact h); clear hk; have HB := Lib.hid (below_then HB.out hb); have HQ := Lib.hid (HQ.out.keep hb); have HI := Lib.hid (HI.out.below hb); clear qa qb; have qa := HQ.out.c0; have qb := HQ.out.c1; clear hb))
  obtain ⟨N2, hN2⟩ : ∃ x, puN N l d p = x := ⟨_, rfl⟩
  obtain ⟨l2, hl2⟩ : ∃ x, puL N l d p = x := ⟨_, rfl⟩
  obtain ⟨b, hb0⟩ : ∃ x, puB N l d p = x := ⟨_, rfl⟩
  obtain ⟨l3, hl3⟩ : ∃ x, drL l2 d = x := ⟨_, rfl⟩
  obtain ⟨b3, hb3⟩ : ∃ x, drB l2 d = x := ⟨_, rfl⟩
  have HS2 : Hid (Sq N2 l2) := Lib.hid (by rw [← hN2, ← hl2]; exact sq_put _ _ HS.out)
  have HS3 : Hid (Sq N2 l3) := Lib.hid (by rw [← hl3]; exact sq_dr _ HS2.out)
  have HBK : Hid (b = true → N2 = N + 1 ∧ b3 = true ∧ l3 = l) := Lib.hid (fun e => by have := back_put (n := N) (l := l) (d := d) (p := p) (hb0.trans e); rw [hN2, hl2, hb3, hl3] at this; exact this)
  have HN2 := Lib.hid hN2
  have HL2' := Lib.hid hl2
  have HB0 := Lib.hid hb0
  have HL3 := Lib.hid hl3
  have HB3 := Lib.hid hb3
  clear hN2 hl2 hb0 hl3 hb3
  go_upto_region 6 with (first
    | (go_at_call 10; (with_reducible refine (line_is N A n c l _ (by omega) HI.out).mono ?_); rintro e w6 ⟨A6, c6, rfl, hi, hb, -⟩; have HL6 := Lib.hid hi; clear hi; have HB := Lib.hid (below_then HB.out hb); have HQ := Lib.hid (HQ.out.keep hb); have HI := Lib.hid (HI.out.below hb); clear qa qb; have qa := HQ.out.c0; have qb := HQ.out.c1; have HK := Lib.hid (HK.out.below hb); clear hb)
    | (go_at_call 9; (with_reducible refine (put_at N A6 n c6 l d p N2 l2 b _ HS.out HN2.out HL2'.out HB0.out HL6.out).mono ?_); rintro e w7 ⟨A7, n7, c7, rfl, hi, hb, -⟩; have HL7 := Lib.hid hi; clear hi; have HB := Lib.hid (below_then HB.out hb); have HQ := Lib.hid (HQ.out.keep hb); have HI := Lib.hid (HI.out.below hb); clear qa qb; have qa := HQ.out.c0; have qb := HQ.out.c1; have HK := Lib.hid (HK.out.below hb); clear hb))
  have HB := Lib.hid (HB.out.alloc HB.out.size (.cells #[.int .i64 N2, .slice A7 n7 c7] 28))
  have HQ := Lib.hid (HQ.out.alloc (.cells #[.int .i64 N2, .slice A7 n7 c7] 28))
  have HI := Lib.hid (HI.out.alloc (.cells #[.int .i64 N2, .slice A7 n7 c7] 28))
  have HK := Lib.hid (HK.out.alloc (.cells #[.int .i64 N2, .slice A7 n7 c7] 28))
  have HL7 := Lib.hid (HL7.out.alloc (.cells #[.int .i64 N2, .slice A7 n7 c7] 28))
  have X7 := Lib.hid (Qv.new w7 28 N2 A7 n7 c7)
  generalize w7.alloc (.cells #[.int .i64 N2, .slice A7 n7 c7] 28) = W7 at *
  clear qa qb
  have qa := HQ.out.c0; have qb := HQ.out.c1
  have xa := X7.out.c0; have xb := X7.out.c1
  go_upto_region 7 with (go_at_call 16; (with_reducible refine (drop_at N2 A7 n7 c7 l2 d l3 b3 _ HS2.out HL3.out HB3.out HL7.out).mono ?_); rintro e w8 ⟨A8, n8, c8, rfl, hi, hb, -⟩; have HL8 := Lib.hid hi; clear hi xa xb; have HB := Lib.hid (below_then HB.out hb); have HQ := Lib.hid (HQ.out.keep hb); have HI := Lib.hid (HI.out.below hb); clear qa qb; have qa := HQ.out.c0; have qb := HQ.out.c1; have HK := Lib.hid (HK.out.below hb); clear hb)
  have HB := Lib.hid (HB.out.alloc HB.out.size (.cells #[.int .i64 N2, .slice A8 n8 c8] 28))
  have HQ := Lib.hid (HQ.out.alloc (.cells #[.int .i64 N2, .slice A8 n8 c8] 28))
  have HI := Lib.hid (HI.out.alloc (.cells #[.int .i64 N2, .slice A8 n8 c8] 28))
  have HK := Lib.hid (HK.out.alloc (.cells #[.int .i64 N2, .slice A8 n8 c8] 28))
  have HL8 := Lib.hid (HL8.out.alloc (.cells #[.int .i64 N2, .slice A8 n8 c8] 28))
  have X8 := Lib.hid (Qv.new w8 28 N2 A8 n8 c8)
  generalize w8.alloc (.cells #[.int .i64 N2, .slice A8 n8 c8] 28) = W8 at *
  clear qa qb
  have qa := HQ.out.c0; have qb := HQ.out.c1
  have xa := X8.out.c0; have xb := X8.out.c1
  cases b
  · clear xa xb X8
    go_upto_region 10 with (first
      | (go_at_call 10; (with_reducible refine (line_is N A n c l _ (by omega) HI.out).mono ?_); rintro e w9 ⟨A9, c9, rfl, hi, hb, -⟩; have HL9 := Lib.hid hi; clear hi; have HB := Lib.hid (below_then HB.out hb); have HQ := Lib.hid (HQ.out.keep hb); have HI := Lib.hid (HI.out.below hb); clear qa qb; have qa := HQ.out.c0; have qb := HQ.out.c1; have HK := Lib.hid (HK.out.below hb); clear hb)
      | (go_at_call 12; (with_reducible refine (nth_at N A9 n c9 l z _ _ _ _ HS.out rfl rfl rfl HL9.out).mono ?_); rintro e w10 ⟨A10, n10, c10, rfl, hi, hb, -⟩; have HL10 := Lib.hid hi; clear hi; have HB := Lib.hid (below_then HB.out hb); have HQ := Lib.hid (HQ.out.keep hb); have HI := Lib.hid (HI.out.below hb); clear qa qb; have qa := HQ.out.c0; have qb := HQ.out.c1; have HK := Lib.hid (HK.out.below hb); clear hb))
    have HB := Lib.hid (HB.out.alloc HB.out.size (.cells #[.int .i64 N, .slice A10 n10 c10] 28))
    have HQ := Lib.hid (HQ.out.alloc (.cells #[.int .i64 N, .slice A10 n10 c10] 28))
    have HI := Lib.hid (HI.out.alloc (.cells #[.int .i64 N, .slice A10 n10 c10] 28))
    have HK := Lib.hid (HK.out.alloc (.cells #[.int .i64 N, .slice A10 n10 c10] 28))
    have HL10 := Lib.hid (HL10.out.alloc (.cells #[.int .i64 N, .slice A10 n10 c10] 28))
    have X10 := Lib.hid (Qv.new w10 28 N A10 n10 c10)
    generalize w10.alloc (.cells #[.int .i64 N, .slice A10 n10 c10] 28) = W10 at *
    clear qa qb
    have qa := HQ.out.c0; have qb := HQ.out.c1
    have hcn : (idL l).length = n := by unfold idL; rw [List.length_map, HN.out]
    by_cases hl : l = []
    · obtain rfl : n = 0 := by rw [← HN.out, hl]; rfl
      have hnb : nthB l = false := by rw [hl]; rfl
      rw [hnb]
      go_wp2
      go_ret
      exact ⟨rfl, HB.out⟩
    · have hnb : nthB l = true := by
        cases l
        · exact absurd rfl hl
        · rfl
      have hlt := at_lt z hl
      have h1 : (0 : Int) < (n : Int) := by
        have := length_pos_of hl
        rw [HN.out] at this
        omega
      have hrem := rem_at HN.out z
      rw [hnb]
      obtain ⟨D, hD⟩ : ∃ D, nthD l z = D := ⟨_, rfl⟩
      rw [hD]
      obtain ⟨k, hk⟩ : ∃ k, atN l z = k := ⟨_, rfl⟩
      rw [hk] at hlt hrem
      rw [HN.out] at hlt
      have hV : (idL l).getD k 0 = D := by
        rw [id_get l k (by rw [HN.out]; exact hlt), ← hD]
        unfold nthD
        rw [if_neg hl, hk]
      have hL : nthL l z = ouL k l := by
        unfold nthL
        rw [if_neg hl, hk]
      rw [hL] at HL10
      have HE := Lib.hid (id_ou k l)
      have HS10 : Hid (Sq N (ouL k l)) := Lib.hid (sq_ou k HS.out)
      clear hnb hD hk hL
      go_upto_region 13 with (fail)
      first
        | rw [hrem.1]
        | rw [hrem.2.1]
        | rw [hrem.2.2]
      clear hrem
      first
        | generalize (if 0 < z then z else 0) = zz
        | generalize (if z < 0 then 0 else z) = zz
        | generalize (if z > 0 then z else 0) = zz
        | skip
      obtain ⟨m, hm⟩ : ∃ m, m = k + 1 := ⟨_, rfl⟩
      have hw : IntKind.i64.wrap ((k : Int) + 1) = (m : Int) := by rw [IntKind.wrap_i64]; omega
      have HM := Lib.hid hm
      obtain ⟨A11, c11, s1, h11⟩ := HK.out.head k (by omega)
      obtain ⟨A12, c12, s2, h12⟩ := HK.out.tail m (by omega)
      have H11 := Lib.hid h11
      have H12 := Lib.hid h12
      obtain ⟨kb, ko, hA, hbl, f0⟩ := HK.out.at_ k hlt
      rw [hV] at f0
      have HAh := Lib.hid hA
      have HF := Lib.hid f0
      have hk0 : (0 : Int) ≤ (k : Int) := by omega
      have hkn : (k : Int) < (n : Int) := by omega
      have hDD : (D == D) = true := by simp
      clear h11 h12 hm f0 hA
      go_upto_region 14 with (at_builtin; refine wpList_app (W := W10) rfl (.tmp 90) (.tmp 93) rfl rfl rfl (Own.made W10) (H11.out.alloc _) (by omega) ?_; intro A13 c13 w13 hw3; rw [Nat.zero_add, List.nil_append] at hw3; have HO := Lib.hid hw3; clear hw3)
      go_upto_region 15 with (at_builtin; refine wpList_app (W := W10) rfl (.tmp 95) (.tmp 99) rfl rfl rfl HO.out (H12.out.below HO.out.below) (by have := HM.out; omega) ?_; intro A14 c14 w14 hw3; have HO2 := Lib.hid hw3; clear hw3)
      have hA := HAh.out
      subst hA
      have f1 := (HO2.out.below.cell (p := ⟨kb, _, none⟩) hbl).trans HF.out
      have X14 := X10.out.keep HO2.out.below
      have r0 := X14.c0
      have r1 := X14.c1
      have HBE := Lib.hid (below_then HB.out HO2.out.below)
      have HL14 := Lib.hid (HL10.out.below HO2.out.below)
      have HR : Hid (Stk w14 A14 (k + (n - m)) c14 (idL (ouL k l))) := Lib.hid (HO2.out.stk.as (by rw [HE.out, HM.out]))
      go_wp2_with (first
        | (go_at_call 21; (with_reducible refine (ids_at N A10 n10 c10 (ouL k l) _ _ HS10.out rfl HL14.out).mono ?_); rintro e w15 ⟨A15, n15, c15, rfl, hk, hb⟩; have HK15 := Lib.hid hk; have HR15 := Lib.hid (HR.out.below hb); have HB15 := Lib.hid (below_then HBE.out hb); have hn15 : n15 ≤ 10000 := (by have h := hk.len; have h2 := (ou_sub k l).length_le; unfold idL at h; rw [List.length_map] at h; rw [HN.out] at h2; omega); clear hk hb)
        | (go_at_call 20; (with_reducible refine (same4_any A15 A14 n15 c15 _ c14 _ _ hn15 HK15.out HR15.out).mono ?_); rintro e w16 ⟨rfl, hb⟩; have HB16 := Lib.hid (below_then HB15.out hb); clear hb))
      go_ret
      exact ⟨rfl, HB16.out⟩
  · obtain ⟨hE1, hE2, hE3⟩ := HBK.out rfl
    rw [hE3] at HS3 HL8
    rw [hE2]
    have HE1 := Lib.hid hE1
    clear hE1 hE2 hE3
    have hwN : IntKind.i64.wrap (N + 1) = N2 := by have h := HS2.out.1; have h1 := HE1.out; rw [IntKind.wrap_i64]; omega
    have hNN : (N2 != N2) = false := by simp
    go_upto_region 10 with (first
      | (go_at_call 21; (with_reducible refine (ids_at N2 A8 n8 c8 l _ _ HS3.out rfl HL8.out).mono ?_); rintro e w81 ⟨A81, n81, c81, rfl, hk, hb⟩; have HK81 := Lib.hid hk; have hn81 : n81 ≤ 10000 := (by have h := hk.len; unfold idL at h; rw [List.length_map, HN.out] at h; omega); have X81 := Lib.hid (X8.out.keep hb); clear hk xa xb; have HB := Lib.hid (below_then HB.out hb); have HQ := Lib.hid (HQ.out.keep hb); have HI := Lib.hid (HI.out.below hb); clear qa qb; have qa := HQ.out.c0; have qb := HQ.out.c1; have HK := Lib.hid (HK.out.below hb); clear hb)
      | (go_at_call 20; (with_reducible refine (same4_any A81 A5 n81 c81 n c5 _ _ hn81 HK81.out HK.out).mono ?_); rintro e w82 ⟨rfl, hb⟩; have X82 := X81.out.keep hb; have xa := X82.c0; have xb := X82.c1; clear X82; have HB := Lib.hid (below_then HB.out hb); have HQ := Lib.hid (HQ.out.keep hb); have HI := Lib.hid (HI.out.below hb); clear qa qb; have qa := HQ.out.c0; have qb := HQ.out.c1; have HK := Lib.hid (HK.out.below hb); clear hb)
      | (go_at_call 10; (with_reducible refine (line_is N A n c l _ (by omega) HI.out).mono ?_); rintro e w9 ⟨A9, c9, rfl, hi, hb, -⟩; have HL9 := Lib.hid hi; clear hi; have HB := Lib.hid (below_then HB.out hb); have HQ := Lib.hid (HQ.out.keep hb); have HI := Lib.hid (HI.out.below hb); clear qa qb; have qa := HQ.out.c0; have qb := HQ.out.c1; have HK := Lib.hid (HK.out.below hb); clear hb)
      | (go_at_call 12; (with_reducible refine (nth_at N A9 n c9 l z _ _ _ _ HS.out rfl rfl rfl HL9.out).mono ?_); rintro e w10 ⟨A10, n10, c10, rfl, hi, hb, -⟩; have HL10 := Lib.hid hi; clear hi; have HB := Lib.hid (below_then HB.out hb); have HQ := Lib.hid (HQ.out.keep hb); have HI := Lib.hid (HI.out.below hb); clear qa qb; have qa := HQ.out.c0; have qb := HQ.out.c1; have HK := Lib.hid (HK.out.below hb); clear hb))
    have HB := Lib.hid (HB.out.alloc HB.out.size (.cells #[.int .i64 N, .slice A10 n10 c10] 28))
    have HQ := Lib.hid (HQ.out.alloc (.cells #[.int .i64 N, .slice A10 n10 c10] 28))
    have HI := Lib.hid (HI.out.alloc (.cells #[.int .i64 N, .slice A10 n10 c10] 28))
    have HK := Lib.hid (HK.out.alloc (.cells #[.int .i64 N, .slice A10 n10 c10] 28))
    have HL10 := Lib.hid (HL10.out.alloc (.cells #[.int .i64 N, .slice A10 n10 c10] 28))
    have X10 := Lib.hid (Qv.new w10 28 N A10 n10 c10)
    generalize w10.alloc (.cells #[.int .i64 N, .slice A10 n10 c10] 28) = W10 at *
    clear qa qb
    have qa := HQ.out.c0; have qb := HQ.out.c1
    have hcn : (idL l).length = n := by unfold idL; rw [List.length_map, HN.out]
    by_cases hl : l = []
    · obtain rfl : n = 0 := by rw [← HN.out, hl]; rfl
      have hnb : nthB l = false := by rw [hl]; rfl
      rw [hnb]
      go_wp2
      go_ret
      exact ⟨rfl, HB.out⟩
    · have hnb : nthB l = true := by
        cases l
        · exact absurd rfl hl
        · rfl
      have hlt := at_lt z hl
      have h1 : (0 : Int) < (n : Int) := by
        have := length_pos_of hl
        rw [HN.out] at this
        omega
      have hrem := rem_at HN.out z
      rw [hnb]
      obtain ⟨D, hD⟩ : ∃ D, nthD l z = D := ⟨_, rfl⟩
      rw [hD]
      obtain ⟨k, hk⟩ : ∃ k, atN l z = k := ⟨_, rfl⟩
      rw [hk] at hlt hrem
      rw [HN.out] at hlt
      have hV : (idL l).getD k 0 = D := by
        rw [id_get l k (by rw [HN.out]; exact hlt), ← hD]
        unfold nthD
        rw [if_neg hl, hk]
      have hL : nthL l z = ouL k l := by
        unfold nthL
        rw [if_neg hl, hk]
      rw [hL] at HL10
      have HE := Lib.hid (id_ou k l)
      have HS10 : Hid (Sq N (ouL k l)) := Lib.hid (sq_ou k HS.out)
      clear hnb hD hk hL
      go_upto_region 13 with (fail)
      first
        | rw [hrem.1]
        | rw [hrem.2.1]
        | rw [hrem.2.2]
      clear hrem
      first
        | generalize (if 0 < z then z else 0) = zz
        | generalize (if z < 0 then 0 else z) = zz
        | generalize (if z > 0 then z else 0) = zz
        | skip
      obtain ⟨m, hm⟩ : ∃ m, m = k + 1 := ⟨_, rfl⟩
      have hw : IntKind.i64.wrap ((k : Int) + 1) = (m : Int) := by rw [IntKind.wrap_i64]; omega
      have HM := Lib.hid hm
      obtain ⟨A11, c11, s1, h11⟩ := HK.out.head k (by omega)
      obtain ⟨A12, c12, s2, h12⟩ := HK.out.tail m (by omega)
      have H11 := Lib.hid h11
      have H12 := Lib.hid h12
      obtain ⟨kb, ko, hA, hbl, f0⟩ := HK.out.at_ k hlt
      rw [hV] at f0
      have HAh := Lib.hid hA
      have HF := Lib.hid f0
      have hk0 : (0 : Int) ≤ (k : Int) := by omega
      have hkn : (k : Int) < (n : Int) := by omega
      have hDD : (D == D) = true := by simp
      clear h11 h12 hm f0 hA
      go_upto_region 14 with (at_builtin; refine wpList_app (W := W10) rfl (.tmp 90) (.tmp 93) rfl rfl rfl (Own.made W10) (H11.out.alloc _) (by omega) ?_; intro A13 c13 w13 hw3; rw [Nat.zero_add, List.nil_append] at hw3; have HO := Lib.hid hw3; clear hw3)
      go_upto_region 15 with (at_builtin; refine wpList_app (W := W10) rfl (.tmp 95) (.tmp 99) rfl rfl rfl HO.out (H12.out.below HO.out.below) (by have := HM.out; omega) ?_; intro A14 c14 w14 hw3; have HO2 := Lib.hid hw3; clear hw3)
      have hA := HAh.out
      subst hA
      have f1 := (HO2.out.below.cell (p := ⟨kb, _, none⟩) hbl).trans HF.out
      have X14 := X10.out.keep HO2.out.below
      have r0 := X14.c0
      have r1 := X14.c1
      have HBE := Lib.hid (below_then HB.out HO2.out.below)
      have HL14 := Lib.hid (HL10.out.below HO2.out.below)
      have HR : Hid (Stk w14 A14 (k + (n - m)) c14 (idL (ouL k l))) := Lib.hid (HO2.out.stk.as (by rw [HE.out, HM.out]))
      go_wp2_with (first
        | (go_at_call 21; (with_reducible refine (ids_at N A10 n10 c10 (ouL k l) _ _ HS10.out rfl HL14.out).mono ?_); rintro e w15 ⟨A15, n15, c15, rfl, hk, hb⟩; have HK15 := Lib.hid hk; have HR15 := Lib.hid (HR.out.below hb); have HB15 := Lib.hid (below_then HBE.out hb); have hn15 : n15 ≤ 10000 := (by have h := hk.len; have h2 := (ou_sub k l).length_le; unfold idL at h; rw [List.length_map] at h; rw [HN.out] at h2; omega); clear hk hb)
        | (go_at_call 20; (with_reducible refine (same4_any A15 A14 n15 c15 _ c14 _ _ hn15 HK15.out HR15.out).mono ?_); rintro e w16 ⟨rfl, hb⟩; have HB16 := Lib.hid (below_then HB15.out hb); clear hb))
      go_ret
      exact ⟨rfl, HB16.out⟩
end Go.Proofs.Ytoklocbdifefcaa
