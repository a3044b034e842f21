/-
  What Signals of package hist answers: how many signals there are at least, and whether that is never below 0.
-/
import Derived.Test.YtpkjepbeeebdoaaDoorHistCalls
import Derived.Test.YtpkjepbeeebdoaaDoorHistHold
namespace Go.Proofs.YtpkjepbeeebdoaaDoor
open Go.RowKit

theorem sg_small (l : List Evt) (a : Int) (k : Nat) : -(k : Int) ≤ (sgA (l.take k) a).1 ∧ (sgA (l.take k) a).1 ≤ k ∧ 0 ≤ (sgA (l.take k) a).2 ∧ (sgA (l.take k) a).2 ≤ k := by
  induction k with
  | zero => simp [sgA]
  | succ k ih =>
    rcases Nat.lt_or_ge k l.length with h | h
    · rw [sg_more l a k h]
      unfold sgS
      repeat' split
      all_goals omega
    · rw [List.take_of_length_le (by omega)]
      rw [List.take_of_length_le (by omega)] at ih
      omega
theorem clK_7 (k : Int) : decide (clK k = 7) = (k == 17) := by
  rw [Bool.eq_iff_iff]; simp only [decide_eq_true_eq, beq_iff_eq]
  constructor
  · intro h; rcases cl_of (k := k) (by omega) with rfl | rfl | rfl | rfl | rfl | rfl | rfl | rfl <;> first | rfl | (exact absurd h (by decide))
  · rintro rfl; rfl
theorem rt_of {k : Int} (h : 0 ≤ rtK k) : k = 2 ∨ k = 4 ∨ k = 5 ∨ k = 7 ∨ k = 9 ∨ k = 10 ∨ k = 12 ∨ k = 14 ∨ k = 16 ∨ k = 18 := by
  revert h; unfold rtK; repeat' split
  all_goals omega
theorem rtK_6 (k : Int) : decide (rtK k = 6) = (k == 16) := by
  rw [Bool.eq_iff_iff]; simp only [decide_eq_true_eq, beq_iff_eq]
  constructor
  · intro h; rcases rt_of (k := k) (by omega) with rfl | rfl | rfl | rfl | rfl | rfl | rfl | rfl | rfl | rfl <;> first | rfl | (exact absurd h (by decide))
  · rintro rfl; rfl
theorem sg_step {a p q : Int} {x : Evt} (ha : x.a = a) (u : Int) (hu : (if x.k = 17 then p - 1 else if x.k = 16 then p + 1 else p) = u) : sgS a (p, q) x = (u, if q < u then u else q) := by
  unfold sgS
  rw [if_neg (by simp [ha])]
  dsimp only
  rw [hu]
  congr 1
  split <;> omega
set_option maxHeartbeats 1000000 in
theorem hsig_is (A : Option Addr) (n c : Nat) (l : List Evt) (a s : Int) (w : World) (hn : n ≤ 1000) (h : Rw evK w A n c l) (hT : TabH w) (h0 : 0 ≤ s) (h1 : s ≤ 65535) :
    Calls Tryd.prog 8 #[.slice A n c, .int .i64 a, .int .i64 s] w fun e w' => e = .returned (.tuple #[.int .i64 (sgN l a s), .bool (sgB l a s)]) ∧ Below w.heap.size w w' := by
  have H := Lib.hid h
  have HL := Lib.hid h.len
  have HT := Lib.hid hT
  clear h hT
  go_enter Tryd.func8, Tryd.ntmps8
  go_wp2
  go_loopw [8, 9, 15] (fun u m i wr => ∃ (j : Nat) (p q : Int), j ≤ n ∧ u = .int .i64 p ∧ m = .int .i64 q ∧ i = .int .i64 j ∧ sgA (l.take j) a = (p, q) ∧ Below w.heap.size w wr) (fun _ _ i _ => ((n : Int) - intOf i).toNat)
  case atStart => exact ⟨0, 0, 0, by omega, rfl, rfl, rfl, rfl, Below.refl _ _⟩
  case round =>
    obtain ⟨j, p, q, hj, rfl, rfl, rfl, hs, hb⟩ := hrel
    have HB := Lib.hid hb
    have HS := Lib.hid hs
    have hsm := sg_small l a j
    rw [hs] at hsm
    dsimp only at hsm
    clear hb hs
    by_cases hlt : j < n
    · have hjl : j < l.length := by rw [HL.out]; exact hlt
      have HM := Lib.hid (sg_more l a j hjl)
      rw [HS.out] at HM
      obtain ⟨xb, xo, rfl, hbl, f0, f1, f2, f3⟩ := ev_at (H.out.below HB.out) j hlt
      generalize l.getD j ez = x at f0 f1 f2 f3 HM
      have HA' := Lib.hid (below_one wr (.cells #[.int .i64 x.t, .int .i64 x.k, .int .i64 x.a, .int .i64 x.v] 30))
      by_cases ha : x.a = a
      · have hne : (x.a != a) = false := by simp [ha]
        have HAA := Lib.hid ha
        clear ha
        obtain ⟨r, hr⟩ : ∃ r, kR x.k = r := ⟨_, rfl⟩
        have e7 := kR_calls x.k 7 (by decide)
        have e6 := kR_returns x.k 6 (by decide)
        rw [clK_7, hr] at e7
        rw [rtK_6, hr] at e6
        have HR := Lib.hid hr
        clear hr
        have hcase : (Hid (x.k = 17) ∧ (x.k == 17) = true ∧ (x.k == 16) = false) ∨ (Hid (x.k = 16) ∧ (x.k == 17) = false ∧ (x.k == 16) = true) ∨ (Hid (x.k ≠ 17 ∧ x.k ≠ 16) ∧ (x.k == 17) = false ∧ (x.k == 16) = false) := by
          by_cases g : x.k = 17
          · left; exact ⟨Lib.hid g, by simp [g], by simp [g]⟩
          · by_cases g2 : x.k = 16
            · right; left; exact ⟨Lib.hid g2, by simp [g2], by simp [g2]⟩
            · right; right; exact ⟨Lib.hid ⟨g, g2⟩, by simp [g], by simp [g2]⟩
        rcases hcase with ⟨hk, k7, k6⟩ | ⟨hk, k7, k6⟩ | ⟨hk, k7, k6⟩
        all_goals
          rw [k7] at e7
          rw [k6] at e6
          have E7 := Lib.hid e7
          have E6 := Lib.hid e6
          clear e7 e6 k7 k6
          go_upto_region 7 with (go_at_call 11; (with_reducible refine (look_at x r HR.out _ ((HT.out.keep HB.out).keep HA'.out)).mono ?_); rintro z w1 ⟨rfl, hb⟩; have HB1 := Lib.hid (HB.out.trans ((HA'.out.mono HB.out.size).trans (hb.mono (by have := HB.out.size; simp; omega)))); clear hb)
          have P3 := Lib.hid (Bk.at_ (K := rwK) w1 41 r (#[.int .i64 r.s, .int .i64 r.o, .int .i64 r.f, .int .i64 r.d, .bool r.r]) rfl _ rfl)
          have HB3 := Lib.hid (HB1.out.alloc HB1.out.size (.cells #[.int .i64 r.s, .int .i64 r.o, .int .i64 r.f, .int .i64 r.d, .bool r.r] 41))
          generalize w1.alloc (.cells #[.int .i64 r.s, .int .i64 r.o, .int .i64 r.f, .int .i64 r.d, .bool r.r] 41) = W at *
          generalize w1.heap.size = b3 at *
          have r0 : W.cell? ⟨b3, 0, none⟩ = some (.int .i64 r.s) := P3.out.cell 0
          have r1 : W.cell? ⟨b3, 1, none⟩ = some (.int .i64 r.o) := P3.out.cell 1
          have r2 : W.cell? ⟨b3, 2, none⟩ = some (.int .i64 r.f) := P3.out.cell 2
          have r3 : W.cell? ⟨b3, 3, none⟩ = some (.int .i64 r.d) := P3.out.cell 3
          have r4 : W.cell? ⟨b3, 4, none⟩ = some (.bool r.r) := P3.out.cell 4
          go_wp2_with (first
            | (go_at_call 13; (with_reducible refine (calls_at r 7 _ E7.out _).mono ?_); rintro z w2 ⟨rfl, hb⟩; have HB3 := Lib.hid (HB3.out.trans (hb.mono HB3.out.size)); have P3 := Lib.hid (P3.out.keep hb); clear hb; have s0 : w2.cell? ⟨b3, 0, none⟩ = some (.int .i64 r.s) := P3.out.cell 0; have s1 : w2.cell? ⟨b3, 1, none⟩ = some (.int .i64 r.o) := P3.out.cell 1; have s2 : w2.cell? ⟨b3, 2, none⟩ = some (.int .i64 r.f) := P3.out.cell 2; have s3 : w2.cell? ⟨b3, 3, none⟩ = some (.int .i64 r.d) := P3.out.cell 3; have s4 : w2.cell? ⟨b3, 4, none⟩ = some (.bool r.r) := P3.out.cell 4)
            | (go_at_call 14; (with_reducible refine (returns_at r 6 _ E6.out _).mono ?_); rintro z w3 ⟨rfl, hb⟩; have HB3 := Lib.hid (HB3.out.trans (hb.mono HB3.out.size)); clear hb))
          go_roundw
          case rel => first
            | exact ⟨j + 1, p - 1, if q < p - 1 then p - 1 else q, by omega, rfl, rfl, by go_num, by rw [HM.out, sg_step HAA.out (p - 1) (by rw [hk.out]; rfl)], HB3.out⟩
            | exact ⟨j + 1, p + 1, if q < p + 1 then p + 1 else q, by omega, rfl, rfl, by go_num, by rw [HM.out, sg_step HAA.out (p + 1) (by rw [hk.out]; rfl)], HB3.out⟩
            | exact ⟨j + 1, p, if q < p then p else q, by omega, rfl, rfl, by go_num, by rw [HM.out, sg_step HAA.out p (by rw [if_neg hk.out.1, if_neg hk.out.2])], HB3.out⟩
          case measure => simp [intOf]; omega
      · have hne : (x.a != a) = true := by simp [ha]
        have HAA := Lib.hid ha
        clear ha
        go_wp2
        go_roundw
        case rel => exact ⟨j + 1, p, q, by omega, rfl, rfl, by go_num, by rw [HM.out]; exact if_pos HAA.out, HB.out.trans (HA'.out.mono HB.out.size)⟩
        case measure => simp [intOf]; omega
    · obtain rfl : j = n := by omega
      have hq : (sgA l a).2 = q := by
        have := HS.out
        rw [List.take_of_length_le (by rw [HL.out]; exact Nat.le_refl _)] at this
        rw [this]
      have HV : Hid (sgN l a s = s - q ∧ sgB l a s = decide (q ≤ s)) := Lib.hid ⟨by unfold sgN; rw [hq], by unfold sgB; rw [hq]⟩
      clear hq
      have hlo : ¬ s < -9223372036854775808 + q := by omega
      go_wp2
      refine bodyPost_ret (v := .tuple #[.int .i64 (s - q), .bool (decide (q ≤ s))]) ?_ rfl ⟨by rw [HV.out.1, HV.out.2], HB.out⟩
      simp [results, Tryd.results8, go_sem]
end Go.Proofs.YtpkjepbeeebdoaaDoor
