/-
  What the document calls All of layer 10 answers.
-/
import Derived.Test.YticeeckahdjjmaaRef10Digit
import Derived.Test.YticeeckahdjjmaaPicAll
namespace Go.Proofs.Yticeeckahdjjmaa
open Go.RowKit

/-- What holds at each round's head. -/
def RaSt (w : World) (n : Nat) (T : Int) (M : List UInt8) (u : Int) (v i : Value) (wr : World) : Prop :=
  ∃ (A1 : Option Addr) (c1 : Nat) (l1 : List UInt8) (q k j : Nat), v = .slice A1 n c1 ∧ i = .int .i64 j ∧ j + k = 199 ∧ Mem wr A1 n c1 l1 ∧ q < 2 ^ k ∧ q < 340282366920938463463374607431768211456 ∧ T = aE (k + 1) l1 u q ∧ M = aM (k + 1) l1 u q ∧ Keeps w wr ∧ Two wr w.heap.size (dLo q) (dHi q) ∧ Two wr (w.heap.size + 1) 0 0
section
variable (A : Option Addr) (n c : Nat) (l : List UInt8) (w : World)
set_option maxHeartbeats 1000000 in
theorem rpall_any (u : Int) (q : Nat) (hq : q < 340282366920938463463374607431768211456) (hn : n ≤ 1000000) (hm : Mem w A n c l) :
    Calls Try.prog 15 #[.slice A n c, .int .i64 u, .agg #[.int .i64 (dLo q), .int .i64 (dHi q)]] w (DigPost w n (aL l u q) 0 (aE 200 l u q)) := by
  obtain ⟨T, hT⟩ : ∃ T, aE 200 l u q = T := ⟨_, rfl⟩
  obtain ⟨M, hMd⟩ : ∃ M, aM 200 l u q = M := ⟨_, rfl⟩
  have HLL : Hid (aL l u q = if T = 0 then M else l) := Lib.hid (by unfold aL; rw [hT, hMd])
  rw [hT]
  have HT := Lib.hid hT
  have HMD := Lib.hid hMd
  have HM := Lib.hid hm
  have HQ := Lib.hid hq
  clear hT hMd hm hq
  go_enter Try.func15, Try.ntmps15
  go_wp2
  go_loopw [9, 10] (fun v i wr => RaSt w n T M u v i wr) (fun _ _ wr => qAt wr w.heap.size)
  case atStart =>
    refine ⟨A, c, l, q, 199, 0, rfl, rfl, rfl, HM.out.keeps (((Keeps.refl w).alloc _).alloc _), ?_, HQ.out, HT.out.symm, HMD.out.symm, ((Keeps.refl w).alloc _).alloc _, ?_, ?_⟩
    · exact Nat.lt_trans HQ.out (by decide)
    · exact (Below.heap_alloc _ _ _ (by simp)).trans (heap_alloc_new w _)
    · exact new_two _ _ _
  case round =>
    obtain ⟨A1, c1, l1, q1, k, j, rfl, rfl, hjk, hm1, hqk, hq1, hT1, hM1, hk, hbox, hres⟩ := hrel
    have d1 : decide ((j : Int) < 200) = true := decide_eq_true (by omega)
    have hjb : j ≤ 199 := by omega
    have HJ := Lib.hid hjk
    clear hjk
    obtain ⟨t, ht⟩ : ∃ t, dE l1 u = t := ⟨_, rfl⟩
    obtain ⟨l2, hl2⟩ : ∃ l2, dL l1 u q1 = l2 := ⟨_, rfl⟩
    obtain ⟨k2, hk2⟩ : ∃ k2, dQ l1 u q1 = k2 := ⟨_, rfl⟩
    obtain ⟨lo, hlo⟩ : ∃ x, dLo (q1 : Int) = x := ⟨_, rfl⟩
    obtain ⟨hi, hhi⟩ : ∃ x, dHi (q1 : Int) = x := ⟨_, rfl⟩
    obtain ⟨lo2, hlo2⟩ : ∃ x, dLo (k2 : Int) = x := ⟨_, rfl⟩
    obtain ⟨hi2, hhi2⟩ : ∃ x, dHi (k2 : Int) = x := ⟨_, rfl⟩
    have HP := Lib.hid (hbox.qAt hq1)
    rw [hlo, hhi] at hbox
    have HBX := Lib.hid hbox
    have HRS := Lib.hid hres
    have HKW := Lib.hid hk
    have HM1 := Lib.hid hm1
    have HD := Lib.hid (rpdigit_is A1 n c1 l1 wr u lo hi t q1 k2 l2 lo2 hi2 hlo hhi ht hl2 hk2 hlo2 hhi2 hq1 hn hm1)
    obtain ⟨x0, x1, y0, y1⟩ := hbox.cells
    obtain ⟨r0, r1, z0, z1⟩ := hres.cells
    have hsz : w.heap.size + 1 < wr.heap.size := hres.lt
    have hT2 : T = if t = 0 then (if k2 = 0 then 0 else aE k l2 u k2) else t := by rw [hT1, aE, ht, hk2, hl2]
    have hM2 : t = 0 → M = if k2 = 0 then l2 else aM k l2 u k2 := fun h => by rw [hM1, aM, ht, hk2, hl2, if_pos h]
    have HQK : Hid (t = 0 → k2 ≠ 0 → k2 < q1 ∧ ∃ k', k = k' + 1 ∧ k2 < 2 ^ k') := Lib.hid (fun h h' => by
      have hd : dE l1 u = 0 := by rw [ht, h]
      refine ⟨?_, ?_⟩
      · obtain ⟨_, b2, _, hbx⟩ := bE_ok (dE_ok hd).1
        rw [← hk2]
        unfold dQ
        rw [if_pos hd]
        rcases Nat.eq_zero_or_pos q1 with h0 | h0
        · exfalso; apply h'; rw [← hk2, h0]; unfold dQ; split <;> simp
        · exact Nat.div_lt_self h0 (by omega)
      · match k, hqk with
        | 0, hqk =>
          exfalso; apply h'
          have : q1 = 0 := by simpa using hqk
          rw [← hk2, this]; unfold dQ; split <;> simp
        | k' + 1, hqk => exact ⟨k', rfl, by rw [← hk2]; exact dQ_half hd hqk⟩)
    clear hT1 hM1 ht hl2 hk2 hlo hhi hqk hbox hres hk hm1
    by_cases ht0 : t = 0
    · have hM3 := hM2 ht0
      rw [if_pos ht0] at hT2
      by_cases hk0 : k2 = 0
      · rw [if_pos hk0] at hT2 hM3
        have hA : aL l u q = l2 := by rw [HLL.out, if_pos hT2, hM3]
        have HA := Lib.hid hA
        have HTT := Lib.hid hT2
        subst ht0 hk0
        have e0 : lo2 = 0 := by rw [← hlo2]; exact dLo_0
        have e1 : hi2 = 0 := by rw [← hhi2]; exact dHi_0
        subst e0 e1
        clear hA hT2 hM2 hM3 hq1 hlo2 hhi2
        go_wp2_with (go_at_call 13; refine HD.out.mono ?_; rintro e w2 ⟨A2, c2, rfl, hm2, hw2⟩; have H2 := Lib.hid hm2; have HB2 := Lib.hid (HBX.out.keeps hw2); have HR2 := Lib.hid (HRS.out.keeps hw2); have HK2 := Lib.hid (HKW.out.trans hw2); obtain ⟨u0, u1, v0, v1⟩ := HB2.out.cells; obtain ⟨s0, s1, i0, i1⟩ := HR2.out.cells; have hb2 := HB2.out.lt; have hr2 := HR2.out.lt; clear hm2 hw2)
        have hoff := HB2.out.off H2.out
        have hoff2 := HR2.out.off H2.out
        go_region
        all_goals
          go_wp2
          rw [HA.out, HTT.out]
          refine bodyPost_ret (v := .tuple #[.slice A2 n c2, .agg #[.int .i64 0, .int .i64 0], .int .i64 0]) (by simp [results, Try.results15, go_sem, s0, s1, hr2]) rfl ⟨_, _, ret_mdt dLo_0.symm dHi_0.symm, ?_, ?_⟩
          · exact (((((H2.out.set hoff _).set hoff _).set hoff2 _).set hoff2 _).alloc _).drew
          · exact (((((HK2.out.setCell (by simp) _).setCell (by simp) _).setCell (by simp) _).setCell (by simp) _).alloc _).drew
      · rw [if_neg hk0] at hT2 hM3
        have HT3 := Lib.hid hT2
        have HM3 := Lib.hid hM3
        have HK3 := Lib.hid (HQK.out ht0 hk0)
        have hk2lt : k2 < 340282366920938463463374607431768211456 := Nat.lt_trans HK3.out.1 hq1
        have hne : ¬ ((lo2 == 0) = true ∧ (hi2 == 0) = true) := fun h => hk0 (d_zero hk2lt (by rw [hlo2]; exact h.1) (by rw [hhi2]; exact h.2))
        subst ht0
        have HLO := Lib.hid hlo2
        have HHI := Lib.hid hhi2
        have HLT := Lib.hid hk2lt
        clear hT2 hM2 hM3 hq1 hlo2 hhi2 hk0 hk2lt
        cases hl : (lo2 == 0) <;> cases hh : (hi2 == 0)
        case true.true => exact absurd ⟨hl, hh⟩ hne
        all_goals
          clear hne
          go_wp2_with (go_at_call 13; refine HD.out.mono ?_; rintro e w2 ⟨A2, c2, rfl, hm2, hw2⟩; have H2 := Lib.hid hm2; have HB2 := Lib.hid (HBX.out.keeps hw2); have HR2 := Lib.hid (HRS.out.keeps hw2); have HK2 := Lib.hid (HKW.out.trans hw2); obtain ⟨u0, u1, v0, v1⟩ := HB2.out.cells; obtain ⟨s0, s1, i0, i1⟩ := HR2.out.cells; have hb2 := HB2.out.lt; have hr2 := HR2.out.lt; clear hm2 hw2)
          have hoff := HB2.out.off H2.out
          have hst := HB2.out.store lo2 hi2
          have hq2 : Two (((w2.setCell ⟨w.heap.size, 0, none⟩ (.int .i64 lo2)).setCell ⟨w.heap.size, 1, none⟩ (.int .i64 hi2)).alloc (.cells #[.int .i64 lo2, .int .i64 hi2] 24)) w.heap.size (dLo (k2 : Int)) (dHi (k2 : Int)) := by rw [HLO.out, HHI.out]; exact hst.keeps ((Keeps.refl _).alloc _)
          refine ⟨?_, ?_⟩
          · obtain ⟨k', hkk, hkl⟩ := HK3.out.2
            refine ⟨A2, c2, l2, k2, k', j + 1, rfl, by go_num, by have := HJ.out; omega, ((H2.out.set hoff _).set hoff _).alloc _, hkl, HLT.out, ?_, ?_, ((HK2.out.setCell (Nat.le_refl _) _).setCell (Nat.le_refl _) _).alloc _, hq2, ((HR2.out.other (by omega) _ _).other (by omega) _ _).keeps ((Keeps.refl _).alloc _)⟩
            · rw [← hkk]; exact HT3.out
            · rw [← hkk]; exact HM3.out
          · have e1 := hq2.qAt HLT.out
            have e2 := HP.out
            rw [e1, e2]
            exact HK3.out.1
    · rw [if_neg ht0] at hT2
      have hz : (t != 0) = true := by simpa using ht0
      have hA : aL l u q = l := by rw [HLL.out, if_neg (by rw [hT2]; exact ht0)]
      have HA := Lib.hid hA
      have HTT := Lib.hid hT2
      clear hA hT2 hM2 ht0 hlo2 hhi2 hq1
      go_wp2_with (go_at_call 13; refine HD.out.mono ?_; rintro e w2 ⟨A2, c2, rfl, hm2, hw2⟩; have H2 := Lib.hid hm2; have HB2 := Lib.hid (HBX.out.keeps hw2); have HR2 := Lib.hid (HRS.out.keeps hw2); have HK2 := Lib.hid (HKW.out.trans hw2); obtain ⟨u0, u1, v0, v1⟩ := HB2.out.cells; obtain ⟨s0, s1, i0, i1⟩ := HR2.out.cells; have hb2 := HB2.out.lt; have hr2 := HR2.out.lt; clear hm2 hw2)
      rw [HA.out, HTT.out]
      refine bodyPost_ret (v := .tuple #[.slice A n c, .agg #[.int .i64 0, .int .i64 0], .int .i64 t]) (by simp [results, Try.results15, go_sem, s0, s1, hr2]) rfl ⟨_, _, ret_mdt dLo_0.symm dHi_0.symm, ?_, ?_⟩
      · exact HM.out.keeps (((HK2.out.setCell (by simp) _).setCell (by simp) _).alloc _)
      · exact ((HK2.out.setCell (by simp) _).setCell (by simp) _).alloc _
theorem rpall_is (u lo hi t : Int) (q : Nat) (l' : List UInt8) (h1 : dLo q = lo) (h2 : dHi q = hi) (ht : aE 200 l u q = t) (hl : aL l u q = l') (hq : q < 340282366920938463463374607431768211456) (hn : n ≤ 1000000) (hm : Mem w A n c l) :
    Calls Try.prog 15 #[.slice A n c, .int .i64 u, .agg #[.int .i64 lo, .int .i64 hi]] w fun e w' => ∃ A' c', e = .returned (.tuple #[.slice A' n c', .agg #[.int .i64 0, .int .i64 0], .int .i64 t]) ∧ Mem w' A' n c' l' ∧ Keeps w w' := by
  subst h1 h2 ht hl
  have h := rpall_any A n c l w u q hq hn hm
  refine h.mono fun e w' hh => ?_
  obtain ⟨A', c', he, hm', hk⟩ := hh
  rw [dLo_0, dHi_0] at he
  exact ⟨A', c', he, hm', hk⟩
end
end Go.Proofs.Yticeeckahdjjmaa
