/-
  The call of the statement PicSteps answers true at every memory, user and double; of what was there nothing has changed.
-/
import Derived.Test.YticeeckahdjjmaaPicAwake
import Derived.Test.YticeeckahdjjmaaPicStepsMath
namespace Go.Proofs.Yticeeckahdjjmaa
open Go.RowKit

/-- Two cells are a double without a sign. -/
theorem dbl_un {l h : Int} (hl : InC l) (hh : InC h) : ∃ q : Nat, q < 340282366920938463463374607431768211456 ∧ l = dLo q ∧ h = dHi q := by
  refine ⟨(dV l h % 340282366920938463463374607431768211456).toNat, by omega, ?_, ?_⟩
  · unfold InC at hl hh; unfold dLo dV wrap64; omega
  · unfold InC at hl hh; unfold dHi dV wrap64; omega
/-- What holds at each round's head of the first loop. -/
def SpSt (w : World) (n : Nat) (A2 : Option Addr) (c2 : Nat) (l2 : List UInt8) (Lb Qb : Nat) (T : Int) (M : List UInt8) (u : Int) (at_ done i : Value) (wr : World) : Prop :=
  ∃ (A1 : Option Addr) (c1 : Nat) (l1 : List UInt8) (q1 k : Nat) (dn : Bool), at_ = .slice A1 n c1 ∧ done = .bool dn ∧ i = .int .i64 k ∧ Mem wr A1 n c1 l1 ∧ q1 < 340282366920938463463374607431768211456 ∧ Keeps w wr ∧ Two wr Lb (dLo q1) (dHi q1) ∧ Two wr Qb 0 0 ∧ Mem wr A2 n c2 l2 ∧
    (dn = false → ∃ k' : Nat, k + k' = 199 ∧ q1 < 2 ^ k' ∧ T = aE (k' + 1) l1 u q1 ∧ M = aM (k' + 1) l1 u q1) ∧ (dn = true → k ≤ 200 ∧ T = 0 ∧ M = l1)
section
variable (A : Option Addr) (n c : Nat) (l : List UInt8) (w : World)
theorem steps_out (u lo hi : Int) (hn : 700 < n) :
    Calls Try.prog 6 #[.slice A n c, .int .i64 u, .agg #[.int .i64 lo, .int .i64 hi]] w fun e w' => e = .returned (.bool true) ∧ Keeps w w' := by
  have d0 : decide ((700 : Int) < (n : Int)) = true := decide_eq_true (by omega)
  go_enter Try.func6, Try.ntmps6
  go_wp2_with (go_at_call 7; refine (pawake_any _).mono ?_; rintro e w1 ⟨rfl, hk1⟩; have HK1 := Lib.hid (((Keeps.refl w).alloc _).trans hk1); clear hk1)
  go_ret
  exact ⟨rfl, HK1.out⟩
set_option maxHeartbeats 2000000 in
set_option maxRecDepth 100000 in
theorem steps_in (u : Int) (q : Nat) (hq : q < 340282366920938463463374607431768211456) (hn : n ≤ 700) (hm : Mem w A n c l) (hu : InC u) :
    Calls Try.prog 6 #[.slice A n c, .int .i64 u, .agg #[.int .i64 (dLo q), .int .i64 (dHi q)]] w fun e w' => e = .returned (.bool true) ∧ Keeps w w' := by
  have d0 : decide ((700 : Int) < (n : Int)) = false := decide_eq_false (by omega)
  have hn2 : n ≤ 1000000 := by omega
  have HL := Lib.hid hm.len
  have HM := Lib.hid hm
  have HQ := Lib.hid hq
  have HU := Lib.hid hu
  obtain ⟨T, hT⟩ : ∃ T, aE 200 l u q = T := ⟨_, rfl⟩
  obtain ⟨M, hMd⟩ : ∃ M, aM 200 l u q = M := ⟨_, rfl⟩
  obtain ⟨l2, hl2⟩ : ∃ l2, aL l u q = l2 := ⟨_, rfl⟩
  have HT := Lib.hid hT
  have HMD := Lib.hid hMd
  have H2L := Lib.hid hl2
  obtain ⟨lo, hlo⟩ : ∃ x, dLo (q : Int) = x := ⟨_, rfl⟩
  obtain ⟨hi, hhi⟩ : ∃ x, dHi (q : Int) = x := ⟨_, rfl⟩
  have HLO := Lib.hid hlo
  have HHI := Lib.hid hhi
  rw [hlo, hhi]
  clear hT hMd hl2 hlo hhi hm hq hu
  go_enter Try.func6, Try.ntmps6
  go_wp2_with (first
    | (go_at_call 7; refine (pawake_any _).mono ?_; rintro e w1 ⟨rfl, hk1⟩; obtain ⟨x0, x1, f0, f1⟩ := resK hk1 (R := w.heap.size) (by simp) ⟨by simp [go_sem]; rfl, by simp [go_sem]; rfl, by simp [go_sem], by simp [go_sem]⟩; have hx : w.heap.size < w1.heap.size := (by have := hk1.size; simp at this; omega); have HK1 := Lib.hid (((Keeps.refl w).alloc _).trans hk1); clear hk1)
    | (go_at_call 14; refine (pall_is A n c l _ u lo hi T q l2 HLO.out HHI.out HT.out H2L.out HQ.out hn2 (HM.out.keeps HK1.out)).mono ?_; rintro e w3 ⟨A2, c2, rfl, hm2, hk2⟩; have H2 := Lib.hid hm2; have z0 := hk2.cell_some hx x0; have z1 := hk2.cell_some hx x1; have hz := Nat.lt_of_lt_of_le hx hk2.size; have HK3 := Lib.hid (HK1.out.trans hk2); clear hm2 hk2))
  go_loopw [11, 13, 14] (fun x d i wr => SpSt w n A2 c2 l2 (w3.heap.size + 1) w3.heap.size T M u x d i wr) (fun _ _ i _ => (200 - intOf i).toNat)
  case atStart =>
    refine ⟨A, c, l, q, 0, false, rfl, rfl, rfl, HM.out.keeps ((HK3.out.alloc _).alloc _), HQ.out, (HK3.out.alloc _).alloc _, ?_, ?_, (H2.out.alloc _).alloc _, fun _ => ⟨199, rfl, ?_, HT.out.symm, HMD.out.symm⟩, fun h => by cases h⟩
    · rw [HLO.out, HHI.out]; exact new_two _ _ _
    · exact Two.keeps (w := w3.alloc (.cells #[.int .i64 0, .int .i64 0] 24)) (heap_alloc_new w3 _) ((Keeps.refl _).alloc _)
    · exact Nat.lt_trans HQ.out (by decide)
  case round =>
    obtain ⟨A1, c1, l1, q1, k, dn, rfl, rfl, rfl, hm1, hq1, hkw, hLb, hQb, hm2, hF, hTr⟩ := hrel
    have hL3 : w.heap.size ≤ w3.heap.size := HK3.out.size
    have HL3 := Lib.hid hL3
    clear hL3 x0 x1 z0 z1 f0 f1 hx hz
    generalize hLB : w3.heap.size + 1 = Lb at *
    have HLB := Lib.hid hLB
    clear hLB
    generalize w3.heap.size = Qb at *
    cases dn with
    | false =>
      obtain ⟨k', hkk, hqk, hT1, hM1⟩ := hF rfl
      have d1 : decide ((k : Int) < 200) = true := decide_eq_true (by omega)
      obtain ⟨t, ht⟩ : ∃ t, dE l1 u = t := ⟨_, rfl⟩
      obtain ⟨l3, hl3⟩ : ∃ l2, dL l1 u q1 = l2 := ⟨_, rfl⟩
      obtain ⟨k2, hk2⟩ : ∃ k2, dQ l1 u q1 = k2 := ⟨_, rfl⟩
      obtain ⟨lo1, hlo1⟩ : ∃ x, dLo (q1 : Int) = x := ⟨_, rfl⟩
      obtain ⟨hi1, hhi1⟩ : ∃ x, dHi (q1 : Int) = x := ⟨_, rfl⟩
      obtain ⟨lo2, hlo2⟩ : ∃ x, dLo (k2 : Int) = x := ⟨_, rfl⟩
      obtain ⟨hi2, hhi2⟩ : ∃ x, dHi (k2 : Int) = x := ⟨_, rfl⟩
      have HD := Lib.hid (pdigit_is A1 n c1 l1 wr u lo1 hi1 t q1 k2 l3 lo2 hi2 hlo1 hhi1 ht hl3 hk2 hlo2 hhi2 hq1 hn2 hm1)
      rw [hlo1, hhi1] at hLb
      have HBX := Lib.hid hLb
      have HRS := Lib.hid hQb
      have HKW := Lib.hid hkw
      have HM1 := Lib.hid hm1
      have HM2 := Lib.hid hm2
      obtain ⟨x0, x1, y0, y1⟩ := hLb.cells
      obtain ⟨r0, r1, z0, z1⟩ := hQb.cells
      have hbl := hLb.lt
      have hql := hQb.lt
      have hT2 : T = if t = 0 then (if k2 = 0 then 0 else aE k' l3 u k2) else t := by rw [hT1, aE, ht, hk2, hl3]
      have hM2 : t = 0 → M = if k2 = 0 then l3 else aM k' l3 u k2 := fun h => by rw [hM1, aM, ht, hk2, hl3, if_pos h]
      have HQK : Hid (t = 0 → k2 ≠ 0 → k2 < q1 ∧ ∃ j, k' = j + 1 ∧ k2 < 2 ^ j) := Lib.hid (fun h h' => by
        have hd : dE l1 u = 0 := by rw [ht, h]
        refine ⟨?_, ?_⟩
        · obtain ⟨_, b2, _, hbx⟩ := bE_ok (dE_ok hd).1
          rw [← hk2]
          unfold dQ
          rw [if_pos hd]
          rcases Nat.eq_zero_or_pos q1 with h0 | h0
          · exfalso; apply h'; rw [← hk2, h0]; unfold dQ; split <;> simp
          · exact Nat.div_lt_self h0 (by omega)
        · match k', hqk with
          | 0, hqk =>
            exfalso; apply h'
            have : q1 = 0 := by simpa using hqk
            rw [← hk2, this]; unfold dQ; split <;> simp
          | j + 1, hqk => exact ⟨j, rfl, by rw [← hk2]; exact dQ_half hd hqk⟩)
      have hno : ¬ t = 0 → l3 = l1 := fun h => by rw [← hl3]; exact dL_no q1 (by rw [ht]; exact h)
      have HKK := Lib.hid hkk
      have hkb : k ≤ 199 := by omega
      clear hT1 hM1 ht hl3 hk2 hlo1 hhi1 hqk hLb hQb hkw hm1 hm2 hF hTr hkk
      by_cases ht0 : t = 0
      · have hM3 := hM2 ht0
        rw [if_pos ht0] at hT2
        by_cases hk0 : k2 = 0
        · rw [if_pos hk0] at hT2 hM3
          have HT3 := Lib.hid hT2
          have HM3 := Lib.hid hM3
          subst ht0 hk0
          have e0 : lo2 = 0 := by rw [← hlo2]; exact dLo_0
          have e1 : hi2 = 0 := by rw [← hhi2]; exact dHi_0
          subst e0 e1
          have HLO2 := Lib.hid hlo2
          have HHI2 := Lib.hid hhi2
          clear hT2 hM2 hM3 hq1 hno hlo2 hhi2
          go_wp2_with (go_at_call 12; refine HD.out.mono ?_; rintro e w5 ⟨A5, c5, rfl, hm5, hk5⟩; have H5 := Lib.hid hm5; have HK5 := Lib.hid hk5; have HB5 := Lib.hid (HBX.out.keeps hk5); have HR5 := Lib.hid (HRS.out.keeps hk5); obtain ⟨u0, u1, v0, v1⟩ := HB5.out.cells; obtain ⟨s0, s1, i0, i1⟩ := HR5.out.cells; have hb5 := HB5.out.lt; have hr5 := HR5.out.lt; clear hm5 hk5)
          have hoff := HB5.out.off H5.out
          have hoff2 := HB5.out.off (HM2.out.keeps HK5.out)
          have hst := HB5.out.store  0  0
          have hne1 : Lb ≠ Qb := by have := HLB.out; omega
          have hge : w.heap.size ≤ Lb := by have := HLB.out; have := HL3.out; omega
          go_roundw
          case rel =>
            refine ⟨A5, c5, l3, 0, k + 1, true, rfl, rfl, by go_num, ((H5.out.set hoff _).set hoff _).alloc _, (by decide), ((((HKW.out.trans HK5.out).setCell hge _).setCell hge _).alloc _), ?_, ((HR5.out.other hne1 _ _).other hne1 _ _).keeps ((Keeps.refl _).alloc _), (((HM2.out.keeps HK5.out).set hoff2 _).set hoff2 _).alloc _, ?_, ?_⟩
            · rw [HLO2.out, HHI2.out]; exact hst.keeps ((Keeps.refl _).alloc _)
            · intro h; cases h
            · intro _; exact ⟨by have := HKK.out; omega, HT3.out, HM3.out⟩
          case measure => simp [intOf]; have := HKK.out; omega
        · rw [if_neg hk0] at hT2 hM3
          have HT3 := Lib.hid hT2
          have HM3 := Lib.hid hM3
          have HK3' := Lib.hid (HQK.out ht0 hk0)
          have hk2lt : k2 < 340282366920938463463374607431768211456 := Nat.lt_trans HK3'.out.1 hq1
          have hne : ¬ ((lo2 == 0) = true ∧ (hi2 == 0) = true) := fun h => hk0 (d_zero hk2lt (by rw [hlo2]; exact h.1) (by rw [hhi2]; exact h.2))
          subst ht0
          have HLO2 := Lib.hid hlo2
          have HHI2 := Lib.hid hhi2
          have HLT := Lib.hid hk2lt
          clear hT2 hM2 hM3 hq1 hno hk0 hk2lt hlo2 hhi2
          cases hl : (lo2 == 0) <;> cases hh : (hi2 == 0)
          case true.true => exact absurd ⟨hl, hh⟩ hne
          all_goals
            clear hne
            go_wp2_with (go_at_call 12; refine HD.out.mono ?_; rintro e w5 ⟨A5, c5, rfl, hm5, hk5⟩; have H5 := Lib.hid hm5; have HK5 := Lib.hid hk5; have HB5 := Lib.hid (HBX.out.keeps hk5); have HR5 := Lib.hid (HRS.out.keeps hk5); obtain ⟨u0, u1, v0, v1⟩ := HB5.out.cells; obtain ⟨s0, s1, i0, i1⟩ := HR5.out.cells; have hb5 := HB5.out.lt; have hr5 := HR5.out.lt; clear hm5 hk5)
            have hoff := HB5.out.off H5.out
            have hoff2 := HB5.out.off (HM2.out.keeps HK5.out)
            have hst := HB5.out.store lo2 hi2
            have hne1 : Lb ≠ Qb := by have := HLB.out; omega
            have hge : w.heap.size ≤ Lb := by have := HLB.out; have := HL3.out; omega
            go_roundw
            case rel =>
              refine ⟨A5, c5, l3, k2, k + 1, false, rfl, rfl, by go_num, ((H5.out.set hoff _).set hoff _).alloc _, HLT.out, ((((HKW.out.trans HK5.out).setCell hge _).setCell hge _).alloc _), ?_, ((HR5.out.other hne1 _ _).other hne1 _ _).keeps ((Keeps.refl _).alloc _), (((HM2.out.keeps HK5.out).set hoff2 _).set hoff2 _).alloc _, ?_, ?_⟩
              · rw [HLO2.out, HHI2.out]; exact hst.keeps ((Keeps.refl _).alloc _)
              · intro _
                obtain ⟨j, hj, hjl⟩ := HK3'.out.2
                refine ⟨j, by have := HKK.out; omega, hjl, ?_, ?_⟩
                · rw [← hj]; exact HT3.out
                · rw [← hj]; exact HM3.out
              · intro h; cases h
            case measure => simp [intOf]; have := HKK.out; omega
      · rw [if_neg ht0] at hT2
        have hl20 : l2 = l := by rw [← H2L.out]; unfold aL; rw [HT.out, hT2, if_neg ht0]
        have hl30 := hno ht0
        have hz : (t != 0) = true := by simpa using ht0
        have htt : (t == t) = true := by simp
        subst hT2 hl20 hl30
        clear ht0 hM2 hno hlo2 hhi2 hq1
        go_wp2_with (go_at_call 12; refine HD.out.mono ?_; rintro e w5 ⟨A5, c5, rfl, hm5, hk5⟩; have HK5 := Lib.hid (hk5.alloc (.cells #[.int .i64 lo2, .int .i64 hi2] 24)); have hs1 := (HM2.out.keeps HK5.out).str; have hs2 := ((HM.out.keeps HKW.out).keeps HK5.out).str; have hs3 := (hm5.alloc (.cells #[.int .i64 lo2, .int .i64 hi2] 24)).str; have hs4 := (HM1.out.keeps HK5.out).str; have HR5 := Lib.hid (HRS.out.keeps hk5); obtain ⟨s0, s1, i0, i1⟩ := HR5.out.cells; have hr5 := HR5.out.lt; clear hm5 hk5)
        go_ret
        exact ⟨rfl, HKW.out.trans HK5.out⟩
    | true =>
      obtain ⟨hk200, rfl, hMl⟩ := hTr rfl
      have hl21 : l2 = l1 := by rw [← H2L.out]; unfold aL; rw [HT.out, if_pos rfl, HMD.out, hMl]
      have HO : Hid (∀ j, OutA u j → l2[j]? = l[j]?) := Lib.hid (fun j hj => by rw [← H2L.out]; unfold aL; rw [HT.out, if_pos rfl]; exact aM_out 200 l u q j hj)
      subst hl21
      have HM1 := Lib.hid hm1
      have HM2 := Lib.hid hm2
      have HKW := Lib.hid hkw
      have HRS := Lib.hid hQb
      have HMW := Lib.hid (HM.out.keeps hkw)
      clear hF hTr hMl hm1 hm2 hkw hLb hQb hq1
      obtain ⟨d1, d1'⟩ : ∃ v, decide ((k : Int) < 200) = v := ⟨_, rfl⟩
      cases d1
      all_goals
        go_wp2
        go_loopw [18] (fun i w4 => ∃ j : Nat, j ≤ n ∧ i = .int .i64 j ∧ Keeps wr w4) (fun i _ => ((n : Int) - intOf i).toNat)
        case atStart => exact ⟨0, by omega, rfl, Keeps.refl _⟩
        case round =>
          rename_i w4
          obtain ⟨j, hj, rfl, hk4⟩ := hrel
          by_cases hjn : j < n
          · have d2 : decide ((j : Int) < (n : Int)) = true := decide_eq_true (by omega)
            have hjl : j < l.length := by rw [HL.out]; exact hjn
            have hjl2 : j < l2.length := by rw [HM2.out.len]; exact hjn
            obtain ⟨b1, o1, rfl, hb1, hc1⟩ := (HMW.out.keeps hk4).2.2 (by omega)
            obtain ⟨b2, o2, rfl, hb2, hc2⟩ := (HM2.out.keeps hk4).2.2 (by omega)
            have g1 := hc1 j hjl
            have g2 := hc2 j hjl2
            have HK4 := Lib.hid hk4
            have e1 : l[j]? = some l[j] := List.getElem?_eq_getElem hjl
            have e2 : l2[j]? = some l2[j] := List.getElem?_eq_getElem hjl2
            by_cases heq : l2[j] = l[j]
            · rw [heq] at g2
              generalize l[j] = z at *
              have hv := u8_lt z
              have v0 : (0 : Int) ≤ (z.toNat : Int) := by omega
              have v1 : (z.toNat : Int) ≤ 255 := by omega
              have hzz : ((z.toNat : Int) != (z.toNat : Int)) = false := by simp
              clear e1 e2 heq hv hc1 hc2 hk4
              go_wp2
              go_quiet (fail)
              all_goals
                go_wp2
                go_roundw
                case rel => exact ⟨j + 1, by omega, by go_num, HK4.out.drewN _⟩
                case measure => simp [intOf]; omega
            · have hin : u ≤ (j : Int) ∧ (j : Int) < u + 128 := by
                refine Classical.byContradiction fun hno => heq ?_
                have := HO.out j (by unfold OutA; omega)
                rw [e1, e2] at this
                exact Option.some.inj this
              obtain ⟨e, he⟩ : ∃ e : Int, (j : Int) - u = e := ⟨_, rfl⟩
              have f1 : wrap64 ((j : Int) - u) = e := by unfold wrap64; omega
              have f2 : IntKind.i64.wrap ((j : Int) - u) = e := (wrapi64 _).trans f1
              have d3 : decide ((j : Int) < u) = false := decide_eq_false (by omega)
              have d4 : decide ((128 : Int) ≤ e) = false := decide_eq_false (by omega)
              have hzz : ((l2[j].toNat : Int) != (l[j].toNat : Int)) = true := by simp only [bne_iff_ne, ne_eq]; exact fun h => heq (u8_ext h)
              generalize l[j] = z at *
              generalize l2[j] = y at *
              have hv := u8_lt z
              have v0 : (0 : Int) ≤ (z.toNat : Int) := by omega
              have v1 : (z.toNat : Int) ≤ 255 := by omega
              have hv' := u8_lt y
              have v2 : (0 : Int) ≤ (y.toNat : Int) := by omega
              have v3 : (y.toNat : Int) ≤ 255 := by omega
              clear e1 e2 heq hv hv' hc1 hc2 hk4 hin he
              go_wp2
              go_quiet (fail)
              all_goals
                go_wp2
                go_roundw
                case rel => exact ⟨j + 1, by omega, by go_num, HK4.out.drewN _⟩
                case measure => simp [intOf]; omega
          · obtain rfl : j = n := by omega
            have d2 : decide ((j : Int) < (j : Int)) = false := decide_eq_false (by omega)
            have hs1 := (HM2.out.keeps hk4).str
            have hs2 := (HM1.out.keeps hk4).str
            obtain ⟨s0, s1, i0, i1⟩ := (HRS.out.keeps hk4).cells
            have hr5 := (HRS.out.keeps hk4).lt
            have HK4 := Lib.hid hk4
            clear hk4
            go_wp2
            go_ret
            exact ⟨rfl, HKW.out.trans HK4.out⟩
theorem picSteps_walk (u lo hi : Int) (hm : Mem w A n c l) (hu : InC u) (hlo : InC lo) (hhi : InC hi) :
    Calls Try.prog 6 #[.slice A n c, .int .i64 u, .agg #[.int .i64 lo, .int .i64 hi]] w fun e w' => e = .returned (.bool true) ∧ Keeps w w' := by
  by_cases h : n ≤ 700
  · obtain ⟨q, hq, rfl, rfl⟩ := dbl_un hlo hhi
    exact steps_in A n c l w u q hq h hm hu
  · exact steps_out A n c w u lo hi (by omega)
end
end Go.Proofs.Yticeeckahdjjmaa
