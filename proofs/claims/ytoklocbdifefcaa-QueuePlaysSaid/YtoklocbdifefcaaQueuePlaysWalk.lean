/-
  QueuePlays answers true, whatever the numbers are.
-/
import Derived.Test.YtoklocbdifefcaaQueueArr
import Derived.Test.YtoklocbdifefcaaCellMath
namespace Go.Proofs.Ytoklocbdifefcaa
open Go.RowKit

set_option maxHeartbeats 4000000 in
set_option maxRecDepth 4000 in
theorem plays_any (A0 : Option Addr) (n0 d0 : Nat) (l0 : List Int) (w : World) (h0 : Stk w A0 n0 d0 l0) :
    Calls Try.prog 5 #[.slice A0 n0 d0] w fun e w' => e = .returned (.bool true) ∧ Below w.heap.size w w' := by
  have H0 := Lib.hid h0
  clear h0
  by_cases hbig : n0 ≤ 200
  rotate_left
  · go_enter Try.func5, Try.ntmps5
    go_wp2_with (go_at_call 8; (with_reducible refine (awake_any _).mono ?_); rintro e w1 ⟨rfl, hb⟩; have HB := Lib.hid hb; clear hb)
    go_ret
    exact ⟨rfl, HB.out⟩
  go_enter Try.func5, Try.ntmps5
  go_upto_region 4 with (go_at_call 8; (with_reducible refine (awake_any _).mono ?_); rintro e w1 ⟨rfl, hb⟩; have HB := Lib.hid hb; have HS := Lib.hid (H0.out.below hb); clear hb)
  have hnew := ((QS.new w1).alloc (.cells #[.bool false, .bool false, .bool false, .bool false, .bool false, .bool false, .bool false, .bool false] 53))
  have M0 : Hid (QM w1 ((w1.alloc (.cells #[.int .i64 0, .slice none 0 0] 28)).alloc (.cells #[.bool false, .bool false, .bool false, .bool false, .bool false, .bool false, .bool false, .bool false] 53)) w1.heap.size (w1.heap.size + 1) 0 [] none 0 0) :=
    Lib.hid ⟨hnew, Ar.new _ _ (by simp), fun h => absurd h (Nat.lt_irrefl _), Nat.le_succ _, by omega, sq_nil (by omega)⟩
  clear hnew
  go_upto_region 7 with (fail)
  generalize (w1.alloc (.cells #[.int .i64 0, .slice none 0 0] 28)).alloc (.cells #[.bool false, .bool false, .bool false, .bool false, .bool false, .bool false, .bool false, .bool false] 53) = W at *
  have hl1 : w1.heap.size < w1.heap.size + 1 := Nat.lt_succ_self _
  obtain ⟨g, hg⟩ : ∃ g, w1.heap.size = g := ⟨_, rfl⟩
  obtain ⟨e, he⟩ : ∃ e, w1.heap.size + 1 = e := ⟨_, rfl⟩
  rw [hg] at M0
  rw [hg] at he
  rw [he] at M0
  rw [hg, he]
  clear hl1
  go_loopw [6] (fun i wr => ∃ (j : Nat) (N : Int) (L : List It) (A : Option Addr) (n c : Nat), j ≤ n0 ∧ i = .int .i64 j ∧ N ≤ (j : Int) ∧ QM w1 wr g e N L A n c) (fun i _ => ((n0 : Int) - intOf i).toNat)
  case atStart => exact ⟨0, 0, [], none, 0, 0, by omega, rfl, by omega, M0.out⟩
  case round =>
    obtain ⟨j, N, L, A, n, c, hj, rfl, hNj, hm⟩ := hrel
    have HM := Lib.hid hm
    by_cases hlt : j < n0
    · obtain ⟨xb, xo, rfl, hbl, f0⟩ := (HS.out.below hm.s.below).at_ j hlt
      generalize l0.getD j 0 = x at f0
      have qa := hm.s.q.c0; have qb := hm.s.q.c1; have qfa := hm.s.q.f 0; have qfb := hm.s.q.f 1; have ql := hm.s.q.lt
      have hsane := hm.sane
      have hsq := hsane.2.2
      clear hm
      obtain ⟨d, hd⟩ : ∃ d : Nat, x % 8 = (d : Int) := ⟨(x % 8).toNat, by omega⟩
      obtain ⟨p, hp⟩ : ∃ p : Int, (x / 8) % 4 = p := ⟨_, rfl⟩
      obtain ⟨s, hs⟩ : ∃ s : Int, (x / 32) % 4 = s := ⟨_, rfl⟩
      have h7 : bits .and .i64 x 7 = (d : Int) := (and7 x).trans hd
      have h3 : bits .and .i64 (x / 8) 3 = p := (bits_and_low 2 (by decide) _).trans hp
      have h5 : bits .and .i64 (x / 32) 3 = s := (bits_and_low 2 (by decide) _).trans hs
      have hp4 : 0 ≤ p ∧ p ≤ 4 := by omega
      have HP4 := Lib.hid hp4
      have hd8 : d < 8 := by omega
      have hN : N ≠ 1099511627776 := by omega
      have HN := Lib.hid hN
      have HSQ := Lib.hid hsq
      have HSA := Lib.hid hsane
      have hd0 : (0 : Int) ≤ (d : Int) := by omega
      have hd9 : (d : Int) < 8 := by omega
      have hdl : (d : Int) ≤ 7 := by omega
      clear hd hp hs hp4 hN hsq hsane
      by_cases hs0 : s = 0
      · subst hs0
        by_cases hL : L = []
        · have HT := Lib.hid (take_none hL)
          have HLL : Hid (inB L = inB []) := Lib.hid (by rw [hL])
          have HNX : Hid (N ≤ ((j + 1 : Nat) : Int)) := Lib.hid (by omega)
          clear hL
          go_upto_region 23 with (go_at_call 14; (with_reducible refine (take_at N A n c L [] 0 false _ HSA.out HT.out.1 HT.out.2.1 HT.out.2.2 HM.out.s.its).mono ?_); rintro e w2 ⟨A2, n2, c2, rfl, hi, hb, hbo⟩; have HM2 := Lib.hid ((HM.out.set0 (N' := N) hb hi hbo HLL.out (sq_nil HSA.out.1)).keep (below_one _ (.cells #[.int .i64 N, .slice A2 n2 c2] 28))); clear qa qb qfa qfb ql; have X := HM.out.s.q.keep hb; have qa := X.c0; have qb := X.c1; have qfa := X.f 0; have qfb := X.f 1; have ql := X.lt; clear X; clear hb hi hbo)
          go_upto_region 30 with (fail)
          generalize (((w2.setCell ⟨g, 0, none⟩ (.int .i64 N)).setCell ⟨g, 1, none⟩ (.slice A2 n2 c2)).alloc (.cells #[.int .i64 N, .slice A2 n2 c2] 28)) = wx at *
          clear qa qb qfa qfb ql
          have qa := HM2.out.s.q.c0; have qb := HM2.out.s.q.c1
          go_upto_region 33 with (go_at_call 21; (with_reducible refine (ids_at N A2 n2 c2 [] _ _ HM2.out.sane rfl HM2.out.s.its).mono ?_); rintro e w4 ⟨A4, n4, c4, rfl, hk4, hb⟩; have HM4 := Lib.hid (HM2.out.keep hb); have HC4 := Lib.hid (show cnQ [] 8 = n4 from by have h := hk4.len; unfold idL at h; rw [List.length_map] at h; rw [cn_all HM2.out.sane.2.2, h]); clear hb hk4 qa qb)
          have qa := HM4.out.s.q.c0; have qb := HM4.out.s.q.c1
          go_loop [17, 18] (fun v k => ∃ q : Nat, q ≤ 8 ∧ k = .int .i64 q ∧ v = .int .i64 (cnQ [] q : Nat)) (fun _ k => ((8 : Int) - intOf k).toNat)
          case atStart => exact ⟨0, by omega, rfl, rfl⟩
          case round =>
            obtain ⟨q, hq, rfl, rfl⟩ := hrel
            have hcb := cn_le [] q
            by_cases hq8 : q < 8
            · have hc := HM4.out.ar.cell q (by rw [inB_length]; exact hq8)
              rw [inB_get _ q hq8] at hc
              have HX : Hid (cnQ [] (q + 1) = cnQ [] q + if inQ [] q = true then 1 else 0) := Lib.hid rfl
              generalize cnQ [] q = C at *
              generalize inQ [] q = b at *
              have hq0 : (0 : Int) ≤ (q : Int) := by omega
              have hq9 : (q : Int) < 8 := by omega
              cases b
              · go_wp2
                go_round
                case rel => exact ⟨q + 1, by omega, by go_num, by rw [HX.out]; simp⟩
                case measure => simp [intOf]; omega
              · go_wp2
                go_round
                case rel => exact ⟨q + 1, by omega, by go_num, by rw [HX.out]; simp⟩
                case measure => simp [intOf]; omega
            · obtain rfl : q = 8 := by omega
              obtain ⟨m, hm⟩ : ∃ m, cnQ [] 8 = m := ⟨_, rfl⟩
              have hnn : ((n4 : Int) != (m : Int)) = false := by rw [← hm, HC4.out]; simp
              rw [hm] at hcb ⊢
              clear hm
              go_upto_region 37 with (fail)
              go_wp2_with (go_at_call 23; (with_reducible refine (sane_at N A2 n2 c2 [] _ HM4.out.sane HM4.out.s.its).mono ?_); rintro e w5 ⟨rfl, hb⟩; have HM5 := Lib.hid (HM4.out.keep hb); clear hb)
              go_roundw
              case rel => exact ⟨j + 1, N, [], A2, n2, c2, by omega, by go_num, HNX.out, HM5.out⟩
              case measure => simp [intOf]; omega
        · obtain ⟨k, hd8, hk1, hk2, hk3, hk4⟩ := take_some HSQ.out hL
          have HT := Lib.hid hk1
          have HT2 := Lib.hid hk2
          have HT3 := Lib.hid hk3
          have HT4 := Lib.hid hk4
          have HNX : Hid (N ≤ ((j + 1 : Nat) : Int)) := Lib.hid (by omega)
          obtain ⟨L2, hL2⟩ : ∃ L2, nthL L 0 = L2 := ⟨_, rfl⟩
          rw [hL2] at HT4
          have HS2 : Hid (Sq N L2) := Lib.hid (by rw [← hL2]; exact sq_nth 0 HSA.out)
          have HL2 := Lib.hid hL2
          have k0 : (0 : Int) ≤ (k : Int) := by omega
          have k9 : (k : Int) < 8 := by omega
          have kl : (k : Int) ≤ 7 := by omega
          clear hk1 hk2 hk3 hk4 hL2 hL
          go_upto_region 23 with (go_at_call 14; (with_reducible refine (take_at N A n c L L2 (k : Int) true _ HSA.out HL2.out HT.out HT2.out HM.out.s.its).mono ?_); rintro e w2 ⟨A2, n2, c2, rfl, hi, hb, hbo⟩; have HM2 := Lib.hid ((HM.out.set (N' := N) hb hi hbo k false HT4.out HS2.out).keep (below_one _ (.cells #[.int .i64 N, .slice A2 n2 c2] 28))); clear qa qb qfa qfb ql; have X := HM.out.s.q.keep hb; have qa := X.c0; have qb := X.c1; have qfa := X.f 0; have qfb := X.f 1; have ql := X.lt; clear X; have Y := HM.out.ar.keep hb; have pa := Y.cell k (by rw [inB_length]; exact hd8); have pf := Y.f k; have pl := Y.lt; rw [inB_get _ _ hd8, HT3.out] at pa; clear Y; clear hb hi hbo)
          go_upto_region 30 with (fail)
          generalize ((((w2.setCell ⟨e, k, none⟩ (.bool false)).setCell ⟨g, 0, none⟩ (.int .i64 N)).setCell ⟨g, 1, none⟩ (.slice A2 n2 c2)).alloc (.cells #[.int .i64 N, .slice A2 n2 c2] 28)) = wx at *
          clear qa qb qfa qfb ql
          have qa := HM2.out.s.q.c0; have qb := HM2.out.s.q.c1
          go_upto_region 33 with (go_at_call 21; (with_reducible refine (ids_at N A2 n2 c2 L2 _ _ HM2.out.sane rfl HM2.out.s.its).mono ?_); rintro e w4 ⟨A4, n4, c4, rfl, hk4, hb⟩; have HM4 := Lib.hid (HM2.out.keep hb); have HC4 := Lib.hid (show cnQ L2 8 = n4 from by have h := hk4.len; unfold idL at h; rw [List.length_map] at h; rw [cn_all HM2.out.sane.2.2, h]); clear hb hk4 qa qb)
          have qa := HM4.out.s.q.c0; have qb := HM4.out.s.q.c1
          go_loop [17, 18] (fun v k => ∃ q : Nat, q ≤ 8 ∧ k = .int .i64 q ∧ v = .int .i64 (cnQ L2 q : Nat)) (fun _ k => ((8 : Int) - intOf k).toNat)
          case atStart => exact ⟨0, by omega, rfl, rfl⟩
          case round =>
            obtain ⟨q, hq, rfl, rfl⟩ := hrel
            have hcb := cn_le L2 q
            by_cases hq8 : q < 8
            · have hc := HM4.out.ar.cell q (by rw [inB_length]; exact hq8)
              rw [inB_get _ q hq8] at hc
              have HX : Hid (cnQ L2 (q + 1) = cnQ L2 q + if inQ L2 q = true then 1 else 0) := Lib.hid rfl
              generalize cnQ L2 q = C at *
              generalize inQ L2 q = b at *
              have hq0 : (0 : Int) ≤ (q : Int) := by omega
              have hq9 : (q : Int) < 8 := by omega
              cases b
              · go_wp2
                go_round
                case rel => exact ⟨q + 1, by omega, by go_num, by rw [HX.out]; simp⟩
                case measure => simp [intOf]; omega
              · go_wp2
                go_round
                case rel => exact ⟨q + 1, by omega, by go_num, by rw [HX.out]; simp⟩
                case measure => simp [intOf]; omega
            · obtain rfl : q = 8 := by omega
              obtain ⟨m, hm⟩ : ∃ m, cnQ L2 8 = m := ⟨_, rfl⟩
              have hnn : ((n4 : Int) != (m : Int)) = false := by rw [← hm, HC4.out]; simp
              rw [hm] at hcb ⊢
              clear hm
              go_upto_region 37 with (fail)
              go_wp2_with (go_at_call 23; (with_reducible refine (sane_at N A2 n2 c2 L2 _ HM4.out.sane HM4.out.s.its).mono ?_); rintro e w5 ⟨rfl, hb⟩; have HM5 := Lib.hid (HM4.out.keep hb); clear hb)
              go_roundw
              case rel => exact ⟨j + 1, N, L2, A2, n2, c2, by omega, by go_num, HNX.out, HM5.out⟩
              case measure => simp [intOf]; omega
      · have hs0' : (s == 0) = false := by simpa using hs0
        by_cases hs1 : s = 1
        · subst hs1
          have HD := Lib.hid (dr_mem (l := L) d)
          have HT4 := Lib.hid (dr_marks HSQ.out d)
          have HNX : Hid (N ≤ ((j + 1 : Nat) : Int)) := Lib.hid (by omega)
          obtain ⟨L2, hL2⟩ : ∃ L2, drL L (d : Int) = L2 := ⟨_, rfl⟩
          rw [hL2] at HT4
          have HS2 : Hid (Sq N L2) := Lib.hid (by rw [← hL2]; exact sq_dr _ HSA.out)
          have HL2 := Lib.hid hL2
          obtain ⟨b, hb'⟩ : ∃ b, inQ L d = b := ⟨_, rfl⟩
          have HT3 := Lib.hid hb'
          rw [hb'] at HD
          clear hL2 hb' hs0
          cases b
          · go_upto_region 29 with (go_at_call 16; (with_reducible refine (drop_at N A n c L (d : Int) L2 _ _ HSA.out HL2.out HD.out HM.out.s.its).mono ?_); rintro e w2 ⟨A2, n2, c2, rfl, hi, hb, hbo⟩; have HM2 := Lib.hid ((HM.out.set (N' := N) hb hi hbo d false HT4.out HS2.out).keep (below_one _ (.cells #[.int .i64 N, .slice A2 n2 c2] 28))); clear qa qb qfa qfb ql; have X := HM.out.s.q.keep hb; have qa := X.c0; have qb := X.c1; have qfa := X.f 0; have qfb := X.f 1; have ql := X.lt; clear X; have Y := HM.out.ar.keep hb; have pa := Y.cell d (by rw [inB_length]; exact hd8); have pf := Y.f d; have pl := Y.lt; rw [inB_get _ _ hd8, HT3.out] at pa; clear Y; clear hb hi hbo)
            go_upto_region 30 with (fail)
            generalize ((((w2.setCell ⟨e, d, none⟩ (.bool false)).setCell ⟨g, 0, none⟩ (.int .i64 N)).setCell ⟨g, 1, none⟩ (.slice A2 n2 c2)).alloc (.cells #[.int .i64 N, .slice A2 n2 c2] 28)) = wx at *
            clear qa qb qfa qfb ql
            have qa := HM2.out.s.q.c0; have qb := HM2.out.s.q.c1
            go_upto_region 33 with (go_at_call 21; (with_reducible refine (ids_at N A2 n2 c2 L2 _ _ HM2.out.sane rfl HM2.out.s.its).mono ?_); rintro e w4 ⟨A4, n4, c4, rfl, hk4, hb⟩; have HM4 := Lib.hid (HM2.out.keep hb); have HC4 := Lib.hid (show cnQ L2 8 = n4 from by have h := hk4.len; unfold idL at h; rw [List.length_map] at h; rw [cn_all HM2.out.sane.2.2, h]); clear hb hk4 qa qb)
            have qa := HM4.out.s.q.c0; have qb := HM4.out.s.q.c1
            go_loop [17, 18] (fun v k => ∃ q : Nat, q ≤ 8 ∧ k = .int .i64 q ∧ v = .int .i64 (cnQ L2 q : Nat)) (fun _ k => ((8 : Int) - intOf k).toNat)
            case atStart => exact ⟨0, by omega, rfl, rfl⟩
            case round =>
              obtain ⟨q, hq, rfl, rfl⟩ := hrel
              have hcb := cn_le L2 q
              by_cases hq8 : q < 8
              · have hc := HM4.out.ar.cell q (by rw [inB_length]; exact hq8)
                rw [inB_get _ q hq8] at hc
                have HX : Hid (cnQ L2 (q + 1) = cnQ L2 q + if inQ L2 q = true then 1 else 0) := Lib.hid rfl
                generalize cnQ L2 q = C at *
                generalize inQ L2 q = b at *
                have hq0 : (0 : Int) ≤ (q : Int) := by omega
                have hq9 : (q : Int) < 8 := by omega
                cases b
                · go_wp2
                  go_round
                  case rel => exact ⟨q + 1, by omega, by go_num, by rw [HX.out]; simp⟩
                  case measure => simp [intOf]; omega
                · go_wp2
                  go_round
                  case rel => exact ⟨q + 1, by omega, by go_num, by rw [HX.out]; simp⟩
                  case measure => simp [intOf]; omega
              · obtain rfl : q = 8 := by omega
                obtain ⟨m, hm⟩ : ∃ m, cnQ L2 8 = m := ⟨_, rfl⟩
                have hnn : ((n4 : Int) != (m : Int)) = false := by rw [← hm, HC4.out]; simp
                rw [hm] at hcb ⊢
                clear hm
                go_upto_region 37 with (fail)
                go_wp2_with (go_at_call 23; (with_reducible refine (sane_at N A2 n2 c2 L2 _ HM4.out.sane HM4.out.s.its).mono ?_); rintro e w5 ⟨rfl, hb⟩; have HM5 := Lib.hid (HM4.out.keep hb); clear hb)
                go_roundw
                case rel => exact ⟨j + 1, N, L2, A2, n2, c2, by omega, by go_num, HNX.out, HM5.out⟩
                case measure => simp [intOf]; omega
          · go_upto_region 29 with (go_at_call 16; (with_reducible refine (drop_at N A n c L (d : Int) L2 _ _ HSA.out HL2.out HD.out HM.out.s.its).mono ?_); rintro e w2 ⟨A2, n2, c2, rfl, hi, hb, hbo⟩; have HM2 := Lib.hid ((HM.out.set (N' := N) hb hi hbo d false HT4.out HS2.out).keep (below_one _ (.cells #[.int .i64 N, .slice A2 n2 c2] 28))); clear qa qb qfa qfb ql; have X := HM.out.s.q.keep hb; have qa := X.c0; have qb := X.c1; have qfa := X.f 0; have qfb := X.f 1; have ql := X.lt; clear X; have Y := HM.out.ar.keep hb; have pa := Y.cell d (by rw [inB_length]; exact hd8); have pf := Y.f d; have pl := Y.lt; rw [inB_get _ _ hd8, HT3.out] at pa; clear Y; clear hb hi hbo)
            go_upto_region 30 with (fail)
            generalize ((((w2.setCell ⟨e, d, none⟩ (.bool false)).setCell ⟨g, 0, none⟩ (.int .i64 N)).setCell ⟨g, 1, none⟩ (.slice A2 n2 c2)).alloc (.cells #[.int .i64 N, .slice A2 n2 c2] 28)) = wx at *
            clear qa qb qfa qfb ql
            have qa := HM2.out.s.q.c0; have qb := HM2.out.s.q.c1
            go_upto_region 33 with (go_at_call 21; (with_reducible refine (ids_at N A2 n2 c2 L2 _ _ HM2.out.sane rfl HM2.out.s.its).mono ?_); rintro e w4 ⟨A4, n4, c4, rfl, hk4, hb⟩; have HM4 := Lib.hid (HM2.out.keep hb); have HC4 := Lib.hid (show cnQ L2 8 = n4 from by have h := hk4.len; unfold idL at h; rw [List.length_map] at h; rw [cn_all HM2.out.sane.2.2, h]); clear hb hk4 qa qb)
            have qa := HM4.out.s.q.c0; have qb := HM4.out.s.q.c1
            go_loop [17, 18] (fun v k => ∃ q : Nat, q ≤ 8 ∧ k = .int .i64 q ∧ v = .int .i64 (cnQ L2 q : Nat)) (fun _ k => ((8 : Int) - intOf k).toNat)
            case atStart => exact ⟨0, by omega, rfl, rfl⟩
            case round =>
              obtain ⟨q, hq, rfl, rfl⟩ := hrel
              have hcb := cn_le L2 q
              by_cases hq8 : q < 8
              · have hc := HM4.out.ar.cell q (by rw [inB_length]; exact hq8)
                rw [inB_get _ q hq8] at hc
                have HX : Hid (cnQ L2 (q + 1) = cnQ L2 q + if inQ L2 q = true then 1 else 0) := Lib.hid rfl
                generalize cnQ L2 q = C at *
                generalize inQ L2 q = b at *
                have hq0 : (0 : Int) ≤ (q : Int) := by omega
                have hq9 : (q : Int) < 8 := by omega
                cases b
                · go_wp2
                  go_round
                  case rel => exact ⟨q + 1, by omega, by go_num, by rw [HX.out]; simp⟩
                  case measure => simp [intOf]; omega
                · go_wp2
                  go_round
                  case rel => exact ⟨q + 1, by omega, by go_num, by rw [HX.out]; simp⟩
                  case measure => simp [intOf]; omega
              · obtain rfl : q = 8 := by omega
                obtain ⟨m, hm⟩ : ∃ m, cnQ L2 8 = m := ⟨_, rfl⟩
                have hnn : ((n4 : Int) != (m : Int)) = false := by rw [← hm, HC4.out]; simp
                rw [hm] at hcb ⊢
                clear hm
                go_upto_region 37 with (fail)
                go_wp2_with (go_at_call 23; (with_reducible refine (sane_at N A2 n2 c2 L2 _ HM4.out.sane HM4.out.s.its).mono ?_); rintro e w5 ⟨rfl, hb⟩; have HM5 := Lib.hid (HM4.out.keep hb); clear hb)
                go_roundw
                case rel => exact ⟨j + 1, N, L2, A2, n2, c2, by omega, by go_num, HNX.out, HM5.out⟩
                case measure => simp [intOf]; omega
        · have hs1' : (s == 1) = false := by simpa using hs1
          have HD := Lib.hid (pu_mem (l := L) d hd8 p HP4.out HN.out)
          have HT4 := Lib.hid (pu_marks (l := L) d hd8 p HP4.out HN.out)
          obtain ⟨N2, hN2⟩ : ∃ N2, puN N L (d : Int) p = N2 := ⟨_, rfl⟩
          have HNX : Hid (N2 ≤ ((j + 1 : Nat) : Int)) := Lib.hid (by
            rcases next_put (n := N) (l := L) (d := (d : Int)) (p := p) with h | h
            · rw [← hN2, h]; omega
            · rw [← hN2, h]; omega)
          obtain ⟨L2, hL2⟩ : ∃ L2, puL N L (d : Int) p = L2 := ⟨_, rfl⟩
          rw [hL2] at HT4
          have HS2 : Hid (Sq N2 L2) := Lib.hid (by rw [← hL2, ← hN2]; exact sq_put _ _ HSA.out)
          have HL2 := Lib.hid hL2
          have HN2 := Lib.hid hN2
          obtain ⟨b, hb'⟩ : ∃ b, inQ L d = b := ⟨_, rfl⟩
          have HT3 := Lib.hid hb'
          rw [hb'] at HD
          clear hL2 hN2 hb' hs0 hs1
          cases b
          · go_upto_region 16 with (go_at_call 9; (with_reducible refine (put_at N A n c L (d : Int) p N2 L2 _ _ HSA.out HN2.out HL2.out HD.out HM.out.s.its).mono ?_); rintro e w2 ⟨A2, n2, c2, rfl, hi, hb, hbo⟩; have HM2 := Lib.hid ((HM.out.set (N' := N2) hb hi hbo d true HT4.out HS2.out).keep (below_one _ (.cells #[.int .i64 N2, .slice A2 n2 c2] 28))); clear qa qb qfa qfb ql; have X := HM.out.s.q.keep hb; have qa := X.c0; have qb := X.c1; have qfa := X.f 0; have qfb := X.f 1; have ql := X.lt; clear X; have Y := HM.out.ar.keep hb; have pa := Y.cell d (by rw [inB_length]; exact hd8); have pf := Y.f d; have pl := Y.lt; rw [inB_get _ _ hd8, HT3.out] at pa; clear Y; clear hb hi hbo)
            go_upto_region 30 with (fail)
            generalize ((((w2.setCell ⟨e, d, none⟩ (.bool true)).setCell ⟨g, 0, none⟩ (.int .i64 N2)).setCell ⟨g, 1, none⟩ (.slice A2 n2 c2)).alloc (.cells #[.int .i64 N2, .slice A2 n2 c2] 28)) = wx at *
            clear qa qb qfa qfb ql
            have qa := HM2.out.s.q.c0; have qb := HM2.out.s.q.c1
            go_upto_region 33 with (go_at_call 21; (with_reducible refine (ids_at N2 A2 n2 c2 L2 _ _ HM2.out.sane rfl HM2.out.s.its).mono ?_); rintro e w4 ⟨A4, n4, c4, rfl, hk4, hb⟩; have HM4 := Lib.hid (HM2.out.keep hb); have HC4 := Lib.hid (show cnQ L2 8 = n4 from by have h := hk4.len; unfold idL at h; rw [List.length_map] at h; rw [cn_all HM2.out.sane.2.2, h]); clear hb hk4 qa qb)
            have qa := HM4.out.s.q.c0; have qb := HM4.out.s.q.c1
            go_loop [17, 18] (fun v k => ∃ q : Nat, q ≤ 8 ∧ k = .int .i64 q ∧ v = .int .i64 (cnQ L2 q : Nat)) (fun _ k => ((8 : Int) - intOf k).toNat)
            case atStart => exact ⟨0, by omega, rfl, rfl⟩
            case round =>
              obtain ⟨q, hq, rfl, rfl⟩ := hrel
              have hcb := cn_le L2 q
              by_cases hq8 : q < 8
              · have hc := HM4.out.ar.cell q (by rw [inB_length]; exact hq8)
                rw [inB_get _ q hq8] at hc
                have HX : Hid (cnQ L2 (q + 1) = cnQ L2 q + if inQ L2 q = true then 1 else 0) := Lib.hid rfl
                generalize cnQ L2 q = C at *
                generalize inQ L2 q = b at *
                have hq0 : (0 : Int) ≤ (q : Int) := by omega
                have hq9 : (q : Int) < 8 := by omega
                cases b
                · go_wp2
                  go_round
                  case rel => exact ⟨q + 1, by omega, by go_num, by rw [HX.out]; simp⟩
                  case measure => simp [intOf]; omega
                · go_wp2
                  go_round
                  case rel => exact ⟨q + 1, by omega, by go_num, by rw [HX.out]; simp⟩
                  case measure => simp [intOf]; omega
              · obtain rfl : q = 8 := by omega
                obtain ⟨m, hm⟩ : ∃ m, cnQ L2 8 = m := ⟨_, rfl⟩
                have hnn : ((n4 : Int) != (m : Int)) = false := by rw [← hm, HC4.out]; simp
                rw [hm] at hcb ⊢
                clear hm
                go_upto_region 37 with (fail)
                go_wp2_with (go_at_call 23; (with_reducible refine (sane_at N2 A2 n2 c2 L2 _ HM4.out.sane HM4.out.s.its).mono ?_); rintro e w5 ⟨rfl, hb⟩; have HM5 := Lib.hid (HM4.out.keep hb); clear hb)
                go_roundw
                case rel => exact ⟨j + 1, N2, L2, A2, n2, c2, by omega, by go_num, HNX.out, HM5.out⟩
                case measure => simp [intOf]; omega
          · go_upto_region 16 with (go_at_call 9; (with_reducible refine (put_at N A n c L (d : Int) p N2 L2 _ _ HSA.out HN2.out HL2.out HD.out HM.out.s.its).mono ?_); rintro e w2 ⟨A2, n2, c2, rfl, hi, hb, hbo⟩; have HM2 := Lib.hid ((HM.out.set (N' := N2) hb hi hbo d true HT4.out HS2.out).keep (below_one _ (.cells #[.int .i64 N2, .slice A2 n2 c2] 28))); clear qa qb qfa qfb ql; have X := HM.out.s.q.keep hb; have qa := X.c0; have qb := X.c1; have qfa := X.f 0; have qfb := X.f 1; have ql := X.lt; clear X; have Y := HM.out.ar.keep hb; have pa := Y.cell d (by rw [inB_length]; exact hd8); have pf := Y.f d; have pl := Y.lt; rw [inB_get _ _ hd8, HT3.out] at pa; clear Y; clear hb hi hbo)
            go_upto_region 30 with (fail)
            generalize ((((w2.setCell ⟨e, d, none⟩ (.bool true)).setCell ⟨g, 0, none⟩ (.int .i64 N2)).setCell ⟨g, 1, none⟩ (.slice A2 n2 c2)).alloc (.cells #[.int .i64 N2, .slice A2 n2 c2] 28)) = wx at *
            clear qa qb qfa qfb ql
            have qa := HM2.out.s.q.c0; have qb := HM2.out.s.q.c1
            go_upto_region 33 with (go_at_call 21; (with_reducible refine (ids_at N2 A2 n2 c2 L2 _ _ HM2.out.sane rfl HM2.out.s.its).mono ?_); rintro e w4 ⟨A4, n4, c4, rfl, hk4, hb⟩; have HM4 := Lib.hid (HM2.out.keep hb); have HC4 := Lib.hid (show cnQ L2 8 = n4 from by have h := hk4.len; unfold idL at h; rw [List.length_map] at h; rw [cn_all HM2.out.sane.2.2, h]); clear hb hk4 qa qb)
            have qa := HM4.out.s.q.c0; have qb := HM4.out.s.q.c1
            go_loop [17, 18] (fun v k => ∃ q : Nat, q ≤ 8 ∧ k = .int .i64 q ∧ v = .int .i64 (cnQ L2 q : Nat)) (fun _ k => ((8 : Int) - intOf k).toNat)
            case atStart => exact ⟨0, by omega, rfl, rfl⟩
            case round =>
              obtain ⟨q, hq, rfl, rfl⟩ := hrel
              have hcb := cn_le L2 q
              by_cases hq8 : q < 8
              · have hc := HM4.out.ar.cell q (by rw [inB_length]; exact hq8)
                rw [inB_get _ q hq8] at hc
                have HX : Hid (cnQ L2 (q + 1) = cnQ L2 q + if inQ L2 q = true then 1 else 0) := Lib.hid rfl
                generalize cnQ L2 q = C at *
                generalize inQ L2 q = b at *
                have hq0 : (0 : Int) ≤ (q : Int) := by omega
                have hq9 : (q : Int) < 8 := by omega
                cases b
                · go_wp2
                  go_round
                  case rel => exact ⟨q + 1, by omega, by go_num, by rw [HX.out]; simp⟩
                  case measure => simp [intOf]; omega
                · go_wp2
                  go_round
                  case rel => exact ⟨q + 1, by omega, by go_num, by rw [HX.out]; simp⟩
                  case measure => simp [intOf]; omega
              · obtain rfl : q = 8 := by omega
                obtain ⟨m, hm⟩ : ∃ m, cnQ L2 8 = m := ⟨_, rfl⟩
                have hnn : ((n4 : Int) != (m : Int)) = false := by rw [← hm, HC4.out]; simp
                rw [hm] at hcb ⊢
                clear hm
                go_upto_region 37 with (fail)
                go_wp2_with (go_at_call 23; (with_reducible refine (sane_at N2 A2 n2 c2 L2 _ HM4.out.sane HM4.out.s.its).mono ?_); rintro e w5 ⟨rfl, hb⟩; have HM5 := Lib.hid (HM4.out.keep hb); clear hb)
                go_roundw
                case rel => exact ⟨j + 1, N2, L2, A2, n2, c2, by omega, by go_num, HNX.out, HM5.out⟩
                case measure => simp [intOf]; omega
    · obtain rfl : j = n0 := by omega
      have HE := Lib.hid (below_then HB.out hm.s.below)
      go_wp2
      go_ret
      exact ⟨rfl, HE.out⟩
end Go.Proofs.Ytoklocbdifefcaa
