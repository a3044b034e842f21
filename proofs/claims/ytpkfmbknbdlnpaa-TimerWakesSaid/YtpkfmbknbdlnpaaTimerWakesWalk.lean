/-
  TimerWakes answers true, whatever the times are.
-/
import Derived.Test.YtpkfmbknbdlnpaaTimerAwake
import Derived.Test.YtpkfmbknbdlnpaaTimerSaysB
import Derived.Test.YtpkfmbknbdlnpaaTimerWakesMath
namespace Go.Proofs.Ytpkfmbknbdlnpaa
open Go.RowKit

theorem tduew_at (A : Option Addr) (n c : Nat) (l : List Np) (t : Int) (l2 : List Np) (k : List Int) (w : World) (hs : Sn l) (h1 : ovL l t = l2) (h2 : niL (upL l t) = k) (h : Nps w A n c l) :
    Calls Try.prog 11 #[.slice A n c, .int .i64 t] w (NIBPost A n l2 k w) := by
  have := tduew_is A n c l t w (sn_le hs h) h
  rw [tn_ok hs, h1, h2] at this
  exact this
set_option maxHeartbeats 8000000 in
set_option maxRecDepth 8000 in
theorem wakes_any (A : Option Addr) (n c : Nat) (W : List Int) (fr : Int) (w : World) (h : Stk w A n c W) :
    Calls Try.prog 4 #[.slice A n c, .int .i64 fr] w fun e w' => e = .returned (.bool true) ∧ Below w.heap.size w w' := by
  have H := Lib.hid h
  clear h
  by_cases hn : n ≤ 8
  rotate_left
  · have d1 : decide ((8 : Int) < (n : Int)) = true := decide_eq_true (by omega)
    clear H
    go_enter Try.func4, Try.ntmps4
    go_wp2_with (go_at_call 7; (with_reducible refine (tawake_any _).mono ?_); rintro e w1 ⟨rfl, hb⟩; have HB := Lib.hid hb; clear hb)
    go_ret
    exact ⟨rfl, HB.out⟩
  have d1 : decide ((8 : Int) < (n : Int)) = false := decide_eq_false (by omega)
  obtain ⟨s, hs⟩ : ∃ s : Int, fr % 16 = s := ⟨_, rfl⟩
  have h15 : bits .and .i64 fr 15 = s := (bits_and_low 4 (by decide) fr).trans hs
  have hs0 : 0 ≤ s := by omega
  have hs15 : s ≤ 15 := by omega
  clear hs
  go_enter Try.func4, Try.ntmps4
  go_upto_region 6 with (go_at_call 7; (with_reducible refine (tawake_any _).mono ?_); rintro e w1 ⟨rfl, hb⟩; have HB := Lib.hid hb; have H := Lib.hid (H.out.below hb); clear hb)
  go_loopw [6, 7] (fun v i wr => ∃ (j : Nat) (A' : Option Addr) (n' c' : Nat), j ≤ n ∧ i = .int .i64 j ∧ v = .slice A' n' c' ∧ Nps wr A' n' c' (wkL W j) ∧ Below w1.heap.size w1 wr) (fun _ i _ => ((n : Int) - intOf i).toNat)
  case atStart => exact ⟨0, none, 0, 0, by omega, rfl, rfl, Nps.nil, Below.refl _ _⟩
  case round =>
    obtain ⟨j, A1, n1, c1, hj, rfl, rfl, hp, hb⟩ := hrel
    have HP := Lib.hid hp
    have HV := Lib.hid hb
    clear hp hb
    by_cases hlt : j < n
    · obtain ⟨xb, xo, rfl, hbl, f0⟩ := (H.out.below HV.out).at_ j hlt
      obtain ⟨y, hy⟩ : ∃ y, W.getD j 0 = y := ⟨_, rfl⟩
      obtain ⟨t, ht⟩ : ∃ t, wkT W j = t := ⟨_, rfl⟩
      have h31 : bits .and .i64 y 31 = t := (bits_and_low 5 (by decide) y).trans (by rw [← ht, ← hy]; rfl)
      rw [hy] at f0
      have q8 : j < 8 := by omega
      have HT1 : Hid (pnL (wkL W j) j t = wkL W (j + 1)) := Lib.hid (by rw [← ht]; rfl)
      have HT2 : Hid (pnB (wkL W j) j t = true) := Lib.hid (by rw [← ht]; exact wk_put W q8)
      clear hy ht
      go_wp2_with (go_at_call 8; (with_reducible refine (tput_at A1 n1 c1 (wkL W j) j t (wkL W (j + 1)) true _ (wk_sn W j) HT1.out HT2.out HP.out).mono ?_); rintro e w2 ⟨A2, n2, c2, rfl, hi, hb⟩; have HV2 := Lib.hid (below_then HV.out hb); have HP2 := Lib.hid hi; clear hi hb)
      go_roundw
      case rel => exact ⟨j + 1, A2, n2, c2, by omega, by go_num, rfl, HP2.out, HV2.out⟩
      case measure => simp [intOf]; omega
    · obtain rfl : j = n := by omega
      obtain ⟨W0, rfl⟩ : ∃ W0, W0 = wr := ⟨_, rfl⟩
      have K0 := Lib.hid ((Wk.new W0 HP.out).as (wkC_zero W s j []).symm (ac_start (wkL W j) s).symm)
      have HB2 := Lib.hid (below_then HB.out HV.out)
      have H2 := Lib.hid (H.out.below HV.out)
      clear HB HV H HP
      go_upto_region 13 with (fail)
      generalize W0.alloc (.cells #[.int .i64 0, .int .i64 0, .int .i64 0, .int .i64 0, .int .i64 0, .int .i64 0, .int .i64 0, .int .i64 0] 46) = W1 at *
      obtain ⟨e, he⟩ : ∃ e, W0.heap.size = e := ⟨_, rfl⟩
      have HE := Lib.hid he
      rw [he] at K0 ⊢
      clear he
      go_upto_region 15 with (fail)
      go_loopw [6, 12] (fun v i w3 => ∃ (T : Int) (A' : Option Addr) (n' c' : Nat), s ≤ T ∧ T ≤ 40 ∧ i = .int .i64 T ∧ v = .slice A' n' c' ∧ Wk W0 w3 e (wkC W s j T [] 0) A' n' c' (acL (wkL W j) s T)) (fun _ i _ => ((40 : Int) - intOf i).toNat)
      case atStart => exact ⟨s, A1, n1, c1, by omega, by omega, rfl, rfl, K0.out⟩
      case round =>
        obtain ⟨T, A3, n3, c3, hsT, hT, rfl, rfl, hk⟩ := hrel
        have HK := Lib.hid hk
        clear hk
        by_cases hlt2 : T < 40
        · have z1 : decide (T < 40) = true := decide_eq_true hlt2
          obtain ⟨K, hK⟩ : ∃ K, niL (upL (acL (wkL W j) s T) T) = K := ⟨_, rfl⟩
          have DA := Lib.hid (fun i hi => due_at (W := W) (s := s) (t := T) hn hsT i hi)
          have DF := Lib.hid (fun q i hq hi hk ht => wkC_fresh (W := W) (s := s) (t := T) hn (q := q) (i := i) hq hi hk ht)
          have DN := Lib.hid (wkC_next (W := W) (s := s) (t := T) hn hsT [])
          have DS := Lib.hid (fun q i hi hk ht => wkC_set (W := W) (s := s) (t := T) (n := j) (q := q) (i := i) K hi hk ht)
          rw [hK] at DA DF DN
          have HKK := Lib.hid hK
          clear hK
          go_upto_region 19 with (go_at_call 11; (with_reducible refine (tduew_at A3 n3 c3 (acL (wkL W j) s T) T (acL (wkL W j) s (T + 1)) K _ (ac_sn (wk_sn W j) s T) (ac_next _ hsT) HKK.out HK.out.ns).mono ?_); rintro e w4 ⟨A4, n4, c4, B4, m4, d4, rfl, hi, hk, hb, hbo, hf⟩; have HI := Lib.hid ((HK.out.due hi hk hb hbo hf).as (wkC_none W s j T [] K)); clear hi hk hb hbo hf)
          have EK := Lib.hid HI.out.ids.len
          have hm4 : m4 ≤ 8 := by have h1 := HI.out.ids.len; rw [← HKK.out] at h1; unfold niL at h1; rw [List.length_map] at h1; have h2 := up_le (acL (wkL W j) s T) T; have h3 := (ac_sn (wk_sn W j) s T).1; omega
          go_loopw [15] (fun i w5 => ∃ q : Nat, q ≤ m4 ∧ i = .int .i64 q ∧ Wi W0 w5 e (wkC W s j T K q) A4 n4 c4 (acL (wkL W j) s (T + 1)) B4 m4 d4 K) (fun i _ => ((m4 : Int) - intOf i).toNat)
          case atStart => exact ⟨0, by omega, rfl, HI.out⟩
          case round =>
            obtain ⟨q, hq, rfl, hi⟩ := hrel
            have HQ := Lib.hid hi
            clear hi
            by_cases hlt3 : q < m4
            · obtain ⟨k, hkn, hke, hkt⟩ := DA.out q (by rw [EK.out]; exact hlt3)
              have HKE := Lib.hid hke
              have HKT := Lib.hid hkt
              obtain ⟨ib, io, rfl, hbi, f0⟩ := HQ.out.ids.at_ q hlt3
              obtain ⟨xb, xo, rfl, hbx, f1⟩ := (H2.out.below HQ.out.k.below).at_ k hkn
              have f2 := HQ.out.k.ar.cell k (by rw [wkC_len]; omega)
              rw [DF.out k q hkn (by rw [EK.out]; exact hlt3) hke hkt] at f2
              have f3 := HQ.out.k.ar.f k
              rw [hke] at f0
              obtain ⟨y, hy⟩ : ∃ y, W.getD k 0 = y := ⟨_, rfl⟩
              obtain ⟨t, ht⟩ : ∃ t, wkT W k = t := ⟨_, rfl⟩
              have h31 : bits .and .i64 y 31 = t := (bits_and_low 5 (by decide) y).trans (by rw [← ht, ← hy]; rfl)
              rw [hy] at f1
              rw [ht] at hkt
              have z2 : (T != T) = false := by simp
              have z3 : decide ((k : Int) < 0) = false := decide_eq_false (by omega)
              have z4 : decide ((j : Int) ≤ (k : Int)) = false := decide_eq_false (by omega)
              have z5 : decide (j ≤ k) = false := decide_eq_false (by omega)
              have hk0 : (0 : Int) ≤ (k : Int) := by omega
              have hk8 : (k : Int) < 8 := by omega
              have hkj : (k : Int) < (j : Int) := by omega
              have HNX := Lib.hid ((HQ.out.set k 1).as (DS.out k q (by rw [EK.out]; exact hlt3) HKE.out HKT.out))
              clear hy ht hke HKE HKT
              go_wp2
              go_roundw
              case rel => exact ⟨q + 1, by omega, by go_num, HNX.out⟩
              case measure => simp [intOf]; omega
            · obtain rfl : q = m4 := by omega
              have HNX : Hid (Wk W0 wr e (wkC W s j (T + 1) [] 0) A4 n4 c4 (acL (wkL W j) s (T + 1))) := Lib.hid (HQ.out.k.as (by rw [← EK.out]; exact DN.out) rfl)
              go_wp2
              go_roundw
              case rel => exact ⟨T + 1, A4, n4, c4, by omega, by omega, by go_num, rfl, HNX.out⟩
              case measure => simp [intOf]; omega
        · obtain rfl : T = 40 := by omega
          have z1 : decide ((40 : Int) < 40) = false := by decide
          obtain rfl : n3 = 0 := by have h1 := HK.out.ns.len; rw [ac_end W hn hs15] at h1; simpa using h1.symm
          have CE := Lib.hid (fun q hq => wkC_end W (n := j) hs15 [] q hq hn)
          go_upto_region 27 with (fail)
          go_loop [17] (fun i => ∃ q : Nat, q ≤ j ∧ i = .int .i64 q) (fun i => ((j : Int) - intOf i).toNat)
          case atStart => exact ⟨0, by omega, rfl⟩
          case round =>
            obtain ⟨q, hq, rfl⟩ := hrel
            by_cases hlt4 : q < j
            · have f2 := HK.out.ar.cell q (by rw [wkC_len]; omega)
              rw [CE.out q hlt4] at f2
              have hq0 : (0 : Int) ≤ (q : Int) := by omega
              have hq8 : (q : Int) < 8 := by omega
              go_wp2
              go_round
              case rel => exact ⟨q + 1, by omega, by go_num⟩
              case measure => simp [intOf]; omega
            · obtain rfl : q = j := by omega
              go_wp2
              go_ret
              exact ⟨rfl, below_then HB2.out HK.out.below⟩
end Go.Proofs.Ytpkfmbknbdlnpaa
