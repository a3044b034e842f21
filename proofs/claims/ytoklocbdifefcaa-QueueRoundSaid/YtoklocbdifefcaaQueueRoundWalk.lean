/-
  QueueRound answers true, whatever the numbers are.
-/
import Derived.Test.YtoklocbdifefcaaQueueHold
import Derived.Test.YtoklocbdifefcaaQueueRing
import Derived.Test.YtoklocbdifefcaaCellMath
namespace Go.Proofs.Ytoklocbdifefcaa
open Go.RowKit

set_option maxHeartbeats 2000000 in
theorem round_any (n prio rounds : Int) (w : World) :
    Calls Try.prog 6 #[.int .i64 n, .int .i64 prio, .int .i64 rounds] w fun e w' => e = .returned (.bool true) ∧ Below w.heap.size w w' := by
  obtain ⟨a, ha⟩ : ∃ a : Nat, n % 8 = (a : Int) := ⟨(n % 8).toNat, by omega⟩
  obtain ⟨k, hk⟩ : ∃ k : Nat, k = a + 1 := ⟨_, rfl⟩
  obtain ⟨P, hP⟩ : ∃ P : Int, prio % 4 = P := ⟨_, rfl⟩
  obtain ⟨r, hr⟩ : ∃ r : Nat, rounds % 8 = (r : Int) := ⟨(rounds % 8).toNat, by omega⟩
  obtain ⟨R, hR⟩ : ∃ R : Nat, R = r * k := ⟨_, rfl⟩
  have h7 : bits .and .i64 n 7 = (a : Int) := (and7 n).trans ha
  have h3 : bits .and .i64 prio 3 = P := (bits_and_low 2 (by decide) prio).trans hP
  have h7r : bits .and .i64 rounds 7 = (r : Int) := (and7 rounds).trans hr
  have hkw : IntKind.i64.wrap (1 + (a : Int)) = (k : Int) := by rw [IntKind.wrap_i64]; omega
  have hk0 : 0 < k := by omega
  have hk8 : k ≤ 8 := by omega
  have hp : 0 ≤ P ∧ P ≤ 4 := by omega
  have hr7 : r ≤ 7 := by omega
  have hRb : R ≤ 56 := by rw [hR]; exact Nat.mul_le_mul hr7 hk8
  have hRi : (r : Int) * (k : Int) = (R : Int) := by rw [hR]; simp
  have hRw : IntKind.i64.wrap ((r : Int) * (k : Int)) = (R : Int) := by rw [hRi, IntKind.wrap_i64]; omega
  have HP := Lib.hid hp
  clear ha hP hr hk hR hp
  go_enter Try.func6, Try.ntmps6
  go_upto_region 5 with (go_at_call 8; (with_reducible refine (awake_any _).mono ?_); rintro e w1 ⟨rfl, hb⟩; have HB := Lib.hid hb; clear hb)
  have Q0 := Lib.hid (QS.new w1)
  generalize hw : w1.alloc (.cells #[.int .i64 0, .slice none 0 0] 28) = W at *
  clear hw
  go_upto_region 6 with (fail)
  go_loopw [11] (fun i wr => ∃ (j : Nat) (A : Option Addr) (n c : Nat), j ≤ k ∧ i = .int .i64 j ∧ QS w1 wr w1.heap.size (j : Int) (rL k P 0 j) A n c) (fun i _ => ((k : Int) - intOf i).toNat)
  case atStart => exact ⟨0, none, 0, 0, by omega, rfl, Q0.out⟩
  case round =>
    obtain ⟨j, A, n, c, hj, rfl, hq⟩ := hrel
    have HQ := Lib.hid hq
    have qa := hq.q.c0; have qb := hq.q.c1; have qfa := hq.q.f 0; have qfb := hq.q.f 1; have ql := hq.q.lt
    clear hq
    by_cases hlt : j < k
    · have HF := Lib.hid (rL_first hk0 hk8 HP.out j hlt)
      go_wp2_with (go_at_call 9; (with_reducible refine (put_at (j : Int) A n c (rL k P 0 j) (j : Int) P ((j + 1 : Nat) : Int) (rL k P 0 (j + 1)) true _ HF.out.1 HF.out.2.1 HF.out.2.2.1 HF.out.2.2.2 HQ.out.its).mono ?_); rintro e w2 ⟨A2, n2, c2, rfl, hi, hb, hbo⟩; have HQ2 := Lib.hid ((HQ.out.set (N' := ((j + 1 : Nat) : Int)) hb hi (HQ.out.born hbo)).alloc (.cells #[.int .i64 ((j + 1 : Nat) : Int), .slice A2 n2 c2] 28)); have X := HQ.out.q.keep hb; clear qa qb qfa qfb ql; have qa := X.c0; have qb := X.c1; have qfa := X.f 0; have qfb := X.f 1; have ql := X.lt; clear X hb hi hbo)
      go_roundw
      case rel => exact ⟨j + 1, A2, n2, c2, by omega, by go_num, HQ2.out⟩
      case measure => simp [intOf]; omega
    · obtain rfl : j = k := by omega
      go_upto_region 13 with (fail)
      have HQ0 : Hid (QS w1 wr w1.heap.size ((0 + j : Nat) : Int) (rL j P 0 j) A n c) := Lib.hid (by rw [Nat.zero_add]; exact HQ.out)
      clear qa qb qfa qfb ql HQ
      go_loopw [14] (fun i wr => ∃ (q : Nat) (M : Int) (A : Option Addr) (n c : Nat), q ≤ R ∧ i = .int .i64 q ∧ M = (q : Int) + (j : Int) ∧ QS w1 wr w1.heap.size M (rL j P q j) A n c) (fun i _ => ((R : Int) - intOf i).toNat)
      case atStart => exact ⟨0, _, A, n, c, by omega, rfl, by simp, HQ0.out⟩
      case round =>
        obtain ⟨q, M, A1, n1, c1, hj1, rfl, hM, hq⟩ := hrel
        have HM := Lib.hid hM
        clear hM
        have HQ := Lib.hid hq
        have qa := hq.q.c0; have qb := hq.q.c1; have qfa := hq.q.f 0; have qfb := hq.q.f 1; have ql := hq.q.lt
        clear hq
        by_cases hlt2 : q < R
        · have HF := Lib.hid (rL_turn hk0 hk8 HP.out q (by omega))
          obtain ⟨D, hD⟩ : ∃ D : Int, ((q % j : Nat) : Int) = D := ⟨_, rfl⟩
          obtain ⟨M2, hM2⟩ : ∃ M2 : Int, ((q + 1 + j : Nat) : Int) = M2 := ⟨_, rfl⟩
          rw [hD, hM2, show ((q + j : Nat) : Int) = M by rw [HM.out]; simp] at HF
          have HM2 : Hid (M2 = ((q + 1 : Nat) : Int) + (j : Int)) := Lib.hid (by rw [← hM2]; simp)
          have hrem : (q : Int) % (j : Int) = D := by rw [← hD]; simp
          have hj0 : (0 : Int) < (j : Int) := by omega
          have hDD : (D != D) = false := by simp
          clear hD hM2
          go_wp2_with (first
            | (go_at_call 14; (with_reducible refine (take_at M A1 n1 c1 (rL j P q j) (rL j P (q + 1) (j - 1)) D true _ HF.out.1 HF.out.2.1 HF.out.2.2.1 HF.out.2.2.2.1 HQ.out.its).mono ?_); rintro e w2 ⟨A2, n2, c2, rfl, hi, hb, hbo⟩; have HQ2 := Lib.hid ((HQ.out.keep hb).alloc (.cells #[.int .i64 M, .slice A2 n2 c2] 28)); have HI2 := Lib.hid (hi.alloc (.cells #[.int .i64 M, .slice A2 n2 c2] 28)); have AP2 := Lib.hid (HQ.out.born hbo); clear hb hi hbo)
            | (go_at_call 9; (with_reducible refine (put_at M A2 n2 c2 (rL j P (q + 1) (j - 1)) D P M2 (rL j P (q + 1) j) true _ HF.out.2.2.2.2.1 HF.out.2.2.2.2.2.1 HF.out.2.2.2.2.2.2.1 HF.out.2.2.2.2.2.2.2 HI2.out).mono ?_); rintro e w3 ⟨A3, n3, c3, rfl, hi, hb, hbo⟩; have HQ3 := Lib.hid ((HQ2.out.set (N' := M2) hb hi (hbo _ HQ2.out.q.lt AP2.out)).alloc (.cells #[.int .i64 M2, .slice A3 n3 c3] 28)); have X := HQ2.out.q.keep hb; clear qa qb qfa qfb ql; have qa := X.c0; have qb := X.c1; have qfa := X.f 0; have qfb := X.f 1; have ql := X.lt; clear X hb hi hbo))
          go_roundw
          case rel => exact ⟨q + 1, M2, A3, n3, c3, by omega, by go_num, HM2.out, HQ3.out⟩
          case measure => simp [intOf]; omega
        · obtain rfl : q = R := by omega
          have hF := rL_sane hk0 hk8 HP.out q j (by omega) (Nat.le_refl _)
          rw [show ((q + j : Nat) : Int) = M by rw [HM.out]; simp] at hF
          have HF := Lib.hid hF
          clear hF
          go_wp2_with (go_at_call 21; (with_reducible refine (ids_at M A1 n1 c1 (rL j P q j) _ _ HF.out rfl HQ.out.its).mono ?_); rintro e w4 ⟨A4, n4, c4, rfl, hk4, hb⟩; have HE := Lib.hid (below_then (below_then HB.out HQ.out.below) hb); obtain rfl : j = n4 := (by have h := hk4.len; unfold idL at h; rw [List.length_map, rL_length] at h; exact h); have hjj : ((j : Int) == (j : Int)) = true := (by simp); clear hb hk4)
          go_ret
          exact ⟨rfl, HE.out⟩
end Go.Proofs.Ytoklocbdifefcaa
