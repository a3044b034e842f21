/-
  The call of the statement ScanLines answers true at every text; of what was there nothing has changed.
-/
import Derived.Test.YtdffejpbcoagfaaScanAwake
namespace Go.Proofs.Ytdffejpbcoagfaa
open Go.RowKit

theorem add_mk (a b : List UInt8) : (⟨a.toArray⟩ : ByteArray) ++ ⟨b.toArray⟩ = ⟨(a ++ b).toArray⟩ := by
  apply ByteArray.ext
  simp
set_option maxHeartbeats 1000000 in
theorem scanLines_big (S : ByteArray) (h : (1000 : Int) < (S.size : Int)) (W : World) (hM : MaxL W) :
    Calls Try.prog 6 #[.string S] W fun e w' => e = .returned (.bool true) ∧ Below W.heap.size W w' := by
  have HM := Lib.hid hM
  clear hM
  go_enter Try.func6, Try.ntmps6
  go_wp2_with (go_at_call 9; refine (awake_any _ HM.out).mono ?_; rintro e w1 ⟨rfl, hb1⟩)
  go_ret
  exact ⟨rfl, hb1⟩
/-- The first k lines put together are no longer than all of them. -/
theorem scJ_take_le (L : List (List UInt8)) : ∀ k, (scJ (L.take k)).length ≤ (scJ L).length := by
  induction L with
  | nil => intro k; simp
  | cons x L ih =>
    intro k
    cases k with
    | zero => simp [scJ]
    | succ k =>
      rw [List.take_succ_cons]
      cases L with
      | nil => simp
      | cons y L =>
        cases k with
        | zero => rw [List.take_zero, scJ_cons x (y :: L) (by simp)]; simp [scJ]
        | succ k =>
          rw [scJ_cons x _ (by simp), scJ_cons x _ (by simp)]
          have := ih (k + 1)
          simp at this ⊢
          omega
set_option maxRecDepth 100000 in
set_option maxHeartbeats 1000000 in
theorem scanLines_small (l : List UInt8) (S U : ByteArray) (W : World) (hM : MaxL W) (hS : S = ⟨l.toArray⟩) (hl : l.length ≤ 1000) (hU : U = ⟨(l.map scU).toArray⟩) :
    Calls Try.prog 6 #[.string S] W fun e w' => e = .returned (.bool true) ∧ Below W.heap.size W w' := by
  have hz : S.size = l.length := by rw [hS, size_mk]
  have hUz : U.size = S.size := by rw [hU, size_mk, hz]; simp
  have hd : decide ((1000 : Int) < (S.size : Int)) = false := decide_eq_false (by omega)
  have HM := Lib.hid hM
  have HS := Lib.hid hS
  have HLn := Lib.hid (lines_any l (by omega) S hS)
  have HU1 := Lib.hid (upper_is l S U hS (by omega) hU)
  have HU2 := Lib.hid (upper_is (l.map scU) U U hU (by simp; omega) (by rw [hU, List.map_map]; congr 2; apply List.map_congr_left; intro c _; exact (scU_twice c).symm))
  obtain ⟨L, hL⟩ : ∃ L, scL l = L := ⟨_, rfl⟩
  have hne := scL_ne l
  have hno := scL_none l
  have hJ := scJ_lines l
  have hlen := scL_length l
  rw [hL] at HLn hne hno hJ hlen
  have HJ := Lib.hid hJ
  have HE := Lib.hid hne
  have HO := Lib.hid hno
  have hL0 : (0 : Int) < (L.length : Int) := by have := List.length_pos_iff.2 hne; omega
  clear hM hS hz hU hne hno hJ hL
  go_enter Try.func6, Try.ntmps6
  go_wp2_with (first
    | (go_at_call 9; refine (awake_any _ HM.out).mono ?_; rintro e w1 ⟨rfl, hb1⟩; have H1 := Lib.hid hb1; clear hb1)
    | (go_at_call 22; refine (HLn.out _ (HM.out.keep H1.out)).mono ?_; rintro e w2 ⟨A, c, rfl, ht, hb2⟩; have HT := Lib.hid ht; have H2 := Lib.hid (below_then H1.out hb2); clear ht hb2))
  obtain ⟨b, o, rfl, _, hcell⟩ := HT.out.2 (by omega)
  have HC := Lib.hid hcell
  clear hcell HT
  go_loop [5, 6, 7] (fun t i _ => ∃ (k : Nat) (Q : ByteArray), t = .string Q ∧ i = .int .i64 k ∧ k ≤ L.length ∧ Q = ⟨(scJ (L.take k)).toArray⟩) (fun _ i _ => L.length - (intOf i).toNat)
  case atStart => exact ⟨0, _, rfl, rfl, Nat.zero_le _, rfl⟩
  case round =>
    obtain ⟨k, Q, rfl, rfl, hk, hQ⟩ := hrel
    have HQ := Lib.hid hQ
    clear hQ
    by_cases hp : k < L.length
    · obtain ⟨x, hx⟩ : ∃ x, L[k] = x := ⟨_, rfl⟩
      have hc := HC.out k hp
      rw [hx] at hc
      have HN := Lib.hid (HO.out x (by rw [← hx]; exact List.getElem_mem hp))
      obtain ⟨X, hX⟩ : ∃ X : ByteArray, X = ⟨x.toArray⟩ := ⟨_, rfl⟩
      rw [← hX] at hc
      have hXz : X.size = x.length := by rw [hX, size_mk]
      have HXZ := Lib.hid hXz
      have HX := Lib.hid hX
      have hbnd : x.length ≤ 1000 ∧ (scJ (L.take k)).length ≤ 1000 := by
        have h1 := scJ_take_le L (k + 1)
        rw [List.take_succ_eq_append_getElem hp, hx, HJ.out] at h1
        have h2 := scJ_take_le L k
        rw [HJ.out] at h2
        refine ⟨?_, by omega⟩
        cases hk0 : L.take k with
        | nil => rw [hk0] at h1; simp [scJ] at h1; omega
        | cons y t => rw [hk0, scJ_snoc _ _ (by simp)] at h1; simp at h1; omega
      have hxs : (X.size : Int) ≤ 1000 := by rw [hXz]; omega
      clear hXz hX
      go_wp2
      go_loop [7] (fun t => ∃ m : Nat, t = .int .i64 m ∧ m ≤ X.size) (fun t => X.size - (intOf t).toNat)
      case atStart => exact ⟨0, rfl, Nat.zero_le _⟩
      case round =>
        obtain ⟨m, rfl, hm⟩ := hrel
        by_cases hpm : m < X.size
        · have hml : m < x.length := by rw [← HXZ.out]; exact hpm
          obtain ⟨d, hd2⟩ : ∃ d, x[m] = d := ⟨_, rfl⟩
          have hXm : X[m]'hpm = d := by rw [← hd2]; have := HX.out; subst this; rfl
          have hd10 : ((d.toNat : Int) == 10) = false := by
            have h := HN.out d (by rw [← hd2]; exact List.getElem_mem hml)
            simp
            intro h'
            exact h (UInt8.toNat_inj.1 (by show d.toNat = 10; omega))
          clear hd2
          go_wp2
          go_round
          case rel => exact ⟨m + 1, by go_num, by omega⟩
          case measure => simp [intOf]; omega
        · have HT1 : Hid (L.take (k + 1) = L.take k ++ [x]) := Lib.hid (by rw [List.take_succ_eq_append_getElem hp, hx])
          have hQz : Q.size = (scJ (L.take k)).length := by rw [HQ.out, size_mk]
          have s1 : ¬ 9223372036854775807 < Q.size + (⟨#[10]⟩ : ByteArray).size := by rw [show (⟨#[10]⟩ : ByteArray).size = 1 from rfl]; omega
          have s2 : ¬ 9223372036854775807 < (Q ++ (⟨#[10]⟩ : ByteArray)).size + X.size := by rw [ByteArray.size_append, show (⟨#[10]⟩ : ByteArray).size = 1 from rfl]; omega
          have s3 : ¬ 9223372036854775807 < Q.size + X.size := by omega
          clear hQz hx
          rcases Nat.eq_zero_or_pos k with hk0 | hk0
          · have HF : Hid (Q ++ X = ⟨(scJ (L.take (k + 1))).toArray⟩) := Lib.hid (by rw [HT1.out, HQ.out, HX.out, hk0, add_mk]; simp [scJ])
            have hkf : decide (0 < k) = false := decide_eq_false (by omega)
            have hkg : k ≤ 0 := by omega
            have HK0 := Lib.hid hk0
            clear hk0 s1 s2
            go_wp2
            go_round
            case rel => exact ⟨k + 1, _, rfl, by go_num, by omega, HF.out⟩
            case measure => simp [intOf]; omega
          · have HF : Hid (Q ++ (⟨#[10]⟩ : ByteArray) ++ X = ⟨(scJ (L.take (k + 1))).toArray⟩) := Lib.hid (by
              rw [HT1.out, HQ.out, HX.out, scJ_snoc _ _ (by intro h; have := congrArg List.length h; rw [List.length_take, List.length_nil] at this; omega)]
              have : (⟨#[10]⟩ : ByteArray) = ⟨[10].toArray⟩ := rfl
              rw [this, add_mk, add_mk])
            have hkt : (0 : Int) < (k : Int) := by omega
            go_wp2
            go_round
            case rel => exact ⟨k + 1, _, rfl, by go_num, by omega, HF.out⟩
            case measure => simp [intOf]; omega
    · obtain rfl : Q = S := by rw [HQ.out, HS.out, List.take_of_length_le (by omega), HJ.out]
      go_wp2_with (first
        | (go_at_call 19; have hh := hb3; refine (HU2.out _).mono ?_; rintro e w4 ⟨rfl, hb4⟩; have H4 := Lib.hid (below_then H3.out hb4); clear hb4)
        | (go_at_call 19; refine (HU1.out _).mono ?_; rintro e w3 ⟨rfl, hb3⟩; have H3 := Lib.hid (below_then H2.out hb3)))
      go_ret
      exact ⟨rfl, H4.out⟩
theorem scanLines_walk (l : List UInt8) (W : World) (hM : MaxL W) :
    Calls Try.prog 6 #[.string ⟨l.toArray⟩] W fun e w' => e = .returned (.bool true) ∧ Below W.heap.size W w' := by
  by_cases hl : 1000 < l.length
  · exact scanLines_big _ (by rw [size_mk]; omega) W hM
  · exact scanLines_small l _ _ W hM rfl (by omega) rfl
end Go.Proofs.Ytdffejpbcoagfaa
