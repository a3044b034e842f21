/-
  What Base answers, by package dict.
-/
import Derived.Test.YtkpomphjicoaeaaDictCode
namespace Go.Proofs.Ytkpomphjicoaeaa
open Go.RowKit

theorem opR_size (k : Nat) (h : k < 111) : (bsE k).s.size ≤ 31 := by
  have h2 : ∀ k : Fin 111, (opR ((k : Nat) : Int)).1.length ≤ 31 := by decide +kernel
  have := h2 ⟨k, h⟩
  unfold bsE
  simp only [size_mk]
  exact this
set_option maxHeartbeats 2000000 in
theorem base_any (w : World) :
    Calls Try.prog 28 #[] w (EnsPost 37 w (bsT 111).length (bsT 111)) := by
  go_enter Try.func28, Try.ntmps28
  go_wp2
  go_loopw [1, 3] (fun v i wr => ∃ (k : Nat) (A : Option Addr) (c : Nat), k ≤ 111 ∧ i = .int .i64 k ∧ v = .slice A (bsT k).length c ∧ OwnE 37 w wr A (bsT k).length c (bsT k)) (fun _ i _ => ((111 : Int) - intOf i).toNat)
  case atStart => exact ⟨0, none, 0, by omega, rfl, rfl, OwnE.nil _ _⟩
  case round =>
    obtain ⟨k, A, c, hk, rfl, rfl, hO⟩ := hrel
    have HO := Lib.hid hO
    clear hO
    by_cases hlt : k < 111
    · obtain ⟨B, hB⟩ : ∃ B : ByteArray, B = ⟨(opR (k : Int)).1.toArray⟩ := ⟨_, rfl⟩
      have HN := Lib.hid (name_is (k : Int) B hB)
      have hle := bsT_le k
      have HH := fun b h => Lib.hid (hidden_is (k : Int) b h)
      have hy := bsT_hid k
      have hn := bsT_new k
      have hE : bsE k = ⟨B, false, 0, (k : Int), 0, 0⟩ := by rw [hB]; rfl
      rw [hE] at hn
      obtain ⟨L, hL⟩ : ∃ L, bsT k = L := ⟨_, rfl⟩
      rw [hL] at hle hy hn HO ⊢
      obtain ⟨z, hz⟩ : ∃ z, L.length = z := ⟨_, rfl⟩
      have HZ := Lib.hid hz
      rw [hz] at hle HO ⊢
      cases hh : opH (opR (k : Int)).1
      · have H1 := HH false (by rw [hh])
        have HX := Lib.hid (hn hh)
        clear HH hy hn hh hE hB hL hz
        go_wp2_with (first
          | (go_at_call 30; refine (H1.out _).mono ?_; rintro e w1 ⟨rfl, hb1⟩; have HO1 := Lib.hid (HO.out.grow hb1); clear hb1)
          | (go_at_call 29; refine (HN.out _).mono ?_; rintro e w2 ⟨rfl, hb2⟩; have HO2 := Lib.hid ((HO1.out.grow hb2).grow (below_one _ (.cells #[.string B, .bool false, .int .i64 0, .int .i64 (k : Int), .int .i64 0, .int .i64 0] 37))); clear hb2)
          | (at_builtin; refine wpList_appE etD (W := w) rfl (.tmp 9) (.tmp 14) rfl rfl rfl HO2.out (Ens.new1 _ _ ⟨B, false, 0, (k : Int), 0, 0⟩) (by omega) ?_; intro A3 c3 w3 hw3; have HW := Lib.hid hw3; clear hw3))
        go_roundw
        case rel => exact ⟨k + 1, A3, c3, by omega, by go_num, by rw [HX.out, List.length_append, HZ.out]; rfl, by rw [HX.out, List.length_append, HZ.out]; exact HW.out⟩
        case measure => simp [intOf]; omega
      · have H1 := HH true (by rw [hh])
        have HX := Lib.hid (hy hh)
        clear HH hy hn hh hE hB hL hz
        go_wp2_with (first
          | (go_at_call 30; refine (H1.out _).mono ?_; rintro e w1 ⟨rfl, hb1⟩; have HO1 := Lib.hid (HO.out.grow hb1); clear hb1))
        go_roundw
        case rel => exact ⟨k + 1, A, c, by omega, by go_num, by rw [HX.out, HZ.out], by rw [HX.out, HZ.out]; exact HO1.out⟩
        case measure => simp [intOf]; omega
    · obtain rfl : k = 111 := by omega
      obtain ⟨z, hz⟩ : ∃ z, (bsT 111).length = z := ⟨_, rfl⟩
      rw [hz] at HO ⊢
      go_wp2
      go_ret
      exact ⟨A, c, by rw [hz]; rfl, by rw [hz]; exact HO.out⟩
end Go.Proofs.Ytkpomphjicoaeaa
