/-
  What the document calls Cmp and UMul of layer 2: doubles compared with their signs, the product without signs. Of what was there nothing changes.
-/
import Derived.Test.YtnlkggfgloblcaaGreatRef02Small
import Derived.Test.YtnlkggfgloblcaaGreatDblLaws
import Derived.Test.YtnlkggfgloblcaaGreatDblKeep
namespace Go.Proofs.YtnlkggfgloblcaaGreat
open Go.RowKit
/-- The product of a with the m highest digits of b, both without signs. -/
def uPart (a b : Int) (m : Nat) : Int := (a % 18446744073709551616) * (b % 18446744073709551616 / 2 ^ (64 - m))
theorem uPart_0 (a b : Int) : uPart a b 0 = 0 := by
  unfold uPart
  rw [show (2 : Int) ^ (64 - 0) = 18446744073709551616 by decide, Int.ediv_eq_zero_of_lt (by omega) (by omega), Int.mul_zero]
theorem uPart_64 (a b : Int) : uPart a b 64 = uProd a b := by unfold uPart uProd; simp
theorem uPart_step (a b : Int) (m : Nat) (hm : m < 64) :
    (bitZ b (63 - (m : Int)) = 1 → uPart a b (m + 1) = uPart a b m + uPart a b m + a % 18446744073709551616) ∧ (bitZ b (63 - (m : Int)) ≠ 1 → uPart a b (m + 1) = uPart a b m + uPart a b m) := by
  rw [show (63 : Int) - (m : Int) = ((63 - m : Nat) : Int) by omega, bitZ_in (by omega) (by omega), Int.toNat_natCast]
  unfold uPart
  rw [show 64 - (m + 1) = 63 - m by omega, show 64 - m = 63 - m + 1 by omega, Int.pow_succ, half_eq (pow_pos' _)]
  generalize b % 18446744073709551616 / 2 ^ (63 - m) = q
  generalize a % 18446744073709551616 = p
  have e : q = 2 * (q / 2) + q % 2 := by omega
  constructor
  · intro h
    rw [h] at e
    have : p * q = p * (2 * (q / 2) + 1) := by rw [← e]
    rw [this]; grind
  · intro h
    have h0 : q % 2 = 0 := by omega
    rw [h0] at e
    have : p * q = p * (2 * (q / 2) + 0) := by rw [← e]
    rw [this]; grind
set_option maxHeartbeats 2000000 in
set_option maxRecDepth 100000 in
theorem rumul_any (a b : Int) (ha : InC a) (w : World) :
    Calls Tryz.prog 122 #[.int .i64 a, .int .i64 b] w fun e w' => e = .returned (.agg #[.int .i64 (dLo (uProd a b)), .int .i64 (dHi (uProd a b))]) ∧ Keeps w w' := by
  go_enter Tryz.func122, Tryz.ntmps122
  go_wp2
  go_loopw [6] (fun i wr => ∃ m : Nat, m ≤ 64 ∧ i = .int .i64 (63 - (m : Int)) ∧ Box wr w.heap.size 0 0 ∧ Box wr (w.heap.size + 1) (dLo (uPart a b m)) (dHi (uPart a b m)) ∧ Keeps w wr) (fun i _ => (intOf i + 1).toNat)
  case atStart => exact ⟨0, by omega, rfl, (Box.new w 0 0 _).alloc _, by rw [uPart_0, dLo0, dHi0]; exact Box.new1 w _ 0 0 _, ((Keeps.refl w).alloc _).alloc _⟩
  case round =>
    obtain ⟨m, hm, rfl, HR, HO, HK⟩ := hrel
    by_cases h64 : m = 64
    · subst h64
      obtain ⟨b0, b1, b2, b3, b4⟩ := HO
      obtain ⟨r0, r1, r2, r3, r4⟩ := HR
      have H := Lib.hid (uPart_64 a b)
      go_wp2
      refine bodyPost_ret (v := .agg #[.int .i64 (dLo (uPart a b 64)), .int .i64 (dHi (uPart a b 64))]) (by simp [results, Tryz.results122, go_sem, r1, r2]) rfl ⟨by rw [H.out], ?_⟩
      exact (HK.setCell (Nat.le_refl _) _).setCell (Nat.le_refl _) _
    · have hlt : m < 64 := by omega
      have hst := uPart_step a b m hlt
      obtain ⟨b0, b1, b2, b3, b4⟩ := HO
      by_cases hb : bitZ b (63 - (m : Int)) = 1
      · have HS := Lib.hid (hst.1 hb)
        have hb' : (bitZ b (63 - (m : Int)) == 1) = true := by simpa using hb
        clear hst hb
        go_wp2_with fail
        refine (twice_any _ _).mono ?_
        rintro e w1 ⟨rfl, hw1⟩
        have HO1 := (Box.mk b0 b1 b2 b3 b4).keeps hw1
        have HR1 := HR.keeps hw1
        obtain ⟨c0, c1, c2, c3, c4⟩ := HO1
        go_wp2_with (go_at_call 144; refine (bit_any _ _ _).mono ?_; rintro e w' ⟨rfl, rfl⟩)
        refine (radd_un _ _ ha _).mono ?_
        rintro e w3 ⟨rfl, hw3⟩
        have HO3 := ((Box.mk c0 c1 c2 c3 c4).set _ _).keeps hw3
        have HR3 := ((HR1.other (by omega) _).other (by omega) _).keeps hw3
        have HK3 := (((HK.trans hw1).setCell (by simp) _).setCell (by simp) _).trans hw3
        obtain ⟨d0, d1, d2, d3, d4⟩ := HO3
        clear HR HR1 HK hw1 hw3 b0 b1 b2 b3 b4 c0 c1 c2 c3 c4
        go_wp2
        go_roundw
        case rel =>
          refine ⟨m + 1, by omega, by go_num, (HR3.other (by omega) _).other (by omega) _, ?_, (HK3.setCell (by simp) _).setCell (by simp) _⟩
          rw [HS.out]
          exact (Box.mk d0 d1 d2 d3 d4).set _ _
        case measure => simp [intOf]; omega
      · have HS := Lib.hid (hst.2 hb)
        have hb' : (bitZ b (63 - (m : Int)) == 1) = false := by simpa using hb
        clear hst hb
        go_wp2_with fail
        refine (twice_any _ _).mono ?_
        rintro e w1 ⟨rfl, hw1⟩
        have HO1 := (Box.mk b0 b1 b2 b3 b4).keeps hw1
        have HR1 := HR.keeps hw1
        have HK1 := HK.trans hw1
        obtain ⟨c0, c1, c2, c3, c4⟩ := HO1
        clear HR HK hw1 b0 b1 b2 b3 b4
        go_wp2_with (go_at_call 144; refine (bit_any _ _ _).mono ?_; rintro e w' ⟨rfl, rfl⟩)
        go_roundw
        case rel =>
          refine ⟨m + 1, by omega, by go_num, (HR1.other (by omega) _).other (by omega) _, ?_, (HK1.setCell (by simp) _).setCell (by simp) _⟩
          rw [HS.out]
          exact (Box.mk c0 c1 c2 c3 c4).set _ _
        case measure => simp [intOf]; omega
end Go.Proofs.YtnlkggfgloblcaaGreat
