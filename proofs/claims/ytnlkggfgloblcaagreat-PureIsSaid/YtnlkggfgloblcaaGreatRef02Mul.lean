/-
  What the document calls Mul of layer 2: the product with signs. Of what was there nothing changes.
-/
import Derived.Test.YtnlkggfgloblcaaGreatRef02UMul
import Derived.Deep.RegionWith
namespace Go.Proofs.YtnlkggfgloblcaaGreat
open Go.RowKit
/-- The product of a with the k lowest digits of b; with all of them, b has its sign. -/
def mPart (a b : Int) (k : Nat) : Int := a * (if k = 64 then b else b % 2 ^ k)
theorem mPart_0 (a b : Int) : mPart a b 0 = 0 := by unfold mPart; simp [Int.emod_one]
theorem mPart_64 (a b : Int) : mPart a b 64 = a * b := by unfold mPart; simp
theorem bitZ_dig (b : Int) (k : Nat) (hk : k ≤ 63) : bitZ b k = b / 2 ^ k % 2 := by
  rw [bitZ_in (by omega) (by omega), Int.toNat_natCast]
  obtain ⟨c, hc⟩ := pow_dvd (k := k + 1) (by omega)
  rw [hc, Int.pow_succ, Int.mul_assoc]
  exact dig_mod b _ c (pow_pos' k)
theorem mPart_step (a b : Int) (k : Nat) (hk : k < 63) : (bitZ b k = 1 → mPart a b (k + 1) = mPart a b k + a * 2 ^ k) ∧ (bitZ b k ≠ 1 → mPart a b (k + 1) = mPart a b k) := by
  rw [bitZ_dig b k (by omega)]
  unfold mPart
  rw [if_neg (by omega), if_neg (by omega), Int.pow_succ, mod_twice b _ (pow_pos' k)]
  have h01 : b / 2 ^ k % 2 = 0 ∨ b / 2 ^ k % 2 = 1 := by omega
  constructor
  · intro h
    rw [h, Int.mul_add, Int.one_mul, Int.add_comm]
  · intro h
    have h0 : b / 2 ^ k % 2 = 0 := by omega
    rw [h0, Int.zero_mul, Int.zero_add]
theorem mPart_last (a b : Int) (hb : InC b) : (bitZ b 63 = 1 → mPart a b 64 = mPart a b 63 + -(a * 2 ^ 63)) ∧ (bitZ b 63 ≠ 1 → mPart a b 64 = mPart a b 63) := by
  have e := bitZ_dig b 63 (by omega)
  rw [show ((63 : Nat) : Int) = 63 from rfl] at e
  rw [e]
  unfold mPart
  rw [if_pos rfl, if_neg (by decide), show (2 : Int) ^ 63 = 9223372036854775808 by decide]
  unfold InC at hb
  constructor
  · intro h
    have : b = b % 9223372036854775808 + -9223372036854775808 := by omega
    conv => lhs; rw [this]
    rw [Int.mul_add, Int.mul_neg]
  · intro h
    have : b = b % 9223372036854775808 := by omega
    conv => lhs; rw [this]
theorem pow_twice (a : Int) (k : Nat) : a * 2 ^ (k + 1) = a * 2 ^ k + a * 2 ^ k := by rw [Int.pow_succ]; grind
/-- What holds at each round: the result's variable, the sum so far, the multiple of a. -/
def MulRel (a b : Int) (w w1 : World) (k : Nat) (wr : World) : Prop :=
  Box wr w.heap.size 0 0 ∧ Box wr (w.heap.size + 1) (dLo (mPart a b k)) (dHi (mPart a b k)) ∧ Box wr w1.heap.size (dLo (a * 2 ^ k)) (dHi (a * 2 ^ k)) ∧ Keeps w wr
set_option maxHeartbeats 2000000 in
set_option maxRecDepth 100000 in
theorem rmul_any (a b : Int) (ha : InC a) (hb : InC b) (w : World) :
    Calls Tryz.prog 123 #[.int .i64 a, .int .i64 b] w fun e w' => e = .returned (.agg #[.int .i64 (dLo (a * b)), .int .i64 (dHi (a * b))]) ∧ Keeps w w' := by
  go_enter Tryz.func123, Tryz.ntmps123
  go_wp2_with (go_at_call 127; refine (rof_any _ ha _).mono ?_; rintro e w1 ⟨rfl, hw1⟩)
  have hsz : w.heap.size + 1 < w1.heap.size := by have := hw1.size; simp at this; omega
  go_loopw [7] (fun i wr => ∃ k : Nat, k ≤ 64 ∧ i = .int .i64 k ∧ MulRel a b w w1 k wr) (fun i _ => (64 - intOf i).toNat)
  case atStart =>
    refine ⟨0, by omega, rfl, (((Box.new w 0 0 _).alloc _).keeps hw1).alloc _, ?_, ?_, ((((Keeps.refl w).alloc _).alloc _).trans hw1).alloc _⟩
    · rw [mPart_0, dLo0, dHi0]; exact ((Box.new1 w _ 0 0 _).keeps hw1).alloc _
    · rw [show a * 2 ^ 0 = a by simp]; exact Box.new w1 _ _ _
  case round =>
    clear hw1
    obtain ⟨k, hk, rfl, HR, HO, HX, HK⟩ := hrel
    by_cases h64 : k = 64
    · subst h64
      obtain ⟨b0, b1, b2, b3, b4⟩ := HO
      obtain ⟨r0, r1, r2, r3, r4⟩ := HR
      have H := Lib.hid (mPart_64 a b)
      go_wp2
      refine bodyPost_ret (v := .agg #[.int .i64 (dLo (mPart a b 64)), .int .i64 (dHi (mPart a b 64))]) (by simp [results, Tryz.results123, go_sem, r1, r2]) rfl ⟨by rw [H.out], ?_⟩
      exact (HK.setCell (by simp) _).setCell (by simp) _
    · have hlt : (k : Int) < 64 := by omega
      have HP := Lib.hid (pow_twice a k)
      by_cases hbit : bitZ b k = 1
      · have hb' : (bitZ b k == 1) = true := by simpa using hbit
        by_cases h63 : k = 63
        · have hk63 : decide ((k : Int) < 63) = false := by simp; omega
          have hk63' : ((k : Int) == 63) = true := by simp; omega
          have HS : Hid (mPart a b (k + 1) = mPart a b k + -(a * 2 ^ k)) := by
            show _ = _
            subst h63
            exact (mPart_last a b hb).1 hbit
          clear hbit h63
          obtain ⟨b0, b1, b2, b3, b4⟩ := HO
          obtain ⟨x0, x1, x2, x3, x4⟩ := HX
          have HOH := Lib.hid (Box.mk b0 b1 b2 b3 b4)
          have HXH := Lib.hid (Box.mk x0 x1 x2 x3 x4)
          go_wp2_with (go_at_call 144; refine (bit_any _ _ _).mono ?_; rintro e w' ⟨rfl, rfl⟩)
          go_region_with (first
            | (go_at_call 129; refine (rneg_any _ _).mono ?_; rintro e w3 ⟨rfl, hw3⟩; obtain ⟨c0, c1, c2, c3, c4⟩ := HOH.out.keeps ((Keeps.refl wr).drew.trans hw3))
            | (go_at_call 128; refine (radd_any _ _ _).mono ?_; rintro e w4 ⟨rfl, hw4⟩; obtain ⟨d0, d1, d2, d3, d4⟩ := (Box.mk c0 c1 c2 c3 c4).keeps hw4; obtain ⟨y0, y1, y2, y3, y4⟩ := HXH.out.keeps (((Keeps.refl wr).drew.trans hw3).trans hw4)))
          all_goals
            have HK4 := (HK.drew.trans hw3).trans hw4
            have HR4 := HR.keeps (((Keeps.refl wr).drew.trans hw3).trans hw4)
            clear HR HK hw3 hw4 b0 b1 b2 b3 b4 x0 x1 x2 x3 x4 c0 c1 c2 c3 c4
            go_wp2_with fail
            refine (twice_any _ _).mono ?_
            rintro e w5 ⟨rfl, hw5⟩
            have HO5 := ((Box.mk d0 d1 d2 d3 d4).set (dLo (mPart a b k + -(a * 2 ^ k))) (dHi (mPart a b k + -(a * 2 ^ k)))).keeps hw5
            have HX5 := (((Box.mk y0 y1 y2 y3 y4).other (by omega) _).other (by omega) _).keeps hw5
            have HR5 := ((HR4.other (by omega) _).other (by omega) _).keeps hw5
            have HK5 := ((HK4.setCell (by simp) _).setCell (by simp) _).trans hw5
            obtain ⟨z0, z1, z2, z3, z4⟩ := HX5
            clear HR4 HK4 hw5 d0 d1 d2 d3 d4 y0 y1 y2 y3 y4
            go_wp2
            go_roundw
            case rel =>
              refine ⟨k + 1, by omega, by go_num, (HR5.other (by omega) _).other (by omega) _, ?_, ?_, (HK5.setCell (by simp; omega) _).setCell (by simp; omega) _⟩
              · rw [HS.out]; exact (HO5.other (by omega) _).other (by omega) _
              · rw [HP.out]; exact (Box.mk z0 z1 z2 z3 z4).set _ _
            case measure => simp [intOf]; omega
        · have hk63 : decide ((k : Int) < 63) = true := by simp; omega
          have hk63' : ((k : Int) == 63) = false := by simp; omega
          have HS := Lib.hid ((mPart_step a b k (by omega)).1 hbit)
          clear hbit
          obtain ⟨b0, b1, b2, b3, b4⟩ := HO
          obtain ⟨x0, x1, x2, x3, x4⟩ := HX
          go_wp2_with (go_at_call 144; refine (bit_any _ _ _).mono ?_; rintro e w' ⟨rfl, rfl⟩)
          refine (radd_any _ _ _).mono ?_
          rintro e w3 ⟨rfl, hw3⟩
          have HO3 := (Box.mk b0 b1 b2 b3 b4).keeps hw3
          have HX3 := (Box.mk x0 x1 x2 x3 x4).keeps hw3
          have HR3 := HR.keeps hw3
          have HK3 := HK.trans hw3
          obtain ⟨c0, c1, c2, c3, c4⟩ := HO3
          obtain ⟨y0, y1, y2, y3, y4⟩ := HX3
          clear HR HK hw3 b0 b1 b2 b3 b4 x0 x1 x2 x3 x4
          go_wp2_with (go_at_call 144; refine (bit_any _ _ _).mono ?_; rintro e w' ⟨rfl, rfl⟩)
          refine (twice_any _ _).mono ?_
          rintro e w4 ⟨rfl, hw4⟩
          have HO4 := ((Box.mk c0 c1 c2 c3 c4).set (dLo (mPart a b k + a * 2 ^ k)) (dHi (mPart a b k + a * 2 ^ k))).keeps hw4
          have HX4 := (((Box.mk y0 y1 y2 y3 y4).other (by omega) _).other (by omega) _).keeps hw4
          have HR4 := ((HR3.other (by omega) _).other (by omega) _).keeps hw4
          have HK4 := ((HK3.setCell (by simp) _).setCell (by simp) _).trans hw4
          obtain ⟨z0, z1, z2, z3, z4⟩ := HX4
          clear HR3 HK3 hw4 c0 c1 c2 c3 c4 y0 y1 y2 y3 y4
          go_wp2
          go_roundw
          case rel =>
            refine ⟨k + 1, by omega, by go_num, (HR4.other (by omega) _).other (by omega) _, ?_, ?_, (HK4.setCell (by simp; omega) _).setCell (by simp; omega) _⟩
            · rw [HS.out]; exact (HO4.other (by omega) _).other (by omega) _
            · rw [HP.out]; exact (Box.mk z0 z1 z2 z3 z4).set _ _
          case measure => simp [intOf]; omega
      · have hb' : (bitZ b k == 1) = false := by simpa using hbit
        have HS : Hid (mPart a b (k + 1) = mPart a b k) := by
          show _ = _
          by_cases h63 : k = 63
          · subst h63; exact (mPart_last a b hb).2 hbit
          · exact (mPart_step a b k (by omega)).2 hbit
        clear hbit
        obtain ⟨x0, x1, x2, x3, x4⟩ := HX
        go_wp2_with (go_at_call 144; refine (bit_any _ _ _).mono ?_; rintro e w' ⟨rfl, rfl⟩)
        refine (twice_any _ _).mono ?_
        rintro e w4 ⟨rfl, hw4⟩
        have HO4 := HO.keeps hw4
        have HX4 := (Box.mk x0 x1 x2 x3 x4).keeps hw4
        have HR4 := HR.keeps hw4
        have HK4 := HK.trans hw4
        obtain ⟨z0, z1, z2, z3, z4⟩ := HX4
        clear HR HK HO hw4 x0 x1 x2 x3 x4
        go_wp2
        go_roundw
        case rel =>
          refine ⟨k + 1, by omega, by go_num, (HR4.other (by omega) _).other (by omega) _, ?_, ?_, (HK4.setCell (by simp; omega) _).setCell (by simp; omega) _⟩
          · rw [HS.out]; exact (HO4.other (by omega) _).other (by omega) _
          · rw [HP.out]; exact (Box.mk z0 z1 z2 z3 z4).set _ _
        case measure => simp [intOf]; omega
end Go.Proofs.YtnlkggfgloblcaaGreat
