/-
  What the document calls Make and make2: a cell of 64 digits of two, a double of 128. Of what was there nothing changes.
-/
import Derived.Test.YticeeckahdjjmaaRef02Bits
namespace Go.Proofs.Yticeeckahdjjmaa
open Go.RowKit
/-- Make of 64 digits that lie anywhere in a block. -/
def RowAt (w : World) (B off n : Nat) (z : Nat → Int) : Prop := ∀ j, j < n → w.cell? ⟨B, off + j, none⟩ = some (.int .i64 (z j))
set_option maxHeartbeats 400000 in
theorem makeAt_any (B off cap : Nat) (z : Nat → Int) (w : World) (hz : RowAt w B off 64 z) :
    Calls Try.prog 78 #[.slice (some ⟨B, off, none⟩) 64 cap] w fun e w' => e = .returned (.int .i64 (wrap64 (mkF z 64))) ∧ w = w' := by
  have HZ := Lib.hid hz
  clear hz
  go_enter Try.func78, Try.ntmps78
  go_wp2
  go_loop [3, 4] (fun v i => ∃ m : Nat, m ≤ 64 ∧ i = .int .i64 (63 - (m : Int)) ∧ v = .int .u64 (mkF z m)) (fun _ i => (intOf i + 1).toNat)
  case atStart => exact ⟨0, by omega, rfl, rfl⟩
  case round =>
    obtain ⟨m, hm, rfl, rfl⟩ := hrel
    by_cases h0 : m = 64
    · subst h0
      go_wp2
      go_ret
      exact ⟨rfl, rfl⟩
    · have hc := HZ.out (63 - m) (by omega)
      have hn : ((63 : Int) - (m : Int)).toNat = 63 - m := by omega
      have HM : Hid (mkF z (m + 1) = IntKind.u64.wrap (IntKind.u64.wrap (mkF z m * 2) + IntKind.u64.wrap (bits .and .i64 (z (63 - m)) 1))) := rfl
      go_wp2
      go_round
      case rel => exact ⟨m + 1, by omega, by go_num, by rw [HM.out]⟩
      case measure => simp [intOf]; omega
theorem dig_nat (x : Int) (j : Nat) : dig x j = dig (x % 340282366920938463463374607431768211456) j ∨ 128 ≤ j := by
  by_cases h : j < 128
  · left
    unfold dig
    have e : (340282366920938463463374607431768211456 : Int) = 2 ^ j * (2 * 2 ^ (127 - j)) := by
      rw [show (2 : Int) ^ j * (2 * 2 ^ (127 - j)) = 2 ^ j * 2 ^ (127 - j) * 2 by grind, ← Int.pow_add, show j + (127 - j) = 127 by omega]; rfl
    rw [e, dig_mod x _ _ (pow_pos' j)]
  · right; omega
theorem mk_dig (y : Int) : wrap64 (mkF (dig y) 64) = wrap64 y := by
  have hX : (y % 18446744073709551616).toNat < 18446744073709551616 := by omega
  rw [mkF_all (dig y) (y % 18446744073709551616).toNat hX]
  · apply wrap64_congr; omega
  · intro j hj
    have h1 : dig y j = bitZ y j := by
      rw [bitZ_in (by omega) (by omega), Int.toNat_natCast]
      unfold dig
      obtain ⟨c, hc⟩ := pow_dvd (k := j + 1) (by omega)
      rw [hc, Int.pow_succ, Int.mul_assoc]
      exact (dig_mod y _ c (pow_pos' j)).symm
    rw [h1, bitZ_nat y j (by omega)]
    omega
theorem mkF_congr (z y : Nat → Int) (h : ∀ j, j < 64 → z j = y j) : ∀ m, m ≤ 64 → mkF z m = mkF y m
  | 0, _ => rfl
  | m + 1, hm => by rw [mkF, mkF, mkF_congr z y h m (by omega), h (63 - m) (by omega)]
theorem dig_up (x : Int) (j : Nat) : dig x (64 + j) = dig (x / 18446744073709551616) j := by
  unfold dig
  rw [show (2 : Int) ^ (64 + j) = 18446744073709551616 * 2 ^ j by rw [Int.pow_add]; rfl, ← Int.ediv_ediv_of_nonneg (by decide)]
theorem mk_lo (x : Int) : wrap64 (mkF (dig x) 64) = dLo x := mk_dig x
theorem mk_hi (x : Int) : wrap64 (mkF (fun j => dig x (64 + j)) 64) = dHi x := by
  rw [mkF_congr _ (dig (x / 18446744073709551616)) (fun j _ => dig_up x j) 64 (Nat.le_refl _), mk_dig]; rfl
set_option maxHeartbeats 400000 in
theorem make2_any (B : Nat) (x : Int) (w : World) (hB : B < w.heap.size) (hz : Row w B 128 (dig x)) :
    Calls Try.prog 72 #[.slice (some ⟨B, 0, none⟩) 128 128] w fun e w' => e = .returned (.agg #[.int .i64 (dLo x), .int .i64 (dHi x)]) ∧ Keeps w w' := by
  have H1 : Hid (∀ (W : World), Keeps w W → RowAt W B 0 64 (dig x)) := fun W hk j hj => by rw [Nat.zero_add]; exact hk.cell_some hB (hz j (by omega))
  have H2 : Hid (∀ (W : World), Keeps w W → RowAt W B 64 64 (fun j => dig x (64 + j))) := fun W hk j hj => hk.cell_some hB (hz (64 + j) (by omega))
  have h4 := mk_lo x
  have h5 := mk_hi x
  clear hz
  go_enter Try.func72, Try.ntmps72
  go_wp2
  go_region_held3 (fun _ => True) (first | trivial)
    (first
      | (go_at_call 78; (with_reducible refine (makeAt_any B 0 _ (dig x) _ (H1.out _ (((Keeps.refl w).alloc _).drew))).mono ?_); rintro e w' ⟨rfl, rfl⟩)
      | (go_at_call 78; (with_reducible refine (makeAt_any B 64 _ (fun j => dig x (64 + j)) _ (H2.out _ (((Keeps.refl w).alloc _).drew))).mono ?_); rintro e w' ⟨rfl, rfl⟩))
  go_wp2
  refine bodyPost_ret (v := .agg #[.int .i64 (dLo x), .int .i64 (dHi x)]) (by simp [results, Try.results72, go_sem]) rfl ⟨rfl, ((Keeps.refl w).alloc _).drew⟩
end Go.Proofs.Yticeeckahdjjmaa
