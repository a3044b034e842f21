/-
  The document's example of layer 3, as the statements ask for it: awake answers true; of what was there nothing has changed.
-/
import Derived.Test.YtkdpefkllchadaaMemOut
namespace Go.Proofs.Ytkdpefkllchadaa
open Go.RowKit

def aw : List UInt8 := splice (List.replicate 16 0) 0 (mB 258)
theorem aw_get : mC (mT aw 0 8) = 258 := by
  unfold aw
  rw [mT_splice _ _ _ _ (mB_length 258) (by simp)]
  exact mC_mB ⟨by decide, by decide⟩
theorem aw_byte : ((aw.getD 1 0).toNat : Int) = 1 := by decide
theorem aw_ok : mE 16 0 = 0 := by decide
theorem new16 (w : World) : Calls Try.prog 17 #[.int .i64 16] w fun e w' => e = .returned (.slice (some ⟨w.heap.size, 0, none⟩) 16 16) ∧ Mem w' (some ⟨w.heap.size, 0, none⟩) 16 16 (List.replicate 16 0) ∧ Below w.heap.size w w' := new_any 16 w (by decide)
theorem put16 (A : Option Addr) (c : Nat) (w : World) (hm : Mem w A 16 c (List.replicate 16 0)) : Calls Try.prog 14 #[.slice A 16 c, .int .i64 0, .int .i64 258] w (PutPost w 16 aw) := put_yes A 16 c _ w 0 258 (by decide) hm aw_ok
theorem get16 (A : Option Addr) (c : Nat) (w : World) (hm : Mem w A 16 c aw) : Calls Try.prog 12 #[.slice A 16 c, .int .i64 0] w fun e w' => e = .returned (.tuple #[.int .i64 258, .int .i64 0]) ∧ w = w' := by
  have h := get_yes A 16 c _ w 0 (by decide) hm aw_ok
  rw [aw_get] at h
  exact h
theorem byte16 (A : Option Addr) (c : Nat) (w : World) (hm : Mem w A 16 c aw) : Calls Try.prog 16 #[.slice A 16 c, .int .i64 1] w fun e w' => e = .returned (.tuple #[.int .i64 1, .int .i64 0]) ∧ w = w' := by
  have h := byte_yes A 16 c _ w 1 (by decide) hm (by decide)
  rw [aw_byte] at h
  exact h
set_option maxHeartbeats 400000 in
theorem mawake_any (w : World) : Calls Try.prog 8 #[] w fun e w' => e = .returned (.bool true) ∧ Below w.heap.size w w' := by
  go_enter Try.func8, Try.ntmps8
  go_wp2_with (first
    | (go_at_call 17; refine (new16 _).mono ?_; rintro e w1 ⟨rfl, hm1, hb1⟩; have H1 := Lib.hid hm1; have HB1 := Lib.hid hb1; clear hm1 hb1)
    | (go_at_call 14; refine (put16 _ _ _ H1.out).mono ?_; rintro e w2 ⟨A2, c2, rfl, hm2, hb2⟩; have H2 := Lib.hid hm2; have HB2 := Lib.hid hb2; clear hm2 hb2)
    | (go_at_call 12; refine (get16 _ _ _ H2.out).mono ?_; rintro e w' ⟨rfl, rfl⟩)
    | (go_at_call 16; refine (byte16 _ _ _ H2.out).mono ?_; rintro e w' ⟨rfl, rfl⟩))
  go_ret
  exact ⟨rfl, below_then HB1.out HB2.out⟩
end Go.Proofs.Ytkdpefkllchadaa
