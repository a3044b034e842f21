/-
  What the exported calls of package mem answer: Get, Put, Byte, PutByte, Fill, Move, Text, Swap; each where it tells a throw, and where it tells none.
-/
import Derived.Test.YtkehlaphiillpaaMemLoops
import Derived.Test.YtkehlaphiillpaaBelowThen
namespace Go.Proofs.Ytkehlaphiillpaa
open Go.RowKit

/-- A memory is answered with the throw 0; of what was there nothing has changed. -/
def PutPost (w : World) (n : Nat) (l : List UInt8) (e : Ending) (w' : World) : Prop := ∃ A c, e = .returned (.tuple #[.slice A n c, .int .i64 0]) ∧ Mem w' A n c l ∧ Below w.heap.size w w'
def SwapPost (w : World) (n : Nat) (l : List UInt8) (e : Ending) (w' : World) : Prop := ∃ A c, e = .returned (.tuple #[.slice A n c, .int .i64 (-1), .int .i64 0]) ∧ Mem w' A n c l ∧ Below w.heap.size w w'

section
variable (A : Option Addr) (n c : Nat) (l : List UInt8) (w : World)
set_option maxHeartbeats 400000 in
theorem get_no (a : Int) (hn : n ≤ 1000000) (ha : InC a) (h : (mE n a != 0) = true) :
    Calls Try.prog 21 #[.slice A n c, .int .i64 a] w fun e w' => e = .returned (.tuple #[.int .i64 0, .int .i64 (mE n a)]) ∧ w = w' := by
  go_enter Try.func21, Try.ntmps21
  go_wp2_with (go_at_call 30; refine (mfault_any _ _ _ _ _ hn ha).mono ?_; rintro e w' ⟨rfl, rfl⟩)
  go_ret2
  exact ⟨rfl, rfl⟩
set_option maxHeartbeats 400000 in
theorem get_yes (i : Nat) (hn : n ≤ 1000000) (hm : Mem w A n c l) (h : mE n (i : Int) = 0) :
    Calls Try.prog 21 #[.slice A n c, .int .i64 (i : Int)] w fun e w' => e = .returned (.tuple #[.int .i64 (mC (mT l i 8)), .int .i64 0]) ∧ w = w' := by
  obtain ⟨i', hi', hle, _, _⟩ := mE_ok h
  obtain rfl : i = i' := by omega
  obtain ⟨A', c', hcut, hm'⟩ := hm.cut i 8 hle
  rw [show ((8 : Nat) : Int) = 8 from rfl] at hcut
  have HM := Lib.hid hm'
  clear hm hm' hi'
  go_enter Try.func21, Try.ntmps21
  go_wp2_with (first
    | (go_at_call 30; refine (mfault_any _ _ _ _ _ hn ⟨by omega, by omega⟩).mono ?_; rintro e w' ⟨rfl, rfl⟩)
    | (go_at_call 31; refine (joined_any _ _ _ _ HM.out).mono ?_; rintro e w' ⟨rfl, rfl⟩))
  go_ret2
  exact ⟨rfl, rfl⟩
set_option maxHeartbeats 400000 in
theorem put_no (a x : Int) (hn : n ≤ 1000000) (ha : InC a) (h : (mE n a != 0) = true) :
    Calls Try.prog 24 #[.slice A n c, .int .i64 a, .int .i64 x] w fun e w' => e = .returned (.tuple #[.slice A n c, .int .i64 (mE n a)]) ∧ w = w' := by
  go_enter Try.func24, Try.ntmps24
  go_wp2_with (go_at_call 30; refine (mfault_any _ _ _ _ _ hn ha).mono ?_; rintro e w' ⟨rfl, rfl⟩)
  go_ret2
  exact ⟨rfl, rfl⟩
set_option maxHeartbeats 400000 in
theorem put_yes (i : Nat) (x : Int) (hn : n ≤ 1000000) (hm : Mem w A n c l) (h : mE n (i : Int) = 0) :
    Calls Try.prog 24 #[.slice A n c, .int .i64 (i : Int), .int .i64 x] w (PutPost w n (splice l i (mB x))) := by
  obtain ⟨i', hi', hle, _, _⟩ := mE_ok h
  obtain rfl : i = i' := by omega
  have HM := Lib.hid hm
  clear hm hi'
  go_enter Try.func24, Try.ntmps24
  go_wp2_with (first
    | (go_at_call 30; refine (mfault_any _ _ _ _ _ hn ⟨by omega, by omega⟩).mono ?_; rintro e w' ⟨rfl, rfl⟩)
    | (go_at_call 34; refine (parts_any _ _).mono ?_; rintro e w1 ⟨rfl, hm1, hb1⟩; have H1 := Lib.hid hm1; have HB := Lib.hid hb1; clear hm1 hb1)
    | (go_at_call 33; refine (with_any _ _ _ _ _ _ _ _ _ _ (HM.out.below HB.out) H1.out hle hn).mono ?_; rintro e w2 ⟨rfl, hm2, hb2⟩; have H2 := Lib.hid hm2; have HB2 := Lib.hid hb2; clear hm2 hb2))
  go_ret2
  exact ⟨_, _, rfl, H2.out, below_then HB.out HB2.out⟩
theorem one_new (b : UInt8) : Mem (w.alloc (.cells #[.int .u8 (b.toNat : Int)] 5)) (some ⟨w.heap.size, 0, none⟩) 1 1 [b] :=
  Mem.of_block (l := [b]) (t := 5) (heap_alloc_new w _)
end
end Go.Proofs.Ytkehlaphiillpaa
