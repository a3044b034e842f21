/-
  What the exported calls of package mem answer: Get, Put, Byte, PutByte, Fill, Move, Text, Swap; each where it tells a throw, and where it tells none.
-/
import Derived.Test.YticeeckahdjjmaaMemLoops
import Derived.Test.YticeeckahdjjmaaBelowThen
namespace Go.Proofs.Yticeeckahdjjmaa
open Go.RowKit

/-- A memory is answered with the throw 0; of what was there nothing has changed. -/
def PutPost (w : World) (n : Nat) (l : List UInt8) (e : Ending) (w' : World) : Prop := ∃ A c, e = .returned (.tuple #[.slice A n c, .int .i64 0]) ∧ Mem w' A n c l ∧ Below w.heap.size w w'
def SwapPost (w : World) (n : Nat) (l : List UInt8) (e : Ending) (w' : World) : Prop := ∃ A c, e = .returned (.tuple #[.slice A n c, .int .i64 (-1), .int .i64 0]) ∧ Mem w' A n c l ∧ Below w.heap.size w w'

section
variable (A : Option Addr) (n c : Nat) (l : List UInt8) (w : World)
set_option maxHeartbeats 400000 in
theorem get_no (a : Int) (hn : n ≤ 1000000) (ha : InC a) (h : (mE n a != 0) = true) :
    Calls Try.prog 47 #[.slice A n c, .int .i64 a] w fun e w' => e = .returned (.tuple #[.int .i64 0, .int .i64 (mE n a)]) ∧ w = w' := by
  go_enter Try.func47, Try.ntmps47
  go_wp2_with (go_at_call 42; refine (mfault_any _ _ _ _ _ hn ha).mono ?_; rintro e w' ⟨rfl, rfl⟩)
  go_ret2
  exact ⟨rfl, rfl⟩
set_option maxHeartbeats 400000 in
theorem get_yes (i : Nat) (hn : n ≤ 1000000) (hm : Mem w A n c l) (h : mE n (i : Int) = 0) :
    Calls Try.prog 47 #[.slice A n c, .int .i64 (i : Int)] w fun e w' => e = .returned (.tuple #[.int .i64 (mC (mT l i 8)), .int .i64 0]) ∧ w = w' := by
  obtain ⟨i', hi', hle, _, _⟩ := mE_ok h
  obtain rfl : i = i' := by omega
  obtain ⟨A', c', hcut, hm'⟩ := hm.cut i 8 hle
  rw [show ((8 : Nat) : Int) = 8 from rfl] at hcut
  have HM := Lib.hid hm'
  clear hm hm' hi'
  go_enter Try.func47, Try.ntmps47
  go_wp2_with (first
    | (go_at_call 42; refine (mfault_any _ _ _ _ _ hn ⟨by omega, by omega⟩).mono ?_; rintro e w' ⟨rfl, rfl⟩)
    | (go_at_call 57; refine (joined_any _ _ _ _ HM.out).mono ?_; rintro e w' ⟨rfl, rfl⟩))
  go_ret2
  exact ⟨rfl, rfl⟩
set_option maxHeartbeats 400000 in
theorem put_no (a x : Int) (hn : n ≤ 1000000) (ha : InC a) (h : (mE n a != 0) = true) :
    Calls Try.prog 26 #[.slice A n c, .int .i64 a, .int .i64 x] w fun e w' => e = .returned (.tuple #[.slice A n c, .int .i64 (mE n a)]) ∧ w = w' := by
  go_enter Try.func26, Try.ntmps26
  go_wp2_with (go_at_call 42; refine (mfault_any _ _ _ _ _ hn ha).mono ?_; rintro e w' ⟨rfl, rfl⟩)
  go_ret2
  exact ⟨rfl, rfl⟩
set_option maxHeartbeats 400000 in
theorem put_yes (i : Nat) (x : Int) (hn : n ≤ 1000000) (hm : Mem w A n c l) (h : mE n (i : Int) = 0) :
    Calls Try.prog 26 #[.slice A n c, .int .i64 (i : Int), .int .i64 x] w (PutPost w n (splice l i (mB x))) := by
  obtain ⟨i', hi', hle, _, _⟩ := mE_ok h
  obtain rfl : i = i' := by omega
  have HM := Lib.hid hm
  clear hm hi'
  go_enter Try.func26, Try.ntmps26
  go_wp2_with (first
    | (go_at_call 42; refine (mfault_any _ _ _ _ _ hn ⟨by omega, by omega⟩).mono ?_; rintro e w' ⟨rfl, rfl⟩)
    | (go_at_call 44; refine (parts_any _ _).mono ?_; rintro e w1 ⟨rfl, hm1, hb1⟩; have H1 := Lib.hid hm1; have HB := Lib.hid hb1; clear hm1 hb1)
    | (go_at_call 43; refine (with_any _ _ _ _ _ _ _ _ _ _ (HM.out.below HB.out) H1.out hle hn).mono ?_; rintro e w2 ⟨rfl, hm2, hb2⟩; have H2 := Lib.hid hm2; have HB2 := Lib.hid hb2; clear hm2 hb2))
  go_ret2
  exact ⟨_, _, rfl, H2.out, below_then HB.out HB2.out⟩
set_option maxHeartbeats 400000 in
theorem putByte_no (a x : Int) (hn : n ≤ 1000000) (ha : InC a) (h : thB n a 1 = false) :
    Calls Try.prog 30 #[.slice A n c, .int .i64 a, .int .i64 x] w fun e w' => e = .returned (.tuple #[.slice none 0 0, .int .i64 (-9)]) ∧ w = w' := by
  go_enter Try.func30, Try.ntmps30
  go_wp2_with (go_at_call 41; refine (there_any _ _ _ _ _ _ hn ha).mono ?_; rintro e w' ⟨rfl, rfl⟩)
  go_ret2
  exact ⟨rfl, rfl⟩
theorem one_new (b : UInt8) : Mem (w.alloc (.cells #[.int .u8 (b.toNat : Int)] 5)) (some ⟨w.heap.size, 0, none⟩) 1 1 [b] :=
  Mem.of_block (l := [b]) (t := 5) (heap_alloc_new w _)
set_option maxHeartbeats 400000 in
theorem putByte_yes (i : Nat) (x : Int) (hn : n ≤ 1000000) (hm : Mem w A n c l) (hi : i < n) :
    Calls Try.prog 30 #[.slice A n c, .int .i64 (i : Int), .int .i64 x] w (PutPost w n (splice l i [b8 x])) := by
  have h : thB n (i : Int) 1 = true := thB_mk (n := 1) (by omega)
  have hx := (b8_val x).symm
  have HM := Lib.hid hm
  clear hm
  go_enter Try.func30, Try.ntmps30
  go_wp2_with (first
    | (go_at_call 41; refine (there_any _ _ _ _ _ _ hn ⟨by omega, by omega⟩).mono ?_; rintro e w' ⟨rfl, rfl⟩)
    | (go_at_call 43; refine (with_any _ _ _ _ _ _ _ _ _ _ (HM.out.alloc _) (one_new _ _) (by omega) hn).mono ?_; rintro e w2 ⟨rfl, hm2, hb2⟩; have H2 := Lib.hid hm2; have HB2 := Lib.hid hb2; clear hm2 hb2))
  go_ret2
  exact ⟨_, _, rfl, by simpa using H2.out, below_then ((Below.refl _ _).alloc (Nat.le_refl _) _) HB2.out⟩
set_option maxHeartbeats 400000 in
theorem text_no (a k : Int) (hn : n ≤ 1000000) (ha : InC a) (h : thB n a k = false) :
    Calls Try.prog 24 #[.slice A n c, .int .i64 a, .int .i64 k] w fun e w' => e = .returned (.tuple #[.string ⟨#[]⟩, .int .i64 (-9)]) ∧ w = w' := by
  go_enter Try.func24, Try.ntmps24
  go_wp2_with (go_at_call 41; refine (there_any _ _ _ _ _ _ hn ha).mono ?_; rintro e w' ⟨rfl, rfl⟩)
  go_ret2
  exact ⟨rfl, rfl⟩
set_option maxHeartbeats 400000 in
theorem text_yes (i k : Nat) (hn : n ≤ 1000000) (hm : Mem w A n c l) (hi : i + k ≤ n) :
    Calls Try.prog 24 #[.slice A n c, .int .i64 (i : Int), .int .i64 (k : Int)] w fun e w' => e = .returned (.tuple #[.string ⟨(mT l i k).toArray⟩, .int .i64 0]) ∧ w = w' := by
  have h : thB n (i : Int) (k : Int) = true := thB_mk hi
  obtain ⟨A', c', hcut, hm'⟩ := hm.cut i k hi
  have hs := hm'.str
  clear hm hm'
  go_enter Try.func24, Try.ntmps24
  go_wp2_with (go_at_call 41; refine (there_any _ _ _ _ _ _ hn ⟨by omega, by omega⟩).mono ?_; rintro e w' ⟨rfl, rfl⟩)
  go_ret2
  exact ⟨rfl, rfl⟩
end
end Go.Proofs.Yticeeckahdjjmaa
