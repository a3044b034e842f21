/-
  What the exported calls of package mem answer: Get, Put, Byte, PutByte, Fill, Move, Text, Swap; each where it tells a throw, and where it tells none.
-/
import Derived.Test.YtkdpefkllchadaaMemLoops
namespace Go.Proofs.Ytkdpefkllchadaa
open Go.RowKit

/-- A memory is answered with the throw 0; of what was there nothing has changed. -/
def PutPost (w : World) (n : Nat) (l : List UInt8) (e : Ending) (w' : World) : Prop := ∃ A c, e = .returned (.tuple #[.slice A n c, .int .i64 0]) ∧ Mem w' A n c l ∧ Below w.heap.size w w'
def SwapPost (w : World) (n : Nat) (l : List UInt8) (e : Ending) (w' : World) : Prop := ∃ A c, e = .returned (.tuple #[.slice A n c, .int .i64 (-1), .int .i64 0]) ∧ Mem w' A n c l ∧ Below w.heap.size w w'
theorem below_then {w a b : World} (h : Below w.heap.size w a) (k : Below a.heap.size a b) : Below w.heap.size w b := h.trans (k.mono h.size)

section
variable (A : Option Addr) (n c : Nat) (l : List UInt8) (w : World)
set_option maxHeartbeats 400000 in
theorem get_no (a : Int) (hn : n ≤ 1000000) (ha : InC a) (h : (mE n a != 0) = true) :
    Calls Try.prog 12 #[.slice A n c, .int .i64 a] w fun e w' => e = .returned (.tuple #[.int .i64 0, .int .i64 (mE n a)]) ∧ w = w' := by
  go_enter Try.func12, Try.ntmps12
  go_wp2_with (go_at_call 21; refine (mfault_any _ _ _ _ _ hn ha).mono ?_; rintro e w' ⟨rfl, rfl⟩)
  go_ret2
  exact ⟨rfl, rfl⟩
set_option maxHeartbeats 400000 in
theorem get_yes (i : Nat) (hn : n ≤ 1000000) (hm : Mem w A n c l) (h : mE n (i : Int) = 0) :
    Calls Try.prog 12 #[.slice A n c, .int .i64 (i : Int)] w fun e w' => e = .returned (.tuple #[.int .i64 (mC (mT l i 8)), .int .i64 0]) ∧ w = w' := by
  obtain ⟨i', hi', hle, _, _⟩ := mE_ok h
  obtain rfl : i = i' := by omega
  obtain ⟨A', c', hcut, hm'⟩ := hm.cut i 8 hle
  rw [show ((8 : Nat) : Int) = 8 from rfl] at hcut
  have HM := Lib.hid hm'
  clear hm hm' hi'
  go_enter Try.func12, Try.ntmps12
  go_wp2_with (first
    | (go_at_call 21; refine (mfault_any _ _ _ _ _ hn ⟨by omega, by omega⟩).mono ?_; rintro e w' ⟨rfl, rfl⟩)
    | (go_at_call 22; refine (joined_any _ _ _ _ HM.out).mono ?_; rintro e w' ⟨rfl, rfl⟩))
  go_ret2
  exact ⟨rfl, rfl⟩
set_option maxHeartbeats 400000 in
theorem put_no (a x : Int) (hn : n ≤ 1000000) (ha : InC a) (h : (mE n a != 0) = true) :
    Calls Try.prog 14 #[.slice A n c, .int .i64 a, .int .i64 x] w fun e w' => e = .returned (.tuple #[.slice A n c, .int .i64 (mE n a)]) ∧ w = w' := by
  go_enter Try.func14, Try.ntmps14
  go_wp2_with (go_at_call 21; refine (mfault_any _ _ _ _ _ hn ha).mono ?_; rintro e w' ⟨rfl, rfl⟩)
  go_ret2
  exact ⟨rfl, rfl⟩
set_option maxHeartbeats 400000 in
theorem put_yes (i : Nat) (x : Int) (hn : n ≤ 1000000) (hm : Mem w A n c l) (h : mE n (i : Int) = 0) :
    Calls Try.prog 14 #[.slice A n c, .int .i64 (i : Int), .int .i64 x] w (PutPost w n (splice l i (mB x))) := by
  obtain ⟨i', hi', hle, _, _⟩ := mE_ok h
  obtain rfl : i = i' := by omega
  have HM := Lib.hid hm
  clear hm hi'
  go_enter Try.func14, Try.ntmps14
  go_wp2_with (first
    | (go_at_call 21; refine (mfault_any _ _ _ _ _ hn ⟨by omega, by omega⟩).mono ?_; rintro e w' ⟨rfl, rfl⟩)
    | (go_at_call 24; refine (parts_any _ _).mono ?_; rintro e w1 ⟨rfl, hm1, hb1⟩; have H1 := Lib.hid hm1; have HB := Lib.hid hb1; clear hm1 hb1)
    | (go_at_call 19; refine (with_any _ _ _ _ _ _ _ _ _ _ (HM.out.below HB.out) H1.out hle hn).mono ?_; rintro e w2 ⟨rfl, hm2, hb2⟩; have H2 := Lib.hid hm2; have HB2 := Lib.hid hb2; clear hm2 hb2))
  go_ret2
  exact ⟨_, _, rfl, H2.out, below_then HB.out HB2.out⟩
set_option maxHeartbeats 400000 in
theorem byte_no (a : Int) (hn : n ≤ 1000000) (ha : InC a) (h : thB n a 1 = false) :
    Calls Try.prog 16 #[.slice A n c, .int .i64 a] w fun e w' => e = .returned (.tuple #[.int .i64 0, .int .i64 (-9)]) ∧ w = w' := by
  go_enter Try.func16, Try.ntmps16
  go_wp2_with (go_at_call 18; refine (there_any _ _ _ _ _ _ hn ha).mono ?_; rintro e w' ⟨rfl, rfl⟩)
  go_ret2
  exact ⟨rfl, rfl⟩
set_option maxHeartbeats 400000 in
theorem byte_yes (i : Nat) (hn : n ≤ 1000000) (hm : Mem w A n c l) (hi : i < n) :
    Calls Try.prog 16 #[.slice A n c, .int .i64 (i : Int)] w fun e w' => e = .returned (.tuple #[.int .i64 ((l.getD i 0).toNat : Int), .int .i64 0]) ∧ w = w' := by
  have h : thB n (i : Int) 1 = true := thB_mk (n := 1) (by omega)
  obtain ⟨b, o, rfl, hb, hcell⟩ := hm.2.2 (by omega)
  have hl : i < l.length := by rw [hm.1]; exact hi
  have hc := hcell i hl
  have hv := u8_lt (l.getD i 0)
  rw [show l[i] = l.getD i 0 by simp [List.getD, hl]] at hc
  have h0 : (0 : Int) ≤ ((l.getD i 0).toNat : Int) := by omega
  have h1 : ((l.getD i 0).toNat : Int) ≤ 255 := by omega
  generalize ((l.getD i 0).toNat : Int) = V at *
  clear hcell hm hl hv
  go_enter Try.func16, Try.ntmps16
  go_wp2_with (go_at_call 18; refine (there_any _ _ _ _ _ _ hn ⟨by omega, by omega⟩).mono ?_; rintro e w' ⟨rfl, rfl⟩)
  go_ret2
  exact ⟨rfl, rfl⟩
set_option maxHeartbeats 400000 in
theorem putByte_no (a x : Int) (hn : n ≤ 1000000) (ha : InC a) (h : thB n a 1 = false) :
    Calls Try.prog 15 #[.slice A n c, .int .i64 a, .int .i64 x] w fun e w' => e = .returned (.tuple #[.slice none 0 0, .int .i64 (-9)]) ∧ w = w' := by
  go_enter Try.func15, Try.ntmps15
  go_wp2_with (go_at_call 18; refine (there_any _ _ _ _ _ _ hn ha).mono ?_; rintro e w' ⟨rfl, rfl⟩)
  go_ret2
  exact ⟨rfl, rfl⟩
theorem one_new (b : UInt8) : Mem (w.alloc (.cells #[.int .u8 (b.toNat : Int)] 5)) (some ⟨w.heap.size, 0, none⟩) 1 1 [b] :=
  Mem.of_block (l := [b]) (t := 5) (heap_alloc_new w _)
set_option maxHeartbeats 400000 in
theorem putByte_yes (i : Nat) (x : Int) (hn : n ≤ 1000000) (hm : Mem w A n c l) (hi : i < n) :
    Calls Try.prog 15 #[.slice A n c, .int .i64 (i : Int), .int .i64 x] w (PutPost w n (splice l i [b8 x])) := by
  have h : thB n (i : Int) 1 = true := thB_mk (n := 1) (by omega)
  have hx := (b8_val x).symm
  have HM := Lib.hid hm
  clear hm
  go_enter Try.func15, Try.ntmps15
  go_wp2_with (first
    | (go_at_call 18; refine (there_any _ _ _ _ _ _ hn ⟨by omega, by omega⟩).mono ?_; rintro e w' ⟨rfl, rfl⟩)
    | (go_at_call 19; refine (with_any _ _ _ _ _ _ _ _ _ _ (HM.out.alloc _) (one_new _ _) (by omega) hn).mono ?_; rintro e w2 ⟨rfl, hm2, hb2⟩; have H2 := Lib.hid hm2; have HB2 := Lib.hid hb2; clear hm2 hb2))
  go_ret2
  exact ⟨_, _, rfl, by simpa using H2.out, below_then ((Below.refl _ _).alloc (Nat.le_refl _) _) HB2.out⟩
set_option maxHeartbeats 400000 in
theorem fill_no (a k x : Int) (hn : n ≤ 1000000) (ha : InC a) (h : thB n a k = false) :
    Calls Try.prog 11 #[.slice A n c, .int .i64 a, .int .i64 k, .int .i64 x] w fun e w' => e = .returned (.tuple #[.slice A n c, .int .i64 (-9)]) ∧ w = w' := by
  go_enter Try.func11, Try.ntmps11
  go_wp2_with (go_at_call 18; refine (there_any _ _ _ _ _ _ hn ha).mono ?_; rintro e w' ⟨rfl, rfl⟩)
  go_ret2
  exact ⟨rfl, rfl⟩
set_option maxHeartbeats 400000 in
theorem fill_yes (i k : Nat) (x : Int) (hn : n ≤ 1000000) (hm : Mem w A n c l) (hi : i + k ≤ n) :
    Calls Try.prog 11 #[.slice A n c, .int .i64 (i : Int), .int .i64 (k : Int), .int .i64 x] w (PutPost w n (splice l i (List.replicate k (b8 x)))) := by
  have h : thB n (i : Int) (k : Int) = true := thB_mk hi
  have hx := (b8_val x).symm
  have HM := Lib.hid hm
  clear hm
  go_enter Try.func11, Try.ntmps11
  go_wp2_with (first
    | (go_at_call 18; refine (there_any _ _ _ _ _ _ hn ⟨by omega, by omega⟩).mono ?_; rintro e w' ⟨rfl, rfl⟩)
    | (go_at_call 20; refine (same_any _ _ _ (by omega)).mono ?_; rintro e w1 ⟨rfl, hm1, hb1⟩; have H1 := Lib.hid hm1; have HB := Lib.hid hb1; clear hm1 hb1)
    | (go_at_call 19; refine (with_any _ _ _ _ _ _ _ _ _ _ (HM.out.below HB.out) H1.out hi hn).mono ?_; rintro e w2 ⟨rfl, hm2, hb2⟩; have H2 := Lib.hid hm2; have HB2 := Lib.hid hb2; clear hm2 hb2))
  go_ret2
  exact ⟨_, _, rfl, H2.out, below_then HB.out HB2.out⟩
set_option maxHeartbeats 400000 in
theorem move_no (f t k : Int) (hn : n ≤ 1000000) (hf : InC f) (ht : InC t) (h : (thB n f k && thB n t k) = false) :
    Calls Try.prog 9 #[.slice A n c, .int .i64 f, .int .i64 t, .int .i64 k] w fun e w' => e = .returned (.tuple #[.slice A n c, .int .i64 (-9)]) ∧ w = w' := by
  cases h1 : thB n f k
  · clear h
    go_enter Try.func9, Try.ntmps9
    go_wp2_with (go_at_call 18; refine (there_any _ _ _ _ _ _ hn (by first | exact hf | exact ht)).mono ?_; rintro e w' ⟨rfl, rfl⟩)
    go_ret2
    exact ⟨rfl, rfl⟩
  · have h2 : thB n t k = false := by rw [h1] at h; simpa using h
    clear h
    go_enter Try.func9, Try.ntmps9
    go_wp2_with (go_at_call 18; refine (there_any _ _ _ _ _ _ hn (by first | exact hf | exact ht)).mono ?_; rintro e w' ⟨rfl, rfl⟩)
    go_ret2
    exact ⟨rfl, rfl⟩
set_option maxHeartbeats 400000 in
theorem move_yes (f t k : Nat) (hn : n ≤ 1000000) (hm : Mem w A n c l) (hf : f + k ≤ n) (ht : t + k ≤ n) :
    Calls Try.prog 9 #[.slice A n c, .int .i64 (f : Int), .int .i64 (t : Int), .int .i64 (k : Int)] w (PutPost w n (splice l t (mT l f k))) := by
  have h1 : thB n (f : Int) (k : Int) = true := thB_mk hf
  have h2 : thB n (t : Int) (k : Int) = true := thB_mk ht
  obtain ⟨A', c', hcut, hm'⟩ := hm.cut f k hf
  have HM := Lib.hid hm
  have HC := Lib.hid hm'
  clear hm hm'
  go_enter Try.func9, Try.ntmps9
  go_wp2_with (first
    | (go_at_call 18; refine (there_any _ _ _ _ _ _ hn ⟨by omega, by omega⟩).mono ?_; rintro e w' ⟨rfl, rfl⟩)
    | (go_at_call 19; refine (with_any _ _ _ _ _ _ _ _ _ _ HM.out HC.out ht hn).mono ?_; rintro e w2 ⟨rfl, hm2, hb2⟩; have H2 := Lib.hid hm2; have HB2 := Lib.hid hb2; clear hm2 hb2))
  go_ret2
  exact ⟨_, _, rfl, H2.out, HB2.out⟩
set_option maxHeartbeats 400000 in
theorem text_no (a k : Int) (hn : n ≤ 1000000) (ha : InC a) (h : thB n a k = false) :
    Calls Try.prog 10 #[.slice A n c, .int .i64 a, .int .i64 k] w fun e w' => e = .returned (.tuple #[.string ⟨#[]⟩, .int .i64 (-9)]) ∧ w = w' := by
  go_enter Try.func10, Try.ntmps10
  go_wp2_with (go_at_call 18; refine (there_any _ _ _ _ _ _ hn ha).mono ?_; rintro e w' ⟨rfl, rfl⟩)
  go_ret2
  exact ⟨rfl, rfl⟩
set_option maxHeartbeats 400000 in
theorem text_yes (i k : Nat) (hn : n ≤ 1000000) (hm : Mem w A n c l) (hi : i + k ≤ n) :
    Calls Try.prog 10 #[.slice A n c, .int .i64 (i : Int), .int .i64 (k : Int)] w fun e w' => e = .returned (.tuple #[.string ⟨(mT l i k).toArray⟩, .int .i64 0]) ∧ w = w' := by
  have h : thB n (i : Int) (k : Int) = true := thB_mk hi
  obtain ⟨A', c', hcut, hm'⟩ := hm.cut i k hi
  have hs := hm'.str
  clear hm hm'
  go_enter Try.func10, Try.ntmps10
  go_wp2_with (go_at_call 18; refine (there_any _ _ _ _ _ _ hn ⟨by omega, by omega⟩).mono ?_; rintro e w' ⟨rfl, rfl⟩)
  go_ret2
  exact ⟨rfl, rfl⟩
set_option maxHeartbeats 400000 in
theorem swap_bad (a old x : Int) (hn : n ≤ 1000000) (ha : InC a) (h : (mE n a != 0) = true) :
    Calls Try.prog 13 #[.slice A n c, .int .i64 a, .int .i64 old, .int .i64 x] w fun e w' => e = .returned (.tuple #[.slice A n c, .int .i64 0, .int .i64 (mE n a)]) ∧ w = w' := by
  go_enter Try.func13, Try.ntmps13
  go_wp2_with (first
    | (go_at_call 12; refine (get_no _ _ _ _ _ hn ha h).mono ?_; rintro e w' ⟨rfl, rfl⟩)
    | (go_at_call 23; refine (flag_any _ _).mono ?_; rintro e w' ⟨rfl, rfl⟩))
  go_ret3
  exact ⟨rfl, rfl⟩
set_option maxHeartbeats 400000 in
theorem swap_not (i : Nat) (old x : Int) (hn : n ≤ 1000000) (hm : Mem w A n c l) (h : mE n (i : Int) = 0) (ho : (mC (mT l i 8) != old) = true) :
    Calls Try.prog 13 #[.slice A n c, .int .i64 (i : Int), .int .i64 old, .int .i64 x] w fun e w' => e = .returned (.tuple #[.slice A n c, .int .i64 0, .int .i64 0]) ∧ w = w' := by
  have HM := Lib.hid hm
  have HE := Lib.hid h
  clear hm h
  go_enter Try.func13, Try.ntmps13
  go_wp2_with (first
    | (go_at_call 12; refine (get_yes _ _ _ _ _ _ hn HM.out HE.out).mono ?_; rintro e w' ⟨rfl, rfl⟩)
    | (go_at_call 23; refine (flag_any _ _).mono ?_; rintro e w' ⟨rfl, rfl⟩))
  go_ret3
  exact ⟨rfl, rfl⟩
set_option maxHeartbeats 400000 in
theorem swap_yes (i : Nat) (old x : Int) (hn : n ≤ 1000000) (hm : Mem w A n c l) (h : mE n (i : Int) = 0) (ho : (mC (mT l i 8) != old) = false) :
    Calls Try.prog 13 #[.slice A n c, .int .i64 (i : Int), .int .i64 old, .int .i64 x] w (SwapPost w n (splice l i (mB x))) := by
  have HM := Lib.hid hm
  have HE := Lib.hid h
  clear hm h
  go_enter Try.func13, Try.ntmps13
  go_wp2_with (first
    | (go_at_call 12; refine (get_yes _ _ _ _ _ _ hn HM.out HE.out).mono ?_; rintro e w' ⟨rfl, rfl⟩)
    | (go_at_call 14; refine (put_yes _ _ _ _ _ _ _ hn HM.out HE.out).mono ?_; rintro e w1 ⟨A1, c1, rfl, hm1, hb1⟩; have H1 := Lib.hid hm1; have HB := Lib.hid hb1; clear hm1 hb1)
    | (go_at_call 23; refine (flag_any _ _).mono ?_; rintro e w' ⟨rfl, rfl⟩))
  go_ret3
  exact ⟨_, _, rfl, H1.out, HB.out⟩
end
end Go.Proofs.Ytkdpefkllchadaa
