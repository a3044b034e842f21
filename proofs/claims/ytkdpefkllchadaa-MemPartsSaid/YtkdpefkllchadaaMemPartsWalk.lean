/-
  The call of the statement MemParts answers true at every memory, place and number; of what was there nothing has changed.
-/
import Derived.Test.YtkdpefkllchadaaMemAwake
namespace Go.Proofs.Ytkdpefkllchadaa
open Go.RowKit

/-- A number without so many of its low bytes. -/
def vS (x : Int) : Nat → Int
  | 0 => x
  | j + 1 => vS x j / 256
theorem vS_shift (x : Int) : ∀ j, vS x (j + 1) = vS (x / 256) j
  | 0 => rfl
  | j + 1 => by rw [vS, vS_shift x j]; rfl
theorem vS_in {x : Int} (h : InC x) : ∀ j, InC (vS x j)
  | 0 => h
  | j + 1 => by have := vS_in h j; unfold InC at *; simp only [vS]; omega
theorem mD_at : ∀ (k : Nat) (x : Int) (j : Nat), j < k → (mD k x)[j]? = some (b8 (vS x j))
  | 0, _, _, h => absurd h (by omega)
  | k + 1, x, 0, _ => rfl
  | k + 1, x, j + 1, h => by rw [mD, List.getElem?_cons_succ, mD_at k (x / 256) j (by omega), vS_shift]
theorem mB_at (x : Int) (j : Nat) (h : j < 8) : (mB x)[j]? = some (b8 (vS x j)) := by rw [mB_mD]; exact mD_at 8 x j h
theorem parts_next (l : List UInt8) (i : Nat) (x : Int) (j : Nat) (hj : j < 8) (hi : i + 8 ≤ l.length) : splice (splice l i ((mB x).take j)) (i + j) [b8 (vS x j)] = splice l i ((mB x).take (j + 1)) := by
  have h1 : ((mB x).take j).length = j := by rw [List.length_take, mB_length]; omega
  have h2 : ((mB x).take (j + 1)).length = j + 1 := by rw [List.length_take, mB_length]; omega
  have h3 := length_splice l i ((mB x).take j) (by omega)
  apply List.ext_getElem?
  intro m
  rw [splice_get _ _ _ _ (by simp only [List.length_singleton]; omega), splice_get _ _ _ _ (by omega), splice_get l ((mB x).take (j + 1)) _ _ (by omega), h1, h2, List.length_singleton]
  by_cases hm : m = i + j
  · subst hm
    rw [if_pos (by omega), if_pos (by omega), show i + j - (i + j) = 0 by omega, show i + j - i = j by omega, List.getElem?_take_of_lt (by omega), mB_at x j hj]
    rfl
  · rw [if_neg (by omega)]
    by_cases h4 : i ≤ m ∧ m < i + j
    · rw [if_pos h4, if_pos (by omega), List.getElem?_take_of_lt (by omega), List.getElem?_take_of_lt (by omega)]
    · rw [if_neg h4, if_neg (by omega)]
theorem parts_byte (l : List UInt8) (i : Nat) (x : Int) (j : Nat) (hj : j < 8) (hi : i + 8 ≤ l.length) : ((splice l i (mB x)).getD (i + j) 0) = b8 (vS x j) := by
  rw [List.getD_eq_getElem?_getD, splice_get _ _ _ _ (by rw [mB_length]; exact hi), mB_length, if_pos (by omega), show i + j - i = j by omega, mB_at x j hj]
  rfl
theorem putByte_as (A : Option Addr) (n c : Nat) (l : List UInt8) (w : World) (a : Int) (i : Nat) (x : Int) (l' : List UInt8) (ha : a = (i : Int)) (hl : splice l i [b8 x] = l') (hn : n ≤ 1000000) (hm : Mem w A n c l) (hi : i < n) :
    Calls Try.prog 15 #[.slice A n c, .int .i64 a, .int .i64 x] w (PutPost w n l') := by
  subst ha hl
  exact putByte_yes A n c l w i x hn hm hi
theorem byte_as (A : Option Addr) (n c : Nat) (l : List UInt8) (w : World) (a : Int) (i : Nat) (v : Int) (ha : a = (i : Int)) (hv : ((l.getD i 0).toNat : Int) = v) (hn : n ≤ 1000000) (hm : Mem w A n c l) (hi : i < n) :
    Calls Try.prog 16 #[.slice A n c, .int .i64 a] w fun e w' => e = .returned (.tuple #[.int .i64 v, .int .i64 0]) ∧ w = w' := by
  subst ha hv
  exact byte_yes A n c l w i hn hm hi
def PRel (w2 : World) (n : Nat) (l : List UInt8) (A : Option Addr) (c : Nat) (wr : World) : Prop := Mem wr A n c l ∧ Below w2.heap.size w2 wr
section
variable (A : Option Addr) (n c : Nat) (l : List UInt8) (w : World)
set_option maxRecDepth 100000 in
set_option maxHeartbeats 1000000 in
theorem memParts_yes (i : Nat) (x : Int) (h2 : n ≤ 2000) (hm : Mem w A n c l) (hE : mE n (i : Int) = 0) (hx : InC x) :
    Calls Try.prog 6 #[.slice A n c, .int .i64 (i : Int), .int .i64 x] w fun e w' => e = .returned (.bool true) ∧ Below w.heap.size w w' := by
  have hn : n ≤ 1000000 := by omega
  have hd : decide ((2000 : Int) < (n : Int)) = false := decide_eq_false (by omega)
  have HL := Lib.hid hm.1
  obtain ⟨i', hi', hle, _, _⟩ := mE_ok hE
  obtain rfl : i = i' := by omega
  have HE := Lib.hid hE
  have HM := Lib.hid hm
  have HX := Lib.hid hx
  clear hm hE hi' hx
  go_enter Try.func6, Try.ntmps6
  go_wp2_with (first
    | (go_at_call 8; refine (mawake_any _).mono ?_; rintro e w1 ⟨rfl, hb1⟩; have HB1 := Lib.hid hb1; have HM1 := Lib.hid (HM.out.below hb1); clear hb1)
    | (go_at_call 14; refine (put_yes _ _ _ _ _ _ _ hn HM1.out HE.out).mono ?_; rintro e w2 ⟨A2, c2, rfl, hm2, hb2⟩; have H2 := Lib.hid hm2; have HB2 := Lib.hid hb2; have HM2 := Lib.hid (HM1.out.below hb2); clear hm2 hb2))
  go_loopw [10, 11, 12] (fun q v t wr => ∃ (j : Nat) (Aq : Option Addr) (cq : Nat), j ≤ 8 ∧ t = .int .i64 j ∧ v = .int .i64 (vS x j) ∧ q = .slice Aq n cq ∧ PRel w2 n (splice l i ((mB x).take j)) Aq cq wr) (fun _ _ t _ => (8 - intOf t).toNat)
  case atStart => exact ⟨0, A, c, by omega, rfl, rfl, rfl, HM2.out.as (splice_nil l i).symm, Below.refl _ _⟩
  case round =>
    obtain ⟨j, Aq, cq, hj, rfl, rfl, rfl, HR⟩ := hrel
    by_cases h8 : j = 8
    · subst h8
      have hs1 := (HR.1.as (show splice l i ((mB x).take 8) = splice l i (mB x) by rw [List.take_of_length_le (by rw [mB_length]; omega)])).str
      have hs2 := (H2.out.below HR.2).str
      have HB3 := Lib.hid HR.2
      clear HR
      go_wp2
      go_ret
      exact ⟨rfl, below_then (below_then HB1.out HB2.out) HB3.out⟩
    · have hlt : j < 8 := by omega
      have hv := vS_in HX.out j
      unfold InC at hv
      obtain ⟨hv0, hv1⟩ := hv
      have HA : Hid ((i : Int) + (j : Int) = ((i + j : Nat) : Int)) := show _ = _ by omega
      have HN := Lib.hid (parts_next l i x j hlt (by rw [HL.out]; exact hle))
      have HV : Hid ((((splice l i (mB x)).getD (i + j) 0).toNat : Int) = vS x j % 256) := by
        show _ = _
        rw [parts_byte l i x j hlt (by rw [HL.out]; exact hle), b8_val]
      have HI : Hid (i + j < n) := show _ < _ by omega
      have ha := and255 (vS x j)
      have HRR := Lib.hid HR
      clear HR h8
      go_wp2_with (first
        | (go_at_call 15; refine (putByte_as _ _ _ _ _ _ (i + j) _ _ HA.out HN.out hn HRR.out.1 HI.out).mono ?_; rintro e w3 ⟨A3, c3, rfl, hm3, hb3⟩; have H3 := Lib.hid hm3; have HB3 := Lib.hid (below_then HRR.out.2 hb3); clear hm3 hb3)
        | (go_at_call 16; refine (byte_as _ _ _ _ _ _ (i + j) _ HA.out HV.out hn (H2.out.below HB3.out) HI.out).mono ?_; rintro e w' ⟨rfl, rfl⟩))
      go_roundw
      case rel => exact ⟨j + 1, A3, c3, by omega, by go_num, rfl, rfl, H3.out, HB3.out⟩
      case measure => simp [intOf]; omega
set_option maxHeartbeats 1000000 in
theorem memParts_walk (a x : Int) (hm : Mem w A n c l) (ha : InC a) (hx : InC x) :
    Calls Try.prog 6 #[.slice A n c, .int .i64 a, .int .i64 x] w fun e w' => e = .returned (.bool true) ∧ Below w.heap.size w w' := by
  by_cases h2 : n ≤ 2000
  · by_cases hE : mE n a = 0
    · obtain ⟨i, rfl, _, _, _⟩ := mE_ok hE
      exact memParts_yes A n c l w i x h2 hm hE hx
    · have hn : n ≤ 1000000 := by omega
      have hd : decide ((2000 : Int) < (n : Int)) = false := decide_eq_false (by omega)
      have h1 : (mE n a != 0) = true := by simp [hE]
      clear hE hm hx
      go_enter Try.func6, Try.ntmps6
      go_wp2_with (first
        | (go_at_call 8; refine (mawake_any _).mono ?_; rintro e w1 ⟨rfl, hb1⟩; have HB1 := Lib.hid hb1; clear hb1)
        | (go_at_call 14; refine (put_no _ _ _ _ _ _ hn ha h1).mono ?_; rintro e w' ⟨rfl, rfl⟩))
      go_ret
      exact ⟨rfl, HB1.out⟩
  · have hd : decide ((2000 : Int) < (n : Int)) = true := decide_eq_true (by omega)
    clear hm hx ha
    go_enter Try.func6, Try.ntmps6
    go_wp2_with (go_at_call 8; refine (mawake_any _).mono ?_; rintro e w1 ⟨rfl, hb1⟩; have HB1 := Lib.hid hb1; clear hb1)
    go_ret
    exact ⟨rfl, HB1.out⟩
end
end Go.Proofs.Ytkdpefkllchadaa
