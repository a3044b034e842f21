/-
  The call of the statement PicHolds answers true at every bytes; of what was there nothing has changed.
-/
import Derived.Test.YticeeckahdjjmaaPicAwake
namespace Go.Proofs.Yticeeckahdjjmaa
open Go.RowKit

/-- What is held of so many bytes: the last one first, as many as fit. -/
def hdW (l : List UInt8) (k : Nat) : List UInt8 := ((l.take k).take 96).reverse
theorem hdW_length (l : List UInt8) (k : Nat) (hk : k ≤ l.length) : (hdW l k).length = min k 96 := by unfold hdW; simp; omega
theorem hdW_next (l : List UInt8) (k : Nat) (hk : k < l.length) (h : k < 96) : hdW l (k + 1) = l[k] :: hdW l k := by
  unfold hdW
  rw [List.take_take, List.take_take, Nat.min_eq_right (by omega), Nat.min_eq_right (by omega), List.take_succ_eq_append_getElem hk]
  simp
theorem hdW_same (l : List UInt8) (k : Nat) (h : 96 ≤ k) : hdW l (k + 1) = hdW l k := by
  unfold hdW
  rw [List.take_take, List.take_take, Nat.min_eq_left (by omega), Nat.min_eq_left (by omega)]
theorem b8_u8 (a : UInt8) : b8 (a.toNat : Int) = a := b8_of _ _ (by have := u8_lt a; omega)
/-- What holds at each round's head. -/
def HoSt (w : World) (l : List UInt8) (k : Nat) (x s : Value) (wr : World) : Prop :=
  ∃ (A1 : Option Addr) (c1 : Nat) (S : ByteArray), x = .slice A1 128 c1 ∧ s = .string S ∧ S = ⟨(hdW l k).toArray⟩ ∧ Mem wr A1 128 c1 (piM 10 (hdW l k)) ∧ Keeps w wr
theorem conv1 (a : UInt8) (W : World) : (convert 22 9 (.slice (some ⟨W.heap.size, 0, none⟩) 1 1)).run Try.prog (W.alloc (.cells #[.int .u8 (a.toNat : Int)] 5)) =
    .ok (.string ⟨#[a]⟩) (W.alloc (.cells #[.int .u8 (a.toNat : Int)] 5)) :=
  (Mem.of_block (l := [a]) (t := 5) (heap_alloc_new W _)).str
theorem hold_in (b c : Int) (W : List UInt8) (hW : W.length < 96) (L : List UInt8) (hL : piM b (b8 c :: W) = L) (A : Option Addr) (q : Nat) (w : World) (h : Mem w A 128 q (piM b W)) :
    Calls Try.prog 10 #[.slice A 128 q, .int .i64 0, .int .i64 c] w (HoldPost w 128 L 0) := by
  subst hL
  exact phold_is A 128 q _ w 0 c 0 _ (by decide) h (piM_hE b hW) (piM_hL b c hW)
theorem hold_full (b c : Int) (W : List UInt8) (hW : W.length = 96) (A : Option Addr) (q : Nat) (w : World) (h : Mem w A 128 q (piM b W)) :
    Calls Try.prog 10 #[.slice A 128 q, .int .i64 0, .int .i64 c] w (HoldPost w 128 (piM b W) (-17)) := by
  have e0 := piM_full b hW
  exact phold_is A 128 q _ w 0 c (-17) _ (by decide) h e0 (by unfold hL; rw [e0]; rfl)
section
variable (A : Option Addr) (n c : Nat) (l : List UInt8) (w : World)
set_option maxHeartbeats 1000000 in
theorem holds_in (hn : n ≤ 200) (hm : Mem w A n c l) :
    Calls Try.prog 5 #[.slice A n c] w fun e w' => e = .returned (.bool true) ∧ Keeps w w' := by
  have d0 : decide ((200 : Int) < (n : Int)) = false := decide_eq_false (by omega)
  have HL := Lib.hid hm.len
  have HM := Lib.hid hm
  clear hm
  go_enter Try.func5, Try.ntmps5
  go_wp2_with (first
    | (go_at_call 7; refine (pawake_any _).mono ?_; rintro e w1 ⟨rfl, hk1⟩; have HK1 := Lib.hid hk1; clear hk1)
    | (go_at_call 22; refine (ready_any 10 _).mono ?_; rintro e w2 ⟨A2, c2, rfl, hm2, hk2⟩; have H2 := Lib.hid hm2; have HK2 := Lib.hid (HK1.out.trans hk2); clear hm2 hk2))
  go_loopw [4, 5, 6] (fun x s i wr => ∃ k : Nat, k ≤ n ∧ i = .int .i64 k ∧ HoSt w l k x s wr) (fun _ _ i _ => ((n : Int) - intOf i).toNat)
  case atStart => exact ⟨0, by omega, rfl, A2, c2, _, rfl, rfl, rfl, H2.out, HK2.out⟩
  case round =>
    obtain ⟨k, hk, rfl, A1, c1, S, rfl, rfl, hS, hm1, hkw⟩ := hrel
    by_cases hkn : k < n
    · obtain ⟨b, o, rfl, hb, hcell⟩ := (HM.out.keeps hkw).2.2 (by omega)
      have hkl : k < l.length := by rw [HL.out]; exact hkn
      have hc := hcell k hkl
      have d1 : decide ((k : Int) < (n : Int)) = true := decide_eq_true (by omega)
      have hv := u8_lt l[k]
      have v0 : (0 : Int) ≤ (l[k].toNat : Int) := by omega
      have v1 : (l[k].toNat : Int) ≤ 255 := by omega
      have HKW := Lib.hid hkw
      have HM1 := Lib.hid hm1
      by_cases h96 : k < 96
      · have d2 : decide ((96 : Int) ≤ (k : Int)) = false := decide_eq_false (by omega)
        have HH := Lib.hid (hold_in 10 (l[k].toNat : Int) (hdW l k) (by rw [hdW_length l k (by omega)]; omega) (piM 10 (hdW l (k + 1))) (by rw [b8_u8, hdW_next l k hkl h96]) A1 c1 wr hm1)
        have hcat : (⟨#[l[k]]⟩ : ByteArray) ++ S = ⟨(hdW l (k + 1)).toArray⟩ := by rw [hS, hdW_next l k hkl h96]; exact ByteArray.mk_append_mk [l[k]] _
        have hsz : S.size ≤ 96 := by rw [hS, size_mk, hdW_length l k (by omega)]; omega
        have hsz2 : ¬ 9223372036854775807 < (⟨#[l[k]]⟩ : ByteArray).size + S.size := by show ¬ 9223372036854775807 < 1 + S.size; omega
        obtain ⟨S3, hS3⟩ : ∃ S3 : ByteArray, S3 = ⟨(hdW l (k + 1)).toArray⟩ := ⟨_, rfl⟩
        rw [← hS3] at hcat
        have HS3 := Lib.hid hS3
        have hc1 := conv1 l[k]
        generalize l[k] = z at *
        clear hS hsz hcell hkw hm1 hv hS3
        go_wp2_with (go_at_call 10; refine HH.out.mono ?_; rintro e w5 ⟨A5, c5, rfl, hm5, hk5⟩; have H5 := Lib.hid hm5; have HK5 := Lib.hid (HKW.out.trans hk5); have hc5 := hk5.cell_some hb hc; have hb5 := Nat.lt_of_lt_of_le hb hk5.size; clear hm5 hk5)
        go_roundw
        case rel => exact ⟨k + 1, by omega, by go_num, A5, c5, S3, rfl, rfl, HS3.out, H5.out.alloc _, HK5.out.alloc _⟩
        case measure => simp [intOf]; omega
      · have d2 : decide ((96 : Int) ≤ (k : Int)) = true := decide_eq_true (by omega)
        have HH := Lib.hid (hold_full 10 (l[k].toNat : Int) (hdW l k) (by rw [hdW_length l k (by omega)]; omega) A1 c1 wr hm1)
        have hsame := hdW_same l k (by omega)
        have HS : Hid (S = ⟨(hdW l (k + 1)).toArray⟩) := Lib.hid (by rw [hsame]; exact hS)
        obtain ⟨T, hT⟩ : ∃ T : ByteArray, T = ⟨(piM 10 (hdW l k)).toArray⟩ := ⟨_, rfl⟩
        have HT := Lib.hid hT
        have HX : Hid (Mem wr A1 128 c1 (piM 10 (hdW l (k + 1)))) := Lib.hid (by rw [hsame]; exact hm1)
        generalize l[k] = z at *
        clear hS hcell hkw hm1 hv hsame hT
        go_wp2_with (go_at_call 10; refine HH.out.mono ?_; rintro e w5 ⟨A5, c5, rfl, hm5, hk5⟩; have hs1 := hm5.str; have hs2 := (HM1.out.keeps hk5).str; rw [← HT.out] at hs1 hs2; have HX5 := Lib.hid (HX.out.keeps hk5); have HK5 := Lib.hid (HKW.out.trans hk5); clear hm5 hk5)
        go_roundw
        case rel => exact ⟨k + 1, by omega, by go_num, A1, c1, S, rfl, rfl, HS.out, HX5.out, HK5.out⟩
        case measure => simp [intOf]; omega
    · obtain rfl : k = n := by omega
      have d1 : decide ((k : Int) < (k : Int)) = false := decide_eq_false (by omega)
      have hlen : (hdW l k).length ≤ 96 := by rw [hdW_length l k (by rw [HL.out]; exact Nat.le_refl _)]; omega
      obtain ⟨p, hp⟩ : ∃ p, 128 - (hdW l k).length = p := ⟨_, rfl⟩
      obtain ⟨m, hm⟩ : ∃ m, (hdW l k).length = m := ⟨_, rfl⟩
      have HE : Hid (Calls Try.prog 18 #[.slice A1 128 c1, .int .i64 0] wr fun e w' => e = .returned (.tuple #[.int .i64 (p : Int), .int .i64 (m : Int), .int .i64 0]) ∧ wr = w') := Lib.hid (by
        have h1 := pend_any A1 128 c1 _ wr 0 (by decide) hm1
        rw [piM_nH _ hlen, piM_nN _ hlen, piM_nE _ hlen, show (128 - ((hdW l k).length : Int)) = (p : Int) by omega, hm] at h1
        exact h1)
      have HT : Hid (Calls Try.prog 24 #[.slice A1 128 c1, .int .i64 (p : Int), .int .i64 (m : Int)] wr fun e w' => e = .returned (.tuple #[.string S, .int .i64 0]) ∧ wr = w') := Lib.hid (by
        have h1 := text_yes A1 128 c1 _ wr p m (by decide) hm1 (by omega)
        have h2 := piM_text 10 hlen
        rw [hp, hm] at h2
        rw [h2, ← hS] at h1
        exact h1)
      have hsum : (p : Int) + (m : Int) = 128 := by omega
      have hsum2 : wrap64 ((p : Int) + (m : Int)) = 128 := by rw [hsum]; unfold wrap64; omega
      have HKW := Lib.hid hkw
      clear hS hm1 hlen hp hm hkw
      go_wp2_with (first
        | (go_at_call 18; refine HE.out.mono ?_; rintro e w' ⟨rfl, rfl⟩)
        | (go_at_call 24; refine HT.out.mono ?_; rintro e w' ⟨rfl, rfl⟩))
      go_ret
      exact ⟨rfl, HKW.out⟩
theorem holds_out (hn : 200 < n) :
    Calls Try.prog 5 #[.slice A n c] w fun e w' => e = .returned (.bool true) ∧ Keeps w w' := by
  have d0 : decide ((200 : Int) < (n : Int)) = true := decide_eq_true (by omega)
  go_enter Try.func5, Try.ntmps5
  go_wp2_with (go_at_call 7; refine (pawake_any _).mono ?_; rintro e w1 ⟨rfl, hk1⟩; have HK1 := Lib.hid hk1; clear hk1)
  go_ret
  exact ⟨rfl, HK1.out⟩
theorem picHolds_walk (hm : Mem w A n c l) :
    Calls Try.prog 5 #[.slice A n c] w fun e w' => e = .returned (.bool true) ∧ Keeps w w' := by
  by_cases h : n ≤ 200
  · exact holds_in A n c l w h hm
  · exact holds_out A n c w (by omega)
end
end Go.Proofs.Yticeeckahdjjmaa
