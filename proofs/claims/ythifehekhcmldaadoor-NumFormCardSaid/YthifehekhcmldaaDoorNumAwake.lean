/-
  What Parse answers, said as the statements ask for it; the document's example (the call awake of the statements).
-/
import Derived.Test.YthifehekhcmldaaDoorNumParse
namespace Go.Proofs.YthifehekhcmldaaDoor
open Go.RowKit

/-- One cell, and true. -/
def One (w : World) (x : Int) (e : Ending) (w' : World) : Prop := ∃ N o c : Nat, e = .returned (.tuple #[.slice (some ⟨N, o, none⟩) 1 c, .bool true]) ∧ N < w'.heap.size ∧ w'.cell? ⟨N, o, none⟩ = some (.int .i64 x) ∧ Keeps w w'
/-- Two cells, and true. -/
def Two (w : World) (x y : Int) (e : Ending) (w' : World) : Prop := ∃ N o c : Nat, e = .returned (.tuple #[.slice (some ⟨N, o, none⟩) 2 c, .bool true]) ∧ N < w'.heap.size ∧ w'.cell? ⟨N, o, none⟩ = some (.int .i64 x) ∧ w'.cell? ⟨N, o + 1, none⟩ = some (.int .i64 y) ∧ Keeps w w'
/-- Nothing, and false. -/
def Non (w : World) (e : Ending) (w' : World) : Prop := ∃ A c, e = .returned (.tuple #[.slice A 0 c, .bool false]) ∧ Keeps w w'
theorem parse_one (l : List UInt8) (b x : Int) (S : ByteArray) (hS : S = ⟨l.toArray⟩) (hB : pB b l = true) (hL : pL b l = [x]) (hm : l.length ≤ 100000) (w : World) (hT : Tabs w) :
    Calls Tryd.prog 10 #[.string S, .int .i64 b] w (One w x) := by
  subst hS
  refine (parse_any l b w hT (by omega)).mono ?_
  rintro e w' ⟨A, n, c, rfl, hs, hk⟩
  rw [hL] at hs
  obtain rfl : n = 1 := hs.len.symm
  obtain ⟨N, o, rfl, hN, hc⟩ := hs.at_ 0 (by omega)
  exact ⟨N, o, c, by rw [hB], hN, hc, hk⟩
theorem parse_two (l : List UInt8) (b x y : Int) (S : ByteArray) (hS : S = ⟨l.toArray⟩) (hB : pB b l = true) (hL : pL b l = [x, y]) (hm : l.length ≤ 100000) (w : World) (hT : Tabs w) :
    Calls Tryd.prog 10 #[.string S, .int .i64 b] w (Two w x y) := by
  subst hS
  refine (parse_any l b w hT (by omega)).mono ?_
  rintro e w' ⟨A, n, c, rfl, hs, hk⟩
  rw [hL] at hs
  obtain rfl : n = 2 := hs.len.symm
  obtain ⟨N, o, rfl, hN, hc⟩ := hs.at_ 0 (by omega)
  obtain ⟨N', o', e', _, hc'⟩ := hs.at_ 1 (by omega)
  cases e'
  exact ⟨N, o, c, by rw [hB], hN, hc, hc', hk⟩
theorem pL_none {b : Int} {l : List UInt8} (h : pB b l = false) : pL b l = [] := by
  unfold pB at h; unfold pL
  split at h
  · rename_i hq; rw [if_pos hq, h]; rfl
  · rename_i hq; rw [if_neg hq, h]; rfl
theorem parse_non (l : List UInt8) (b : Int) (S : ByteArray) (hS : S = ⟨l.toArray⟩) (hB : pB b l = false) (hm : l.length ≤ 100000) (w : World) (hT : Tabs w) :
    Calls Tryd.prog 10 #[.string S, .int .i64 b] w (Non w) := by
  subst hS
  refine (parse_any l b w hT (by omega)).mono ?_
  rintro e w' ⟨A, n, c, rfl, hs, hk⟩
  rw [pL_none hB] at hs
  obtain rfl : n = 0 := hs.len.symm
  exact ⟨A, c, by rw [hB], hk⟩

theorem aw_B : pB 10 [36, 45, 70, 70, 46] = true := by decide +kernel
theorem aw_L : pL 10 [36, 45, 70, 70, 46] = [-255, -1] := by decide +kernel
theorem aw_T : dTx 16 (-255) = [45, 70, 70] := by
  unfold dTx
  rw [if_pos (by decide), if_pos (by decide)]
  show 45 :: uT 16 255 = _
  rw [uT_more (by decide) (by decide), uT_small (by decide)]
  decide +kernel
theorem aw_U : uTx 2 5 = [49, 48, 49] := by
  unfold uTx
  rw [if_pos (by decide)]
  show uT 2 5 = _
  rw [uT_more (by decide) (by decide), show 5 / 2 = 2 from rfl, uT_more (by decide) (by decide), uT_small (by decide)]
  decide +kernel
set_option maxHeartbeats 400000 in
theorem awake_any (w : World) (hT : Tabs w) :
    Calls Tryd.prog 9 #[] w fun e w' => e = .returned (.bool true) ∧ Keeps w w' := by
  have HP := Lib.hid (parse_two [36, 45, 70, 70, 46] 10 (-255) (-1) ⟨#[36, 45, 70, 70, 46]⟩ rfl aw_B aw_L (by decide) w hT)
  have HX := Lib.hid (text_is (-255) 16 (by unfold InC; omega) ⟨#[45, 70, 70]⟩ (by rw [aw_T]))
  have HU := Lib.hid (utext_is 5 2 (by unfold InC; omega) ⟨#[49, 48, 49]⟩ (by rw [aw_U]))
  clear hT
  go_enter Tryd.func9, Tryd.ntmps9
  go_wp2_with (first
    | (go_at_call 10; refine HP.out.mono ?_; rintro e w1 ⟨N, o, c, rfl, hN, c0, c1, hk⟩)
    | (go_at_call 11; refine (HX.out _).mono ?_; rintro e w2 ⟨rfl, hw2⟩)
    | (go_at_call 12; refine (HU.out _).mono ?_; rintro e w3 ⟨rfl, hw3⟩))
  go_ret
  exact ⟨rfl, (hk.trans hw2).trans hw3⟩
end Go.Proofs.YthifehekhcmldaaDoor
