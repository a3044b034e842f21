/-
  What the call Parse of package num answers: the cells of a text by a base, and whether it is a number.
-/
import Derived.Test.YthifehekhcmldaaDoorNumTexts
namespace Go.Proofs.YthifehekhcmldaaDoor
open Go.RowKit

theorem mkL_len (l : List UInt8) : (mkL l).length ≤ l.length := by unfold mkL; split <;> simp
theorem p2_len (l : List UInt8) : (p2 l).length ≤ l.length := Nat.le_trans (Lib.trimPrefix_le _ _) (mkL_len l)
theorem size_set2 (w : World) (p q : Addr) (u v : Value) : ((w.setCell p u).setCell q v).heap.size = w.heap.size := by simp [World.setCell]
theorem stk_one_set (w : World) (p q : Addr) (u v : Value) (x : Int) : Stk (((w.setCell p u).setCell q v).alloc (.cells #[.int .i64 x] 3)) (some ⟨w.heap.size, 0, none⟩) 1 1 [x] := by
  have h := stk_one ((w.setCell p u).setCell q v) x
  rw [size_set2] at h
  exact h
theorem stk_two_set (w : World) (p q : Addr) (u v : Value) (x y : Int) : Stk (((w.setCell p u).setCell q v).alloc (.cells #[.int .i64 x, .int .i64 y] 3)) (some ⟨w.heap.size, 0, none⟩) 2 2 [x, y] := by
  have h := stk_two ((w.setCell p u).setCell q v) x y
  rw [size_set2] at h
  exact h
theorem stk_one_new (w : World) (o : Obj) (x : Int) : Stk ((w.alloc o).alloc (.cells #[.int .i64 x] 3)) (some ⟨w.heap.size + 1, 0, none⟩) 1 1 [x] := by
  have h := stk_one (w.alloc o) x
  rw [show (w.alloc o).heap.size = w.heap.size + 1 by simp] at h
  exact h
theorem stk_two_new (w : World) (o : Obj) (x y : Int) : Stk ((w.alloc o).alloc (.cells #[.int .i64 x, .int .i64 y] 3)) (some ⟨w.heap.size + 1, 0, none⟩) 2 2 [x, y] := by
  have h := stk_two (w.alloc o) x y
  rw [show (w.alloc o).heap.size = w.heap.size + 1 by simp] at h
  exact h
theorem keeps_neg {w w1 w2 w3 : World} {o : Obj} (hw1 : Keeps w w1) (hw2 : Keeps w1 w2) (hw3 : Grown (w2.alloc o) w3) (u v : Value) : Keeps w ((w3.setCell ⟨w2.heap.size, 0, none⟩ u).setCell ⟨w2.heap.size, 1, none⟩ v) :=
  have h := (hw1.trans hw2).size
  ((((hw1.trans hw2).alloc o).trans (Keeps.of_grown hw3)).setCell h _).setCell h _
theorem parse_quoted (l : List UInt8) (b : Int) (w : World) (hq : qB l = true) :
    Calls Tryd.prog 10 #[.string ⟨l.toArray⟩, .int .i64 b] w (Cells w (pL b l) (pB b l)) := by
  have hl : l.length = 3 := by unfold qB at hq; simp at hq; exact hq.1
  match l, hl with
  | [x, y, z], _ =>
    have e1 : pB b [x, y, z] = baB b := by unfold pB; rw [hq]; rfl
    have e2 : pL b [x, y, z] = if baB b then [(y.toNat : Int)] else [] := by unfold pL; rw [hq]; rfl
    rw [e1, e2]
    have HB := Lib.hid (between_any x y z b)
    generalize (if baB b then [(y.toNat : Int)] else []) = L at HB ⊢
    generalize baB b = V at HB ⊢
    obtain ⟨S, hS⟩ : ∃ S : ByteArray, S = ⟨[x, y, z].toArray⟩ := ⟨_, rfl⟩
    have HQ := Lib.hid (quoted_is [x, y, z] true hq)
    rw [show (⟨#[x, y, z]⟩ : ByteArray) = S from hS.symm] at HB
    rw [← hS] at HQ ⊢
    clear hS hq e1 e2
    go_enter Tryd.func10, Tryd.ntmps10
    go_wp2_with (first
      | (go_at_call 17; refine (HQ.out _).mono ?_; rintro e w' ⟨rfl, rfl⟩)
      | (go_at_call 18; refine (HB.out _).mono ?_; rintro e w1 ⟨A, n, c, rfl, hs, hk⟩))
    go_ret2
    exact ⟨A, n, c, rfl, hs, hk⟩
set_option maxHeartbeats 1000000 in
theorem parse_plain (l : List UInt8) (b : Int) (w : World) (hT : Tabs w) (hm : l.length ≤ 9223372036854775000) (hq : qB l = false) :
    Calls Tryd.prog 10 #[.string ⟨l.toArray⟩, .int .i64 b] w (Cells w (pL b l) (pB b l)) := by
  have h2 := p2_len l
  have HQ := Lib.hid (quoted_is l false hq)
  have HM := Lib.hid (marked_any l b w hT hm)
  have HP := Lib.hid (cutp_any (mkL l) [45])
  have HU := Lib.hid (fun W => cuts_any (p2 l) [46] W (by omega))
  have HN := Lib.hid (number_any (p3 l) (mkB b l))
  change Hid (∀ w, Calls _ _ #[.string ⟨(mkL l).toArray⟩, .string ⟨#[45]⟩] w fun e w' => e = .returned (.tuple #[.string ⟨(p2 l).toArray⟩, .bool (pM l)]) ∧ w = w') at HP
  change Hid (∀ w, Calls _ _ #[.string ⟨(p2 l).toArray⟩, .string ⟨#[46]⟩] w fun e w' => e = .returned (.tuple #[.string ⟨(p3 l).toArray⟩, .bool (pD l)]) ∧ w = w') at HU
  obtain ⟨S, hS⟩ : ∃ S : ByteArray, S = ⟨l.toArray⟩ := ⟨_, rfl⟩
  obtain ⟨S1, hS1⟩ : ∃ S : ByteArray, S = ⟨(mkL l).toArray⟩ := ⟨_, rfl⟩
  obtain ⟨S2, hS2⟩ : ∃ S : ByteArray, S = ⟨(p2 l).toArray⟩ := ⟨_, rfl⟩
  obtain ⟨S3, hS3⟩ : ∃ S : ByteArray, S = ⟨(p3 l).toArray⟩ := ⟨_, rfl⟩
  rw [← hS] at HQ HM ⊢
  rw [← hS1] at HM HP
  rw [← hS2] at HP HU
  rw [← hS3] at HU HN
  have eB : pB b l = nB (mkB b l) (p3 l) := by unfold pB; rw [hq]; rfl
  have eL : pL b l = if nB (mkB b l) (p3 l) then (if pD l then [dLo (pX b l), dHi (pX b l)] else [dLo (pX b l)]) else [] := by unfold pL; rw [hq]; rfl
  have eX : pX b l = if pM l then -nV (mkB b l) (p3 l) else nV (mkB b l) (p3 l) := rfl
  obtain ⟨b1, hb1⟩ : ∃ b1, mkB b l = b1 := ⟨_, rfl⟩
  rw [hb1] at HM HN eB eL eX
  cases hok : nB b1 (p3 l) with
  | false =>
    have e0 : nX b1 (p3 l) = 0 := by unfold nX; rw [hok]; rfl
    rw [hok, e0] at HN
    rw [eB, eL, hok]
    clear hS hS1 hS2 hS3 eB eL eX hok e0 hb1 h2 hq hT
    go_enter Tryd.func10, Tryd.ntmps10
    go_wp2_with (first
      | (go_at_call 17; refine (HQ.out _).mono ?_; rintro e w' ⟨rfl, rfl⟩)
      | (go_at_call 19; refine HM.out.mono ?_; rintro e w1 ⟨rfl, hw1⟩)
      | (go_at_call 20; refine (HP.out _).mono ?_; rintro e w' ⟨rfl, rfl⟩)
      | (go_at_call 21; refine (HU.out _).mono ?_; rintro e w' ⟨rfl, rfl⟩)
      | (go_at_call 22; refine (HN.out _).mono ?_; rintro e w2 ⟨rfl, hw2⟩))
    go_ret2
    exact ⟨_, _, _, rfl, Stk.nil, (hw1.trans hw2).alloc _⟩
  | true =>
    obtain ⟨x, hx⟩ : ∃ x, nV b1 (p3 l) = x := ⟨_, rfl⟩
    have e0 : nX b1 (p3 l) = x := by unfold nX; rw [hok]; exact hx
    rw [hok, e0] at HN
    rw [eB, eL, hok, eX, hx]
    cases hMi : pM l <;> cases hDo : pD l
    all_goals
      rw [hMi] at HP
      rw [hDo] at HU
      clear hS hS1 hS2 hS3 eB eL eX hok e0 hb1 h2 hq hT hMi hDo hx
      go_enter Tryd.func10, Tryd.ntmps10
      go_wp2_with (first
        | (go_at_call 17; refine (HQ.out _).mono ?_; rintro e w' ⟨rfl, rfl⟩)
        | (go_at_call 19; refine HM.out.mono ?_; rintro e w1 ⟨rfl, hw1⟩)
        | (go_at_call 20; refine (HP.out _).mono ?_; rintro e w' ⟨rfl, rfl⟩)
        | (go_at_call 21; refine (HU.out _).mono ?_; rintro e w' ⟨rfl, rfl⟩)
        | (go_at_call 22; refine (HN.out _).mono ?_; rintro e w2 ⟨rfl, hw2⟩)
        | (go_at_call 23; refine (dneg_any x _).mono ?_; rintro e w3 ⟨rfl, hw3⟩; obtain ⟨c0, c1, f0, f1⟩ := resD hw3 (R := w2.heap.size) (by simp) ⟨by simp [go_sem]; rfl, by simp [go_sem]; rfl, by simp [go_sem], by simp [go_sem]⟩))
      go_ret2
      first
        | exact ⟨_, _, _, rfl, stk_one_new _ _ _, (((hw1.trans hw2).alloc _)).alloc _⟩
        | exact ⟨_, _, _, rfl, stk_two_new _ _ _ _, (((hw1.trans hw2).alloc _)).alloc _⟩
        | exact ⟨_, _, _, rfl, stk_one_set _ _ _ _ _ _, (keeps_neg hw1 hw2 hw3 _ _).alloc _⟩
        | exact ⟨_, _, _, rfl, stk_two_set _ _ _ _ _ _ _, (keeps_neg hw1 hw2 hw3 _ _).alloc _⟩
theorem parse_any (l : List UInt8) (b : Int) (w : World) (hT : Tabs w) (hm : l.length ≤ 9223372036854775000) :
    Calls Tryd.prog 10 #[.string ⟨l.toArray⟩, .int .i64 b] w (Cells w (pL b l) (pB b l)) := by
  cases hq : qB l with
  | true => exact parse_quoted l b w hq
  | false => exact parse_plain l b w hT hm hq
end Go.Proofs.YthifehekhcmldaaDoor
