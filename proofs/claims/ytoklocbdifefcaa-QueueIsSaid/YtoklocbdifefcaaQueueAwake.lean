/-
  The document's example of layer 16, as the statements ask for it: awake answers true; and whether lists of numbers are the same (tenterhookref04.Same): true of the same list. What the calls answer at a queue that may be, in letters.
-/
import Derived.Test.YtoklocbdifefcaaQueueIds
import Derived.Deep.QuietTactic
namespace Go.Proofs.Ytoklocbdifefcaa
open Go.RowKit

theorem put_at (N : Int) (A : Option Addr) (n c : Nat) (l : List It) (d p : Int) (N2 : Int) (l2 : List It) (b : Bool) (w : World) (hs : Sq N l) (h1 : puN N l d p = N2) (h2 : puL N l d p = l2) (h3 : puB N l d p = b) (h : Its w A n c l) :
    Calls Try.prog 9 #[.agg #[.int .i64 N, .slice A n c], .int .i64 d, .int .i64 p] w (Q2Post A n N2 l2 b w) := by
  have := put_is N A n c l d p w (by have := hs.2.1; rw [h.len] at this; omega) h
  rw [tkN_ok hs, tkL_ok hs, h1, h2, h3] at this
  exact this
theorem nth_at (N : Int) (A : Option Addr) (n c : Nat) (l : List It) (z : Int) (l2 : List It) (d : Int) (b : Bool) (w : World) (hs : Sq N l) (h1 : nthL l z = l2) (h2 : nthD l z = d) (h3 : nthB l = b) (h : Its w A n c l) :
    Calls Try.prog 12 #[.agg #[.int .i64 N, .slice A n c], .int .i64 z] w (Q3Post A n N l2 d b w) := by
  have := nth_is N A n c l z w (by have := hs.2.1; rw [h.len] at this; omega) h
  rw [tkN_ok hs, tkL_ok hs, h1, h2, h3] at this
  exact this
theorem take_at (N : Int) (A : Option Addr) (n c : Nat) (l : List It) (l2 : List It) (d : Int) (b : Bool) (w : World) (hs : Sq N l) (h1 : nthL l 0 = l2) (h2 : nthD l 0 = d) (h3 : nthB l = b) (h : Its w A n c l) :
    Calls Try.prog 14 #[.agg #[.int .i64 N, .slice A n c]] w (Q3Post A n N l2 d b w) := by
  have := take_is N A n c l w (by have := hs.2.1; rw [h.len] at this; omega) h
  rw [tkN_ok hs, tkL_ok hs, h1, h2, h3] at this
  exact this
theorem drop_at (N : Int) (A : Option Addr) (n c : Nat) (l : List It) (d : Int) (l2 : List It) (b : Bool) (w : World) (hs : Sq N l) (h1 : drL l d = l2) (h2 : drB l d = b) (h : Its w A n c l) :
    Calls Try.prog 16 #[.agg #[.int .i64 N, .slice A n c], .int .i64 d] w (Q2Post A n N l2 b w) := by
  have := drop_is N A n c l d w (by have := hs.2.1; rw [h.len] at this; omega) h
  rw [tkN_ok hs, tkL_ok hs, h1, h2] at this
  exact this
theorem ids_at (N : Int) (A : Option Addr) (n c : Nat) (l : List It) (k : List Int) (w : World) (hs : Sq N l) (h1 : idL l = k) (h : Its w A n c l) :
    Calls Try.prog 21 #[.agg #[.int .i64 N, .slice A n c]] w (IdPost k w) := by
  have := ids_is N A n c l w (by have := hs.2.1; rw [h.len] at this; omega) h
  rw [tkL_ok hs, h1] at this
  exact this
theorem sane_at (N : Int) (A : Option Addr) (n c : Nat) (l : List It) (w : World) (hs : Sq N l) (h : Its w A n c l) :
    Calls Try.prog 23 #[.agg #[.int .i64 N, .slice A n c]] w fun e w' => e = .returned (.bool true) ∧ Below w.heap.size w w' :=
  sane_is N A n c l true w (by have := hs.2.1; rw [h.len] at this; omega) h (decide_eq_true hs)
set_option maxHeartbeats 1000000 in
/-- Lists that are the same. -/
theorem same4_any (A B : Option Addr) (n c m d : Nat) (l : List Int) (w : World) (hn : n ≤ 10000) (h1 : Stk w A n c l) (h2 : Stk w B m d l) :
    Calls Try.prog 20 #[.slice A n c, .slice B m d] w fun e w' => e = .returned (.bool true) ∧ Below w.heap.size w w' := by
  obtain rfl : n = m := h1.len.symm.trans h2.len
  have H1 := Lib.hid h1
  have H2 := Lib.hid h2
  clear h1 h2
  go_enter Try.func20, Try.ntmps20
  go_wp2
  go_loopw [5] (fun i wr => ∃ k j : Nat, k ≤ n ∧ i = .int .i64 k ∧ wr = w.drewN j) (fun i _ => ((n : Int) - intOf i).toNat)
  case atStart => exact ⟨0, 0, by omega, rfl, rfl⟩
  case round =>
    obtain ⟨k, j, hk, rfl, rfl⟩ := hrel
    by_cases h8 : k < n
    · obtain ⟨b1, o1, rfl, _, hc1⟩ := H1.out.at_ k h8
      obtain ⟨b2, o2, rfl, _, hc2⟩ := H2.out.at_ k h8
      have hk0 : (0 : Int) ≤ (k : Int) := by omega
      have hkn : (k : Int) < (n : Int) := by omega
      generalize l.getD k 0 = V at *
      have hV : (V != V) = false := by simp
      go_wp2
      go_quiet (fail)
      go_wp2
      go_roundw
      case rel => exact ⟨k + 1, _, by omega, by go_num, rfl⟩
      case measure => simp [intOf]; omega
    · go_wp2
      go_ret
      exact ⟨rfl, below_drewN (Below.refl _ _) j⟩
def aw1 : List It := [⟨3, 1, 0⟩]
def aw2 : List It := [⟨5, 2, 1⟩, ⟨3, 1, 0⟩]
def aw3 : List It := [⟨5, 2, 1⟩, ⟨4, 2, 2⟩, ⟨3, 1, 0⟩]
theorem aw_s1 : Sq 1 aw1 := by decide
theorem aw_s2 : Sq 2 aw2 := by decide
theorem aw_s3 : Sq 3 aw3 := by decide
theorem stk_three (w : World) (t : TypeId) (a b c : Int) (g : Nat) (hg : w.heap.size = g) : Stk (w.alloc (.cells #[.int .i64 a, .int .i64 b, .int .i64 c] t)) (some ⟨g, 0, none⟩) 3 3 [a, b, c] := by
  subst hg
  refine ⟨rfl, Nat.le_refl _, fun _ => ⟨_, 0, rfl, by simp, fun j hj => ?_⟩, fun h => by cases h⟩
  rw [Nat.zero_add, cell_of_row _ _ j _ t (0, 0) (heap_alloc_new w _)]
  match j, hj with
  | 0, _ => rfl
  | 1, _ => rfl
  | 2, _ => rfl
theorem aw_put1 (w : World) : Calls Try.prog 9 #[.agg #[.int .i64 0, .slice none 0 0], .int .i64 3, .int .i64 1] w (Q2Post none 0 1 aw1 true w) :=
  put_at 0 none 0 0 [] 3 1 1 aw1 true w (sq_nil (by decide)) (by decide) (by decide) (by decide) Its.nil
theorem aw_put2 (A : Option Addr) (n c : Nat) (w : World) (h : Its w A n c aw1) : Calls Try.prog 9 #[.agg #[.int .i64 1, .slice A n c], .int .i64 5, .int .i64 2] w (Q2Post A n 2 aw2 true w) :=
  put_at 1 A n c aw1 5 2 2 aw2 true w aw_s1 (by decide) (by decide) (by decide) h
theorem aw_put3 (A : Option Addr) (n c : Nat) (w : World) (h : Its w A n c aw2) : Calls Try.prog 9 #[.agg #[.int .i64 2, .slice A n c], .int .i64 4, .int .i64 2] w (Q2Post A n 3 aw3 true w) :=
  put_at 2 A n c aw2 4 2 3 aw3 true w aw_s2 (by decide) (by decide) (by decide) h
theorem aw_ids (A : Option Addr) (n c : Nat) (w : World) (h : Its w A n c aw3) : Calls Try.prog 21 #[.agg #[.int .i64 3, .slice A n c]] w (IdPost [5, 4, 3] w) := ids_at 3 A n c aw3 _ w aw_s3 (by decide) h
theorem aw_sane (A : Option Addr) (n c : Nat) (w : World) (h : Its w A n c aw3) : Calls Try.prog 23 #[.agg #[.int .i64 3, .slice A n c]] w fun e w' => e = .returned (.bool true) ∧ Below w.heap.size w w' := sane_at 3 A n c aw3 w aw_s3 h
set_option maxHeartbeats 1000000 in
theorem awake_any (w : World) : Calls Try.prog 8 #[] w fun e w' => e = .returned (.bool true) ∧ Below w.heap.size w w' := by
  go_enter Try.func8, Try.ntmps8
  go_upto_region 2 with (go_at_call 9; (with_reducible refine (aw_put1 _).mono ?_); rintro e w1 ⟨A1, n1, c1, rfl, h1, hb, -⟩; have B1 := Lib.hid hb; have H1 := Lib.hid h1; clear hb h1)
  go_upto_region 3 with (go_at_call 9; (with_reducible refine (aw_put2 A1 n1 c1 _ (H1.out.alloc _)).mono ?_); rintro e w2 ⟨A2, n2, c2, rfl, h2, hb, -⟩; have B2 := Lib.hid (below_then (B1.out.alloc B1.out.size _) hb); have H2 := Lib.hid h2; clear hb h2)
  go_upto_region 4 with (go_at_call 9; (with_reducible refine (aw_put3 A2 n2 c2 _ (H2.out.alloc _)).mono ?_); rintro e w3 ⟨A3, n3, c3, rfl, h3, hb, -⟩; have B3 := Lib.hid ((below_then (B2.out.alloc B2.out.size _) hb).alloc (below_then (B2.out.alloc B2.out.size _) hb).size (.cells #[.int .i64 3, .slice A3 n3 c3] 28)); have H3 := Lib.hid (h3.alloc (.cells #[.int .i64 3, .slice A3 n3 c3] 28)); have X3 := Lib.hid (Qv.new w3 28 3 A3 n3 c3); clear hb h3)
  have q0 := X3.out.c0
  have q1 := X3.out.c1
  generalize w3.alloc (.cells #[.int .i64 3, .slice A3 n3 c3] 28) = W3 at *
  go_wp2_with (first
    | (go_at_call 21; (with_reducible refine (aw_ids A3 n3 c3 _ H3.out).mono ?_); rintro e w4 ⟨A4, n4, c4, rfl, h4, hb⟩; have B4 := Lib.hid ((below_then B3.out hb).alloc (below_then B3.out hb).size (.cells #[.int .i64 5, .int .i64 4, .int .i64 3] 3)); have H4 := Lib.hid ((H3.out.below hb).alloc (.cells #[.int .i64 5, .int .i64 4, .int .i64 3] 3)); have K4 := Lib.hid (h4.alloc (.cells #[.int .i64 5, .int .i64 4, .int .i64 3] 3)); have X4 := Lib.hid ((X3.out.keep hb).alloc (.cells #[.int .i64 5, .int .i64 4, .int .i64 3] 3)); have hn4 : n4 ≤ 10000 := (by have := h4.len; simp at this; omega); clear hb h4)
    | (go_at_call 20; (with_reducible refine (same4_any A4 _ n4 c4 _ _ [5, 4, 3] _ hn4 K4.out (stk_three w4 3 5 4 3 _ rfl)).mono ?_); rintro e w5 ⟨rfl, hb⟩; have B5 := Lib.hid (below_then B4.out hb); have H5 := Lib.hid (H4.out.below hb); have X5 := X4.out.keep hb; have p0 := X5.c0; have p1 := X5.c1; clear hb X5)
    | (go_at_call 23; (with_reducible refine (aw_sane A3 n3 c3 _ H5.out).mono ?_); rintro e w6 ⟨rfl, hb⟩; have B6 := Lib.hid (below_then B5.out hb); clear hb))
  go_ret
  exact ⟨rfl, B6.out⟩
end Go.Proofs.Ytoklocbdifefcaa
