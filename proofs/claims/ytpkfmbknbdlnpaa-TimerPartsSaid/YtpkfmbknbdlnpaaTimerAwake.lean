/-
  The document's example of layer 17, as the statements ask for it: awake answers true. What the calls answer at a list that may be, in letters.
-/
import Derived.Test.YtpkfmbknbdlnpaaTimerSays
import Derived.Test.YtpkfmbknbdlnpaaSameInts
import Derived.Deep.Cut
namespace Go.Proofs.Ytpkfmbknbdlnpaa
open Go.RowKit

theorem sn_le {w : World} {A : Option Addr} {n c : Nat} {l : List Np} (hs : Sn l) (h : Nps w A n c l) : n ≤ 4611686018427387904 := by have := hs.1; rw [h.len] at this; omega
theorem tput_at (A : Option Addr) (n c : Nat) (l : List Np) (d t : Int) (l2 : List Np) (b : Bool) (w : World) (hs : Sn l) (h1 : pnL l d t = l2) (h2 : pnB l d t = b) (h : Nps w A n c l) :
    Calls Try.prog 8 #[.slice A n c, .int .i64 d, .int .i64 t] w (NBPost l2 b w) := by
  have := tput_is A n c l d t w (sn_le hs h) h
  rw [tn_ok hs, h1, h2] at this
  exact this
theorem tdue_at (A : Option Addr) (n c : Nat) (l : List Np) (t : Int) (l2 : List Np) (k : List Int) (w : World) (hs : Sn l) (h1 : ovL l t = l2) (h2 : niL (upL l t) = k) (h : Nps w A n c l) :
    Calls Try.prog 11 #[.slice A n c, .int .i64 t] w (NIPost l2 k w) := by
  have := tdue_is A n c l t w (sn_le hs h) h
  rw [tn_ok hs, h1, h2] at this
  exact this
theorem tdrop_at (A : Option Addr) (n c : Nat) (l : List Np) (d : Int) (l2 : List Np) (b : Bool) (w : World) (hs : Sn l) (h1 : dpL l d = l2) (h2 : dpB l d = b) (h : Nps w A n c l) :
    Calls Try.prog 13 #[.slice A n c, .int .i64 d] w (NBPost l2 b w) := by
  have := tdrop_is A n c l d w (sn_le hs h) h
  rw [tn_ok hs, h1, h2] at this
  exact this
theorem tnext_at (A : Option Addr) (n c : Nat) (l : List Np) (x : Int) (b : Bool) (w : World) (hs : Sn l) (h1 : neI l = x) (h2 : neB l = b) (h : Nps w A n c l) :
    Calls Try.prog 15 #[.slice A n c] w fun e w' => e = .returned (.tuple #[.int .i64 x, .bool b]) ∧ Below w.heap.size w w' := by
  have := tnext_is A n c l w (sn_le hs h) h
  rw [tn_ok hs, h1, h2] at this
  exact this
theorem tsane_at (A : Option Addr) (n c : Nat) (l : List Np) (w : World) (hs : Sn l) (h : Nps w A n c l) :
    Calls Try.prog 20 #[.slice A n c] w fun e w' => e = .returned (.bool true) ∧ Below w.heap.size w w' := tsane_is A n c l true w (sn_le hs h) h (decide_eq_true hs)
def ta1 : List Np := [⟨1, 5⟩]
def ta2 : List Np := [⟨2, 3⟩, ⟨1, 5⟩]
theorem ta_s1 : Sn ta1 := by decide
theorem ta_s2 : Sn ta2 := by decide
theorem ta_put1 (w : World) : Calls Try.prog 8 #[.slice none 0 0, .int .i64 1, .int .i64 5] w (NBPost ta1 true w) := tput_at none 0 0 [] 1 5 ta1 true w sn_nil (by decide) (by decide) Nps.nil
theorem ta_put2 (A : Option Addr) (n c : Nat) (w : World) (h : Nps w A n c ta1) : Calls Try.prog 8 #[.slice A n c, .int .i64 2, .int .i64 3] w (NBPost ta2 true w) := tput_at A n c ta1 2 3 ta2 true w ta_s1 (by decide) (by decide) h
theorem ta_due (A : Option Addr) (n c : Nat) (w : World) (h : Nps w A n c ta2) : Calls Try.prog 11 #[.slice A n c, .int .i64 4] w (NIPost ta1 [2] w) := tdue_at A n c ta2 4 ta1 [2] w ta_s2 (by decide) (by decide) h
theorem ta_next (A : Option Addr) (n c : Nat) (w : World) (h : Nps w A n c ta2) : Calls Try.prog 15 #[.slice A n c] w fun e w' => e = .returned (.tuple #[.int .i64 3, .bool true]) ∧ Below w.heap.size w w' := tnext_at A n c ta2 3 true w ta_s2 (by decide) (by decide) h
theorem ta_cell1 {w : World} {A : Option Addr} {n c : Nat} (h : Nps w A n c ta1) : n = 1 ∧ ∃ b o, A = some ⟨b, o, none⟩ ∧ b < w.heap.size ∧ w.cell? ⟨b, o, none⟩ = some (.int .i64 1) := by
  obtain rfl : 1 = n := h.len
  obtain ⟨b, o, rfl, hb, f0, _⟩ := h.at_ 0 (by decide)
  exact ⟨rfl, b, o, rfl, hb, f0⟩
theorem ta_cell2 {w : World} {A : Option Addr} {n c : Nat} (h : Stk w A n c [2]) : n = 1 ∧ ∃ b o, A = some ⟨b, o, none⟩ ∧ b < w.heap.size ∧ w.cell? ⟨b, o, none⟩ = some (.int .i64 2) := by
  obtain rfl : 1 = n := h.len
  obtain ⟨b, o, rfl, hb, f0⟩ := h.at_ 0 (by decide)
  exact ⟨rfl, b, o, rfl, hb, f0⟩
set_option maxHeartbeats 1000000 in
theorem tawake_any (w : World) : Calls Try.prog 7 #[] w fun e w' => e = .returned (.bool true) ∧ Below w.heap.size w w' := by
  go_enter Try.func7, Try.ntmps7
  go_upto_region 2 with (go_at_call 8; (with_reducible refine (ta_put1 _).mono ?_); rintro e w1 ⟨A1, n1, c1, rfl, h1, hb⟩; have B1 := Lib.hid hb; have H1 := Lib.hid h1; clear hb h1)
  go_upto_region 3 with (go_at_call 8; (with_reducible refine (ta_put2 A1 n1 c1 _ H1.out).mono ?_); rintro e w2 ⟨A2, n2, c2, rfl, h2, hb⟩; have B2 := Lib.hid (below_then B1.out hb); have H2 := Lib.hid h2; clear hb h2)
  go_upto_region 4 with (go_at_call 11; (with_reducible refine (ta_due A2 n2 c2 _ H2.out).mono ?_); rintro e w3 ⟨A3, n3, c3, A4, n4, c4, rfl, h3, h4, hb⟩; have B3 := Lib.hid (below_then B2.out hb); have H2 := Lib.hid (H2.out.below hb); have H3 := Lib.hid h3; have H4 := Lib.hid h4; clear hb h3 h4)
  go_upto_region 5 with (go_at_call 15; (with_reducible refine (ta_next A2 n2 c2 _ H2.out).mono ?_); rintro e w4 ⟨rfl, hb⟩; have B4 := Lib.hid (below_then B3.out hb); have H2 := Lib.hid (H2.out.below hb); have H3 := Lib.hid (H3.out.below hb); have H4 := Lib.hid (H4.out.below hb); clear hb)
  obtain ⟨rfl, b3, o3, rfl, hl3, f3⟩ := ta_cell1 H3.out
  obtain ⟨rfl, b4, o4, rfl, hl4, f4⟩ := ta_cell2 H4.out
  go_wp2_with (go_at_call 20; (with_reducible refine (tsane_at A2 n2 c2 ta2 _ ta_s2 H2.out).mono ?_); rintro e w5 ⟨rfl, hb⟩; have B5 := Lib.hid (below_then B4.out hb); clear hb)
  go_ret
  exact ⟨rfl, B5.out⟩
end Go.Proofs.Ytpkfmbknbdlnpaa
