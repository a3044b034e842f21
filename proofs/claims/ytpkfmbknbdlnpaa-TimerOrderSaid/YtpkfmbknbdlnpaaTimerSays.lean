/-
  What package timer answers, as the document asks it.
-/
import Derived.Test.YtpkfmbknbdlnpaaTimerPut
namespace Go.Proofs.Ytpkfmbknbdlnpaa
open Go.RowKit
theorem tput_is (A : Option Addr) (n c : Nat) (l : List Np) (d t : Int) (w : World) (hn : n ≤ 4611686018427387904) (h : Nps w A n c l) :
    Calls Try.prog 8 #[.slice A n c, .int .i64 d, .int .i64 t] w (NBPost (pnL (tnL l) d t) (pnB (tnL l) d t) w) := tput_any A n c l d t w hn h
theorem tdue_is (A : Option Addr) (n c : Nat) (l : List Np) (t : Int) (w : World) (hn : n ≤ 4611686018427387904) (h : Nps w A n c l) :
    Calls Try.prog 11 #[.slice A n c, .int .i64 t] w (NIPost (ovL (tnL l) t) (niL (upL (tnL l) t)) w) := by
  refine (tduew_is A n c l t w hn h).mono ?_
  rintro e w' ⟨A', n', c', B, m, d, rfl, h1, h2, h3, _⟩
  exact ⟨A', n', c', B, m, d, rfl, h1, h2, h3⟩
theorem tdrop_is (A : Option Addr) (n c : Nat) (l : List Np) (d : Int) (w : World) (hn : n ≤ 4611686018427387904) (h : Nps w A n c l) :
    Calls Try.prog 13 #[.slice A n c, .int .i64 d] w (NBPost (dpL (tnL l) d) (dpB (tnL l) d) w) := tdrop_any A n c l d w hn h
theorem tnext_is (A : Option Addr) (n c : Nat) (l : List Np) (w : World) (hn : n ≤ 4611686018427387904) (h : Nps w A n c l) :
    Calls Try.prog 15 #[.slice A n c] w fun e w' => e = .returned (.tuple #[.int .i64 (neI (tnL l)), .bool (neB (tnL l))]) ∧ Below w.heap.size w w' := tnext_any A n c l w hn h
theorem tsane_is (A : Option Addr) (n c : Nat) (l : List Np) (r : Bool) (w : World) (hn : n ≤ 4611686018427387904) (h : Nps w A n c l) (hr : decide (Sn l) = r) :
    Calls Try.prog 20 #[.slice A n c] w fun e w' => e = .returned (.bool r) ∧ Below w.heap.size w w' := tsane_any A n c l r w hn h hr
end Go.Proofs.Ytpkfmbknbdlnpaa
