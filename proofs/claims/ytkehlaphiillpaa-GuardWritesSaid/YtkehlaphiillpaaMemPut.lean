/-
  A memory beside worlds in which of what was there nothing has changed (Keeps); Get, Put and PutByte of package mem with letters for what they answer.
-/
import Derived.Test.YtkehlaphiillpaaMemOut
import Derived.Test.YtkehlaphiillpaaKeeps
namespace Go.Proofs.Ytkehlaphiillpaa
open Go.RowKit

theorem Mem.keeps {w w' : World} {A : Option Addr} {n c : Nat} {l : List UInt8} (h : Mem w A n c l) (k : Keeps w w') : Mem w' A n c l := h.keep k.size fun _ _ hb => k.cell hb
/-- A memory is answered with a throw; of what was there nothing has changed. -/
def HoldPost (w : World) (n : Nat) (l : List UInt8) (t : Int) (e : Ending) (w' : World) : Prop := ∃ A c, e = .returned (.tuple #[.slice A n c, .int .i64 t]) ∧ Mem w' A n c l ∧ Keeps w w'
theorem HoldPost.as {w : World} {n : Nat} {l l' : List UInt8} {t t' : Int} {e : Ending} {w' : World} (h : HoldPost w n l t e w') (hl : l = l') (ht : t = t') : HoldPost w n l' t' e w' := by subst hl ht; exact h

section
variable (A : Option Addr) (n c : Nat) (l : List UInt8) (w : World)
theorem get_bad (a t : Int) (hn : n ≤ 1000000) (ha : InC a) (ht : mE n a = t) (h : (t != 0) = true) :
    Calls Try.prog 21 #[.slice A n c, .int .i64 a] w fun e w' => e = .returned (.tuple #[.int .i64 0, .int .i64 t]) ∧ w = w' := by
  subst ht; exact get_no A n c w a hn ha h
theorem get_good (a : Int) (i : Nat) (x : Int) (hn : n ≤ 1000000) (hm : Mem w A n c l) (ha : a = (i : Int)) (h : mE n (i : Int) = 0) (hx : mC (mT l i 8) = x) :
    Calls Try.prog 21 #[.slice A n c, .int .i64 a] w fun e w' => e = .returned (.tuple #[.int .i64 x, .int .i64 0]) ∧ w = w' := by
  subst ha hx; exact get_yes A n c l w i hn hm h
theorem put_good (a : Int) (i : Nat) (x : Int) (l' : List UInt8) (ha : a = (i : Int)) (hl : splice l i (mB x) = l') (hn : n ≤ 1000000) (hm : Mem w A n c l) (h : mE n (i : Int) = 0) :
    Calls Try.prog 24 #[.slice A n c, .int .i64 a, .int .i64 x] w (PutPost w n l') := by
  subst ha hl; exact put_yes A n c l w i x hn hm h
theorem put_bad (a x t : Int) (hn : n ≤ 1000000) (ha : InC a) (ht : mE n a = t) (h : (t != 0) = true) :
    Calls Try.prog 24 #[.slice A n c, .int .i64 a, .int .i64 x] w fun e w' => e = .returned (.tuple #[.slice A n c, .int .i64 t]) ∧ w = w' := by
  subst ht; exact put_no A n c w a x hn ha h
end
end Go.Proofs.Ytkehlaphiillpaa
