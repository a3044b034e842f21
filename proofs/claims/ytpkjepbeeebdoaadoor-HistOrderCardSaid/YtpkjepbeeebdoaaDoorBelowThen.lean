/-
  Two worlds, one behind the other: what the first left alone the second one leaves alone.
-/
import Derived.Test.YtpkjepbeeebdoaaDoorProg
import Derived.Below
namespace Go.Proofs.YtpkjepbeeebdoaaDoor
open Go.RowKit
theorem below_then {a b c : World} (h : Below a.heap.size a b) (k : Below b.heap.size b c) : Below a.heap.size a c := h.trans (k.mono h.size)
theorem below_one (w : World) (o : Obj) : Below w.heap.size w (w.alloc o) := (Below.refl _ _).alloc (Nat.le_refl _) o
theorem two_new (w : World) (o o' : Obj) : Below w.heap.size w ((w.alloc o).alloc o') := ((Below.refl _ _).alloc (Nat.le_refl _) _).alloc (by simp) _
end Go.Proofs.YtpkjepbeeebdoaaDoor
