/-
  Two worlds, one behind the other: what the first left alone the second one leaves alone.
-/
import Derived.Test.YtkehlaphiillpaaProg
import Derived.Below
namespace Go.Proofs.Ytkehlaphiillpaa
open Go.RowKit
theorem below_then {a b c : World} (h : Below a.heap.size a b) (k : Below b.heap.size b c) : Below a.heap.size a c := h.trans (k.mono h.size)
end Go.Proofs.Ytkehlaphiillpaa
