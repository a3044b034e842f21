/-
  A statement's own variable that holds a queue: what it holds behind a call whose answer is stored into it.
-/
import Derived.Test.YtoklocbdifefcaaQueueAwake
namespace Go.Proofs.Ytoklocbdifefcaa
open Go.RowKit

/-- Block g, no older than w0, holds a queue; of what was there in w0 nothing has changed. -/
structure QS (w0 w : World) (g : Nat) (N : Int) (l : List It) (A : Option Addr) (n c : Nat) : Prop where
  q : Qv w g 28 N A n c
  its : Its w A n c l
  apt : Apt A n g
  below : Below w0.heap.size w0 w
  le : w0.heap.size ≤ g
section
variable {w0 w w1 : World} {g : Nat} {N : Int} {l : List It} {A : Option Addr} {n c : Nat}
theorem QS.new (w0 : World) : QS w0 (w0.alloc (.cells #[.int .i64 0, .slice none 0 0] 28)) w0.heap.size 0 [] none 0 0 :=
  ⟨Qv.new _ _ _ _ _ _, Its.nil, fun h => absurd h (Nat.lt_irrefl _), below_one _ _, Nat.le_refl _⟩
theorem QS.keep (h : QS w0 w g N l A n c) (hb : Below w.heap.size w w1) : QS w0 w1 g N l A n c := ⟨h.q.keep hb, h.its.below hb, h.apt, below_then h.below hb, h.le⟩
theorem QS.alloc (h : QS w0 w g N l A n c) (o : Obj) : QS w0 (w.alloc o) g N l A n c := h.keep (below_one w o)
/-- What a call has answered is stored. -/
theorem QS.set (h : QS w0 w g N l A n c) {N' : Int} {l' : List It} {A' : Option Addr} {n' c' : Nat} (hb : Below w.heap.size w w1) (hi : Its w1 A' n' c' l') (ha : Apt A' n' g) :
    QS w0 ((w1.setCell ⟨g, 0, none⟩ (.int .i64 N')).setCell ⟨g, 1, none⟩ (.slice A' n' c')) g N' l' A' n' c' :=
  ⟨(h.q.keep hb).set _ _ _ _, (hi.set_ ha 0 _).set_ ha 1 _, ha, below_set (below_set (below_then h.below hb) h.le _) h.le _, h.le⟩
theorem QS.born (h : QS w0 w g N l A n c) {A' : Option Addr} {n' : Nat} (hb : Born w A n A' n') : Apt A' n' g := hb g h.q.lt h.apt
end
end Go.Proofs.Ytoklocbdifefcaa
