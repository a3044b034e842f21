/-
  What the statements of layer 6 are handed: texts, bytes, and a text with how far it has come, by value; each reads behind the call as it read before.
-/
import Derived.Test.YtoklocbdifefcaaScanCalls
import Derived.Test.YtoklocbdifefcaaKeeps
import Derived.ProofKit
import Derived.OpenShut
import Derived.Carry
import Derived.ChangeSlices
import Derived.Lib.SmallJoins
namespace Go.Proofs.Ytoklocbdifefcaa
open Go.ChangeShapes Go.WideShapes Go.ChangeAt Go.RowKit Go.Joins

theorem keepsB {W W' : World} (h : Below W.heap.size W W') : Keeps W W' := ⟨h.os, h.output, h.size, h.block⟩
theorem byte_of8 {n : Int} (h : (Lit.int .u8 n).wf = true) : ∃ c : UInt8, n = (c.toNat : Int) := by
  have h2 : 0 ≤ n ∧ n ≤ 255 := by
    have h1 : IntKind.u8.min ≤ n ∧ n ≤ IntKind.u8.max := by simpa [Lit.wf] using h
    exact h1
  exact ⟨UInt8.ofNat n.toNat, by rw [UInt8.toNat_ofNat']; omega⟩
end Go.Proofs.Ytoklocbdifefcaa
