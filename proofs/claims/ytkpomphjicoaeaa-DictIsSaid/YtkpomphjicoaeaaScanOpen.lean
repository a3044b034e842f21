/-
  What the statements of layer 6 are handed: texts, bytes, and a text with how far it has come, by value; each reads behind the call as it read before.
-/
import Derived.Test.YtkpomphjicoaeaaScanCalls
import Derived.Test.YtkpomphjicoaeaaKeeps
import Derived.ProofKit
import Derived.OpenShut
import Derived.Carry
import Derived.ChangeSlices
import Derived.Lib.SmallJoins
namespace Go.Proofs.Ytkpomphjicoaeaa
open Go.ChangeShapes Go.WideShapes Go.ChangeAt Go.RowKit Go.Joins

theorem keepsB {W W' : World} (h : Below W.heap.size W W') : Keeps W W' := ⟨h.os, h.output, h.size, h.block⟩
theorem byte_of8 {n : Int} (h : (Lit.int .u8 n).wf = true) : ∃ c : UInt8, n = (c.toNat : Int) := by
  have h2 : 0 ≤ n ∧ n ≤ 255 := by
    have h1 : IntKind.u8.min ≤ n ∧ n ≤ IntKind.u8.max := by simpa [Lit.wf] using h
    exact h1
  exact ⟨UInt8.ofNat n.toNat, by rw [UInt8.toNat_ofNat']; omega⟩
theorem cells_src : Try.prog.cellsOf 81 = 2 := by kernel_rfl
theorem open_src {H : Type} {enc : TypeId × Value → H} {w : World} {base : Nat} {spare : Nat → Bool} {held : Bool} {r : Reach} {b0 : Nat} {v : Value} {d : DataW H} {p : List MemPlace}
    (hv : Value.okWide Try.prog w r b0 81 v) (h : DataW.Trod enc Try.prog w base spare held 81 v d p) :
    ∃ (s : ByteArray) (b : Int), v = .agg #[.string s, .int .i64 b] ∧ d = .agg [.lit (.string s.data.toList), .lit (.int .i64 b)] ∧ p = [] ∧ s.size ≤ maxLen ∧ (Lit.int .i64 b).wf = true := by
  obtain ⟨c0, c1, y0, y1, m, rfl, rfl, rfl, hy0, hy1⟩ := open_agg2 Try.underlying81 (by kernel_rfl) cells_src hv h
  obtain ⟨a, e0, rfl, wa⟩ := DataW.trod_string Try.underlying9 hy0
  obtain ⟨b, e1, rfl, wb⟩ := DataW.trod_int Try.underlying3 hy1
  simp at e0 e1
  subst e0 e1
  exact ⟨a, b, rfl, rfl, rfl, wa, wb⟩
theorem shut_src {H : Type} {enc : TypeId × Value → H} {w : World} {base : Nat} {spare : Nat → Bool} {held : Bool} {s : ByteArray} {b : Int} (wa : s.size ≤ maxLen) (wb : (Lit.int .i64 b).wf = true) :
    DataW.Trod enc Try.prog w base spare held 81 (.agg #[.string s, .int .i64 b]) (.agg [.lit (.string s.data.toList), .lit (.int .i64 b)]) [] :=
  shut_agg2 (y0 := (.lit (.string s.data.toList), [])) (y1 := (.lit (.int .i64 b), [])) Try.underlying81 (by kernel_rfl) cells_src ⟨1, by simp [DataW.trod, Try.underlying9, wa]⟩ ⟨1, by simp [DataW.trod, Try.underlying3, wb]⟩
end Go.Proofs.Ytkpomphjicoaeaa
