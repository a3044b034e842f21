/-
  What the statements of layer 12 are handed: a task by value (a number and a truth value); it reads behind the call as it read before, if of what was there nothing has changed.
-/
import Derived.Test.YtkehlaphiillpaaProg
import Derived.Test.YtkehlaphiillpaaPicOpen
import Derived.Deep.Slices
import Derived.Carry
import Derived.ChangeSlices
import Derived.OpenShut
import Derived.ProofKit
import Derived.Lib.SmallJoins
import Derived.WideKeyArgs
import Derived.SliceStrings
namespace Go.Proofs.Ytkehlaphiillpaa
open Go.ChangeShapes Go.WideShapes Go.ChangeAt Go.RowKit Go.Joins Go.Deep

section
variable {H : Type} {enc : TypeId × Value → H} {w : World}
theorem two_of {α : Type} {l : List α} (h : l.length = 2) : ∃ a b, l = [a, b] := by
  match l, h with
  | [a, b], _ => exact ⟨a, b, rfl⟩
theorem open_who {r : Reach} {b0 : Nat} {v : Value} {d : DataW H} {p : List MemPlace}
    (hv : Value.okWide Try.prog w r b0 24 v) (h : DataW.Trod enc Try.prog w 0 (fun _ => true) true 24 v d p) :
    ∃ (t : Int) (b : Bool), v = .agg #[.int .i64 t, .bool b] := by
  obtain ⟨cs, rfl, hsz⟩ := okWide_struct Try.underlying24 hv
  obtain ⟨fuel, hf⟩ := h
  obtain ⟨xs, n, _, _, hl, hlen, hf⟩ := DataW.trod_struct Try.underlying24 hf
  have hc : Try.prog.cellsOf 24 = 2 := by kernel_rfl
  have hi : Try.prog.cellsOf 3 = 1 := by kernel_rfl
  have hb : Try.prog.cellsOf 4 = 1 := by kernel_rfl
  rw [hc] at hl
  obtain ⟨l⟩ := cs
  obtain ⟨c0, c1, rfl⟩ := two_of (l := l) (by simpa [Value.cells] using hl)
  obtain ⟨y0, y1, rfl⟩ := two_of (show xs.length = 2 from hlen)
  have h0 := hf 0 _ rfl
  have h1 := hf 1 _ rfl
  simp [hi, hb, Value.cells] at h0 h1
  obtain ⟨t, e0, _, _⟩ := DataW.trod_int Try.underlying3 h0
  obtain ⟨b, e1, _⟩ := DataW.trod_bool Try.underlying4 h1
  simp at e0 e1
  subst e0 e1
  exact ⟨t, b, rfl⟩
end
theorem stays_who {H : Type} {enc : TypeId × Value → H} {W W' : World} {v : Value} {d : DataW H} {p : List MemPlace} (h : DataW.Trod enc Try.prog W 0 (fun _ => true) true 24 v d p)
    (hb : Keeps W W') (hlt : ∀ x ∈ p, x.block < W.heap.size) {sp : Nat → Bool} (hs : ∀ x ∈ p, sp x.block = true) : DataW.Trod enc Try.prog W' 0 sp true 24 v d p :=
  WideElems.Trod_stays laid8 (by kernel_rfl) (of_decide_eq_true (by kernel_rfl)) h (fun x hx => hb.atSame (hlt x hx)) hs
end Go.Proofs.Ytkehlaphiillpaa
