/-
  A slice of bytes that is handed in reads behind a call as it read before, if of what was there nothing has changed, whatever is new.
-/
import Derived.Test.YtkehlaphiillpaaMemOpen
namespace Go.Proofs.Ytkehlaphiillpaa
open Go.ChangeShapes Go.WideShapes Go.ChangeAt Go.RowKit
theorem Keeps.atSame {W W' : World} (h : Keeps W W') {p : MemPlace} (hp : p.block < W.heap.size) : W.sameAt W' p := by
  cases p with
  | cell b o => exact World.cell?_of_block (w := W) (h.block b hp)
  | map b => exact h.block b hp
theorem stays8K {H : Type} {enc : TypeId × Value → H} {W W' : World} {v : Value} {d : DataW H} {p : List MemPlace} (h : DataW.Trod enc Try.prog W 0 (fun _ => true) true 22 v d p)
    (hb : Keeps W W') (hlt : ∀ x ∈ p, x.block < W.heap.size) {sp : Nat → Bool} (hs : ∀ x ∈ p, sp x.block = true) : DataW.Trod enc Try.prog W' 0 sp true 22 v d p :=
  WideElems.Trod_stays laid8 (by kernel_rfl) (of_decide_eq_true (by kernel_rfl)) h (fun x hx => hb.atSame (hlt x hx)) hs
end Go.Proofs.Ytkehlaphiillpaa
