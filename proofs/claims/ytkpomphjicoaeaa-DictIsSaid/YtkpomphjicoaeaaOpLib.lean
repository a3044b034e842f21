/-
  What the library's strings.HasPrefix and strings.HasSuffix answer in this translation: the library's contracts, laid at their numbers here.
-/
import Derived.Test.YtkpomphjicoaeaaProg
import Derived.Shelf.Strings.Prefix
namespace Go.Proofs.Ytkpomphjicoaeaa
open Go.RowKit Go.Shelf
/-- Where the library's functions and types lie in this translation. -/
def renOp : Ren := ⟨fun f => if f = 99 then 40 else if f = 100 then 41 else if f = 206 then 45 else if f = 207 then 46 else 0,
  fun t => if t = 3 then 3 else if t = 4 then 4 else if t = 9 then 9 else 0, fun _ => 0⟩
theorem laysPre : Lays.n99 Try.prog renOp where
  mixed := by kernel_rfl
  f99 := by kernel_rfl
  f206 := by kernel_rfl
  t3 := by kernel_rfl
  a3 := fun _ => by kernel_rfl
  z3 := fun _ => by kernel_rfl
  v3 := fun _ => by kernel_rfl
  t4 := by kernel_rfl
  a4 := fun _ => by kernel_rfl
  z4 := fun _ => by kernel_rfl
  v4 := fun _ => by kernel_rfl
  t9 := by kernel_rfl
  a9 := fun _ => by kernel_rfl
  z9 := fun _ => by kernel_rfl
  v9 := fun _ => by kernel_rfl
theorem laysSuf : Lays.n100 Try.prog renOp where
  mixed := by kernel_rfl
  f100 := by kernel_rfl
  f207 := by kernel_rfl
  t3 := by kernel_rfl
  a3 := fun _ => by kernel_rfl
  z3 := fun _ => by kernel_rfl
  v3 := fun _ => by kernel_rfl
  t4 := by kernel_rfl
  a4 := fun _ => by kernel_rfl
  z4 := fun _ => by kernel_rfl
  v4 := fun _ => by kernel_rfl
  t9 := by kernel_rfl
  a9 := fun _ => by kernel_rfl
  z9 := fun _ => by kernel_rfl
  v9 := fun _ => by kernel_rfl
theorem hasp_any (l p : List UInt8) (S T : ByteArray) (hS : S = ⟨l.toArray⟩) (hT : T = ⟨p.toArray⟩) (b : Bool) (h : Lib.hasPrefix l p = b) (w : World) :
    Calls Try.prog 40 #[.string S, .string T] w fun e w' => e = .returned (.bool b) ∧ w = w' := by
  subst hS hT h
  exact (Any.strings_HasPrefix laysPre ⟨l.toArray⟩ ⟨p.toArray⟩ w).mono fun _ _ h => ⟨h.1, h.2.symm⟩
theorem hass_any (l p : List UInt8) (S T : ByteArray) (hS : S = ⟨l.toArray⟩) (hT : T = ⟨p.toArray⟩) (hl : l.length ≤ 9223372036854775807) (b : Bool) (h : Lib.hasSuffix l p = b) (w : World) :
    Calls Try.prog 41 #[.string S, .string T] w fun e w' => e = .returned (.bool b) ∧ w = w' := by
  subst hS hT h
  exact (Any.strings_HasSuffix laysSuf ⟨l.toArray⟩ ⟨p.toArray⟩ w (by simpa [ByteArray.size] using hl)).mono fun _ _ h => ⟨h.1, h.2.symm⟩
end Go.Proofs.Ytkpomphjicoaeaa
