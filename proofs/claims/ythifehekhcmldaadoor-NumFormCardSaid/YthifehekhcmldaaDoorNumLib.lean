/-
  What the library's strings.CutPrefix, strings.CutSuffix and utf8.DecodeRuneInString answer in this translation: the library's contracts, laid at their numbers here.
-/
import Derived.Test.YthifehekhcmldaaDoorProg
import Derived.Test.YthifehekhcmldaaDoorNumMath
import Derived.Shelf.Small.Wraps
import Derived.Shelf.Unicode.DecodeAny
import Derived.Laws.RangeAny
namespace Go.Proofs.YthifehekhcmldaaDoor
open Go.RowKit Go.Shelf
/-- Where the library's functions, types and tables lie in this translation. -/
def renNum : Ren := ⟨fun f => if f = 103 then 20 else if f = 104 then 21 else if f = 206 then 36 else if f = 207 then 37 else if f = 210 then 29 else if f = 211 then 30 else if f = 197 then 28 else if f = 260 then 35 else 0,
  fun t => if t = 0 then 0 else if t = 3 then 3 else if t = 4 then 4 else if t = 5 then 5 else if t = 9 then 9 else if t = 21 then 21 else if t = 24 then 44 else if t = 46 then 65 else if t = 105 then 52 else if t = 119 then 64 else if t = 138 then 67 else if t = 139 then 68 else 0,
  fun g => if g = 3 then 0 else if g = 4 then 1 else 0⟩
theorem laysCutP : Lays.n103 Tryd.prog renNum where
  mixed := by kernel_rfl
  f103 := by kernel_rfl
  f206 := by kernel_rfl
  f210 := by kernel_rfl
  t3 := by kernel_rfl
  a3 := fun _ => by kernel_rfl
  z3 := fun _ => by kernel_rfl
  v3 := fun _ => by kernel_rfl
  t4 := by kernel_rfl
  a4 := fun _ => by kernel_rfl
  z4 := fun _ => by kernel_rfl
  v4 := fun _ => by kernel_rfl
  t9 := by kernel_rfl
  a9 := fun _ => by kernel_rfl
  z9 := fun _ => by kernel_rfl
  v9 := fun _ => by kernel_rfl
  t24 := by kernel_rfl
  a24 := fun _ => by kernel_rfl
  z24 := fun _ => by kernel_rfl
  v24 := fun _ => by kernel_rfl
theorem laysCutS : Lays.n104 Tryd.prog renNum where
  mixed := by kernel_rfl
  f104 := by kernel_rfl
  f207 := by kernel_rfl
  f211 := by kernel_rfl
  t3 := by kernel_rfl
  a3 := fun _ => by kernel_rfl
  z3 := fun _ => by kernel_rfl
  v3 := fun _ => by kernel_rfl
  t4 := by kernel_rfl
  a4 := fun _ => by kernel_rfl
  z4 := fun _ => by kernel_rfl
  v4 := fun _ => by kernel_rfl
  t9 := by kernel_rfl
  a9 := fun _ => by kernel_rfl
  z9 := fun _ => by kernel_rfl
  v9 := fun _ => by kernel_rfl
  t24 := by kernel_rfl
  a24 := fun _ => by kernel_rfl
  z24 := fun _ => by kernel_rfl
  v24 := fun _ => by kernel_rfl
theorem laysDec : Lays.n197 Tryd.prog renNum where
  mixed := by kernel_rfl
  f197 := by kernel_rfl
  f260 := by kernel_rfl
  t0 := by kernel_rfl
  a0 := fun _ => by kernel_rfl
  z0 := fun _ => by kernel_rfl
  v0 := fun _ => by kernel_rfl
  t3 := by kernel_rfl
  a3 := fun _ => by kernel_rfl
  z3 := fun _ => by kernel_rfl
  v3 := fun _ => by kernel_rfl
  t4 := by kernel_rfl
  a4 := fun _ => by kernel_rfl
  z4 := fun _ => by kernel_rfl
  v4 := fun _ => by kernel_rfl
  t5 := by kernel_rfl
  a5 := fun _ => by kernel_rfl
  z5 := fun _ => by kernel_rfl
  v5 := fun _ => by kernel_rfl
  t9 := by kernel_rfl
  a9 := fun _ => by kernel_rfl
  z9 := fun _ => by kernel_rfl
  v9 := fun _ => by kernel_rfl
  t21 := by kernel_rfl
  a21 := fun _ => by kernel_rfl
  z21 := fun _ => by kernel_rfl
  v21 := fun _ => by kernel_rfl
  t46 := by kernel_rfl
  a46 := fun _ => by kernel_rfl
  z46 := fun _ => by kernel_rfl
  v46 := fun _ => by kernel_rfl
  t105 := by kernel_rfl
  a105 := fun _ => by kernel_rfl
  z105 := fun _ => by kernel_rfl
  v105 := fun _ => by kernel_rfl
  t119 := by kernel_rfl
  a119 := fun _ => by kernel_rfl
  z119 := fun _ => by kernel_rfl
  t138 := by kernel_rfl
  a138 := fun _ => by kernel_rfl
  z138 := fun _ => by kernel_rfl
  v138 := fun _ => by kernel_rfl
  t139 := by kernel_rfl
  a139 := fun _ => by kernel_rfl
  z139 := fun _ => by kernel_rfl
  v139 := fun _ => by kernel_rfl
  g3 := by kernel_rfl
  g4 := by kernel_rfl
/-- The tables of utf8 lie as they should. -/
def Tabs (w : World) : Prop := Lib.Utf8Tabs 0 1 w
theorem Tabs.below {w w' : World} (h : Tabs w) (hb : Below w.heap.size w w') : Tabs w' := Utf8Tabs_below h hb

theorem cutp_any (l p : List UInt8) (w : World) :
    Calls Tryd.prog 20 #[.string ⟨l.toArray⟩, .string ⟨p.toArray⟩] w fun e w' => e = .returned (.tuple #[.string ⟨(Lib.trimPrefix l p).toArray⟩, .bool (Lib.hasPrefix l p)]) ∧ w = w' :=
  (Any.strings_CutPrefix laysCutP ⟨l.toArray⟩ ⟨p.toArray⟩ w).mono fun _ _ h => ⟨h.1, h.2.symm⟩
theorem cuts_any (l p : List UInt8) (w : World) (hl : l.length ≤ 9223372036854775807) :
    Calls Tryd.prog 21 #[.string ⟨l.toArray⟩, .string ⟨p.toArray⟩] w fun e w' => e = .returned (.tuple #[.string ⟨(Lib.trimSuffix l p).toArray⟩, .bool (Lib.hasSuffix l p)]) ∧ w = w' :=
  (Any.strings_CutSuffix laysCutS ⟨l.toArray⟩ ⟨p.toArray⟩ w (by simpa [ByteArray.size] using hl)).mono fun _ _ h => ⟨h.1, h.2.symm⟩
theorem size_mk (l : List UInt8) : (⟨l.toArray⟩ : ByteArray).size = l.length := by simp [ByteArray.size]
/-- What is read of a text's first sign: itself, if it is below 128; else a number that is not. -/
theorem dec_any (l : List UInt8) (w : World) (hT : Tabs w) :
    Calls Tryd.prog 28 #[.string ⟨l.toArray⟩] w fun e w' => ∃ r k : Nat, e = .returned (.tuple #[.int .i32 r, .int .i64 k]) ∧ Below w.heap.size w w' ∧
      ((∃ c t, l = c :: t ∧ c.toNat < 128 ∧ r = c.toNat ∧ k = 1) ∨ (128 ≤ r ∧ ∀ c t, l = c :: t → 128 ≤ c.toNat)) := by
  refine (Any.utf8_DecodeRuneInString laysDec ⟨l.toArray⟩ w hT).mono fun e w' ⟨he, hb⟩ => ⟨_, _, he, hb, ?_⟩
  unfold Lib.decodeGo
  cases l with
  | nil => right; exact ⟨by decide, fun _ _ h => by cases h⟩
  | cons c t =>
    have hz : 0 < (⟨(c :: t).toArray⟩ : ByteArray).size := by rw [size_mk]; simp
    have h0 : (⟨(c :: t).toArray⟩ : ByteArray)[0]'hz = c := rfl
    rw [if_neg (by omega)]
    by_cases hc : c.toNat < 128
    · left
      refine ⟨c, t, rfl, hc, ?_, ?_⟩
      · rw [decode_ascii _ 0 hz (by rw [h0]; exact hc), h0]
      · rw [decode_ascii _ 0 hz (by rw [h0]; exact hc)]
    · right
      exact ⟨(decode_high _ 0 hz (by rw [h0]; omega)).1, fun c' t' h => by cases h; omega⟩
end Go.Proofs.YthifehekhcmldaaDoor
