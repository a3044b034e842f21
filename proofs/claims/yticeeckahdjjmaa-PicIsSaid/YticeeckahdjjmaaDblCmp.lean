/-
  What the calls below and Cmp of package dbl answer: doubles are compared as whole numbers with their signs. The world has new blocks alone.
-/
import Derived.Test.YticeeckahdjjmaaDblCalls
namespace Go.Proofs.Yticeeckahdjjmaa
open Go.RowKit
theorem keepDD {W w' : World} {B C : Nat} {l h r s : Value} (hg : Grown W w')
    (k : (B < W.heap.size ∧ C < W.heap.size) ∧ (W.cell? ⟨B, 0, none⟩ = some l ∧ W.cell? ⟨B, 1, none⟩ = some h) ∧ (W.cell? ⟨C, 0, none⟩ = some r ∧ W.cell? ⟨C, 1, none⟩ = some s)) :
    (B < w'.heap.size ∧ C < w'.heap.size) ∧ (w'.cell? ⟨B, 0, none⟩ = some l ∧ w'.cell? ⟨B, 1, none⟩ = some h) ∧ (w'.cell? ⟨C, 0, none⟩ = some r ∧ w'.cell? ⟨C, 1, none⟩ = some s) := by
  obtain ⟨⟨a, b⟩, ⟨c, d⟩, ⟨e, f⟩⟩ := k
  exact ⟨⟨Nat.lt_of_lt_of_le a hg.2.2, Nat.lt_of_lt_of_le b hg.2.2⟩, ⟨grown_cell hg a c, grown_cell hg a d⟩, ⟨grown_cell hg b e, grown_cell hg b f⟩⟩
theorem cmp_is (x y : Int) : IntKind.i64.wrap (flagZ (dBel x y) - flagZ (dBel y x)) = dCmp x y := by
  rw [wrapi64]
  unfold flagZ dBel dCmp
  by_cases h : x < y
  · have h2 : ¬ y < x := by omega
    simp [h, h2, wrap64]
  · by_cases h2 : y < x <;> simp [h, h2, wrap64]
end Go.Proofs.Yticeeckahdjjmaa
