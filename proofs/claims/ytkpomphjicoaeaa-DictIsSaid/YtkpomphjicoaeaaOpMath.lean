/-
  Plain facts on the operations: the document's table, row by row (a name's bytes, what is needed, what is left, -1 where it hangs, the group), and what is said of a number that is none.
-/
import Derived.Below
import Derived.Shelf.Strings.Prefix
import Derived.Test.YtkpomphjicoaeaaScanMath
namespace Go.Proofs.Ytkpomphjicoaeaa

/-- The table. -/
def opT : List (List UInt8 × Int × Int × Int) :=
  [([40, 76, 73, 84, 41], 0, 1, 0), ([40, 66, 82, 65, 78, 67, 72, 41], 0, 0, 0), ([40, 48, 66, 82, 65, 78, 67, 72, 41], 1, 0, 0),
   ([40, 67, 65, 76, 76, 41], 0, -1, 0), ([69, 88, 73, 84], 0, 0, 0), ([40, 68, 79, 41], 2, 0, 0),
   ([40, 63, 68, 79, 41], 2, 0, 0), ([40, 76, 79, 79, 80, 41], 0, 0, 0), ([40, 43, 76, 79, 79, 80, 41], 1, 0, 0),
   ([85, 78, 76, 79, 79, 80], 0, 0, 0), ([73], 0, 1, 0), ([74], 0, 1, 0),
   ([62, 82], 1, 0, 0), ([82, 62], 0, 1, 0), ([82, 64], 0, 1, 0),
   ([69, 88, 69, 67, 85, 84, 69], 1, -1, 0), ([67, 65, 84, 67, 72], 1, -1, 0), ([84, 72, 82, 79, 87], 1, -1, 0),
   ([68, 85, 80], 1, 2, 1), ([68, 82, 79, 80], 1, 0, 1), ([83, 87, 65, 80], 2, 2, 1),
   ([79, 86, 69, 82], 2, 3, 1), ([82, 79, 84], 3, 3, 1), ([78, 73, 80], 2, 1, 1),
   ([84, 85, 67, 75], 2, 3, 1), ([50, 68, 85, 80], 2, 4, 1), ([50, 68, 82, 79, 80], 2, 0, 1),
   ([50, 83, 87, 65, 80], 4, 4, 1), ([50, 79, 86, 69, 82], 4, 6, 1), ([63, 68, 85, 80], 1, -1, 1),
   ([80, 73, 67, 75], 1, 1, 1), ([82, 79, 76, 76], 1, 0, 1), ([68, 69, 80, 84, 72], 0, 1, 1),
   ([43], 2, 1, 1), ([45], 2, 1, 1), ([42], 2, 1, 1),
   ([47], 2, 1, 1), ([77, 79, 68], 2, 1, 1), ([47, 77, 79, 68], 2, 2, 1),
   ([42, 47], 3, 1, 1), ([42, 47, 77, 79, 68], 3, 2, 1), ([49, 43], 1, 1, 1),
   ([49, 45], 1, 1, 1), ([50, 42], 1, 1, 1), ([50, 47], 1, 1, 1),
   ([78, 69, 71, 65, 84, 69], 1, 1, 1), ([65, 66, 83], 1, 1, 1), ([77, 73, 78], 2, 1, 1),
   ([77, 65, 88], 2, 1, 1), ([65, 78, 68], 2, 1, 1), ([79, 82], 2, 1, 1),
   ([88, 79, 82], 2, 1, 1), ([73, 78, 86, 69, 82, 84], 1, 1, 1), ([76, 83, 72, 73, 70, 84], 2, 1, 1),
   ([82, 83, 72, 73, 70, 84], 2, 1, 1), ([61], 2, 1, 1), ([60, 62], 2, 1, 1),
   ([60], 2, 1, 1), ([62], 2, 1, 1), ([85, 60], 2, 1, 1),
   ([48, 61], 1, 1, 1), ([48, 60], 1, 1, 1), ([87, 73, 84, 72, 73, 78], 3, 1, 1),
   ([85, 77, 42], 2, 2, 1), ([77, 42], 2, 2, 1), ([85, 77, 47, 77, 79, 68], 3, 2, 1),
   ([70, 77, 47, 77, 79, 68], 3, 2, 1), ([83, 77, 47, 82, 69, 77], 3, 2, 1), ([83, 62, 68], 1, 2, 1),
   ([68, 43], 4, 2, 1), ([68, 78, 69, 71, 65, 84, 69], 2, 2, 1), ([67, 69, 76, 76, 83], 1, 1, 1),
   ([67, 69, 76, 76, 43], 1, 1, 1), ([67, 72, 65, 82, 43], 1, 1, 1), ([65, 76, 73, 71, 78, 69, 68], 1, 1, 1),
   ([64], 1, 1, 2), ([33], 2, 0, 2), ([67, 64], 1, 1, 2),
   ([67, 33], 2, 0, 2), ([43, 33], 2, 0, 2), ([70, 73, 76, 76], 3, 0, 2),
   ([77, 79, 86, 69], 3, 0, 2), ([67, 65, 83], 3, 1, 2), ([69, 77, 73, 84], 1, 0, 3),
   ([84, 89, 80, 69], 2, 0, 3), ([46], 1, 0, 3), ([85, 46], 1, 0, 3),
   ([67, 82], 0, 0, 3), ([83, 80, 65, 67, 69], 0, 0, 3), ([60, 35], 0, 0, 4),
   ([35], 2, 2, 4), ([35, 83], 2, 2, 4), ([72, 79, 76, 68], 1, 0, 4),
   ([83, 73, 71, 78], 1, 0, 4), ([35, 62], 2, 2, 4), ([66, 65, 83, 69], 0, 1, 5),
   ([68, 69, 67, 73, 77, 65, 76], 0, 0, 5), ([72, 69, 88], 0, 0, 5), ([77, 69], 0, 1, 6),
   ([84, 73, 67, 75, 83], 0, 1, 6), ([80, 65, 85, 83, 69], 0, 0, 6), ([83, 76, 69, 69, 80], 1, 0, 6),
   ([66, 89, 69], 0, 0, 6), ([78, 79, 84, 69], 3, 0, 6), ([67, 82, 69, 65, 84, 69], 0, 0, 7),
   ([40, 68, 79, 69, 83, 41], 0, 0, 7), ([72, 69, 82, 69], 0, 1, 7), ([65, 76, 76, 79, 84], 1, 0, 7),
   ([44], 1, 0, 7), ([67, 79, 77, 80, 73, 76, 69, 44], 1, 0, 7), ([73, 77, 77, 69, 68, 73, 65, 84, 69], 0, 0, 7)]

/-- A number's row. -/
def opR (n : Int) : List UInt8 × Int × Int × Int := if 0 ≤ n then opT.getD n.toNat ([], 0, -1, -1) else ([], 0, -1, -1)
/-- What is said of one that is none. -/
def opBad : List UInt8 × Int × Int × Int := ([], 0, -1, -1)
theorem opT_length : opT.length = 111 := by decide +kernel
theorem opR_out (n : Int) (h : n < 0 ∨ 111 ≤ n) : opR n = opBad := by
  unfold opR
  rcases h with h | h
  · rw [if_neg (by omega)]; rfl
  · rw [if_pos (by omega), List.getD_eq_getElem?_getD, List.getElem?_eq_none (by rw [opT_length]; omega)]; rfl
theorem opR_nat (k : Nat) (h : k < 111) : opR (k : Int) = opT[k]'(by rw [opT_length]; exact h) := by
  unfold opR
  rw [if_pos (by omega), List.getD_eq_getElem?_getD, Int.toNat_natCast, List.getElem?_eq_getElem (by rw [opT_length]; exact h)]
  rfl
/-- What holds of each row holds of each number's row. -/
theorem opR_each {p : Nat → List UInt8 × Int × Int × Int → Bool} (h : (opT.zipIdx.all fun x => p x.2 x.1) = true) (k : Nat) (hk : k < 111) : p k (opR (k : Int)) = true := by
  rw [opR_nat k hk]
  have hl : k < opT.zipIdx.length := by rw [List.length_zipIdx, opT_length]; exact hk
  have := List.all_eq_true.1 h (opT.zipIdx[k]) (List.getElem_mem hl)
  rw [List.getElem_zipIdx] at this
  simpa using this
/-- What is left, and whether it is told. -/
def opL (n : Int) : Int × Bool := if (opR n).2.2.1 = -1 then (0, false) else ((opR n).2.2.1, true)
/-- Is a name in parentheses? -/
def opH (l : List UInt8) : Bool := Lib.hasPrefix l [40] && Lib.hasSuffix l [41]
/-- Is it the one of a name? -/
def opQ (u : List UInt8) (k : Nat) : Bool := decide ((opR (k : Int)).1 = u) && !opH (opR (k : Int)).1
/-- The one of a name. -/
def opF (u : List UInt8) : Int × Bool := match (List.range 111).find? (opQ u) with | some j => ((j : Int), true) | none => (0, false)
theorem opF_yes (u : List UInt8) (j : Nat) (hj : j < 111) (h : opQ u j = true) (hm : ∀ i, i < j → opQ u i = false) : opF u = ((j : Int), true) := by
  unfold opF
  rw [List.find?_range_eq_some.2 ⟨h, by simpa using hj, fun i hi => by rw [hm i hi]; rfl⟩]
theorem opF_no (u : List UInt8) (h : ∀ i, i < 111 → opQ u i = false) : opF u = (0, false) := by
  unfold opF
  rw [List.find?_range_eq_none.2 fun i hi => by rw [h i hi]; rfl]
theorem opR_len (n : Int) : (opR n).1.length ≤ 16 := by
  by_cases hn : 0 ≤ n ∧ n < 111
  · obtain ⟨k, rfl⟩ : ∃ k : Nat, n = (k : Int) := ⟨n.toNat, by omega⟩
    exact of_decide_eq_true (opR_each (p := fun _ r => decide (r.1.length ≤ 16)) (by decide +kernel) k (by omega))
  · rw [opR_out n (by omega)]
    decide
end Go.Proofs.Ytkpomphjicoaeaa
