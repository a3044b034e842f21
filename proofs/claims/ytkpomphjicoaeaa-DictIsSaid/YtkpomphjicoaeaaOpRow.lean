/-
  What rowOf answers: a number's row of the document's table, and what is said of a number that is none; of what was there nothing has changed.
-/
import Derived.Test.YtkpomphjicoaeaaScanCalls
import Derived.Test.YtkpomphjicoaeaaOpMath
import Derived.Test.YtkpomphjicoaeaaOpBuilds
import Derived.Deep.Cut
namespace Go.Proofs.Ytkpomphjicoaeaa
open Go.RowKit

/-- A row as it lies in memory. -/
def rowV (r : List UInt8 × Int × Int × Int) : Array Value := #[.string ⟨r.1.toArray⟩, .int .i64 r.2.1, .int .i64 r.2.2.1, .int .i64 r.2.2.2]
/-- The whole table's cells. -/
def opCells : Array Value := (opT.flatMap fun r => (rowV r).toList).toArray
theorem rowV_index : (List.range 111).map (fun k => (opCells.extract (k * 4) (k * 4 + 4)).toList) = opT.map fun r => (rowV r).toList := by kernel_rfl
theorem part_row (k : Nat) (h : k < 111) : opCells.extract (k * 4) (k * 4 + 4) = rowV (opR (k : Int)) := by
  rw [opR_nat k h]
  have h1 := congrArg (·[k]?) rowV_index
  simp [h, opT_length] at h1
  exact Array.toList_inj.1 (by simpa using h1)
theorem index_cells (C : Array Value) (k : Nat) (h : k < 111) (W : World) : (Instr.index 77 (.agg C) (.int .i64 (k : Int))).run Try.prog W = .ok (.agg (C.extract (k * 4) (k * 4 + 4))) W := by
  have hg : (0 : Int) ≤ (k : Int) := by omega
  have hz : ∀ w, (sizeOf 67).run Try.prog w = .ok 4 w := fun _ => by kernel_rfl
  have ha : ∀ w, (isAgg 67).run Try.prog w = .ok true w := fun _ => by kernel_rfl
  have hu : ∀ w, (underlying 77).run Try.prog w = .ok (.array 111 67) w := fun _ => by kernel_rfl
  simp [Instr.index, part, asIntOf, hz, ha, hu, hg]
  intro hh
  omega
theorem index_row (k : Nat) (h : k < 111) (W : World) : (Instr.index 77 (.agg opCells) (.int .i64 (k : Int))).run Try.prog W = .ok (.agg (rowV (opR (k : Int)))) W := by
  rw [index_cells opCells k h W, part_row k h]

/-- The slots behind the table. -/
def opTmps (n : Value) (p : Value) : Array Value :=
  ([n, undef, p, n, .bool false, .bool false, n, .bool false, .bool false, undef] ++ (opT.map fun r => Value.agg (rowV r)) ++ [Value.agg opCells, undef, undef]).toArray

/-- A row that lies in a new block is told. -/
theorem row_ret (k : Nat) (w : World) (a : Act) (ha : a.tmps[2]?.getD undef = .pointer (some ⟨w.heap.size, 0, none⟩)) (hd : a.defers = []) :
    bodyPost Try.prog Try.f39 (fun e w' => e = .returned (.agg (rowV (opR (k : Int)))) ∧ Below w.heap.size w w') .ret a
      ((w.alloc (.cells #[.string ⟨#[]⟩, .int .i64 0, .int .i64 0, .int .i64 0] 67)).setRow w.heap.size (rowV (opR (k : Int)))) := by
  generalize opR (k : Int) = r
  obtain ⟨l, x, y, z⟩ := r
  have hg : (w.alloc (.cells #[.string ⟨#[]⟩, .int .i64 0, .int .i64 0, .int .i64 0] 67)).heap[w.heap.size]? = some (.cells #[.string ⟨#[]⟩, .int .i64 0, .int .i64 0, .int .i64 0] 67 (0, 0)) := by
    show (w.heap.push _)[w.heap.size]? = _
    rw [Array.getElem?_push, if_pos rfl]
  have hc := fun j => cell_setRow_same _ w.heap.size j _ (rowV (l, x, y, z)) _ _ hg
  have hb : Below w.heap.size w ((w.alloc (.cells #[.string ⟨#[]⟩, .int .i64 0, .int .i64 0, .int .i64 0] 67)).setRow w.heap.size (rowV (l, x, y, z))) := by
    have h1 := (Below.refl w.heap.size w).alloc (Nat.le_refl _) (.cells #[.string ⟨#[]⟩, .int .i64 0, .int .i64 0, .int .i64 0] 67)
    exact ⟨h1.os, h1.tape, h1.output, by rw [setRow_size]; exact h1.size, fun i hi => (setRow_other _ _ _ _ (by omega)).trans (h1.block i hi)⟩
  generalize ((w.alloc (.cells #[.string ⟨#[]⟩, .int .i64 0, .int .i64 0, .int .i64 0] 67)).setRow w.heap.size (rowV (l, x, y, z))) = W at hc hb ⊢
  have h0 := hc 0
  have h1 := hc 1
  have h2 := hc 2
  have h3 := hc 3
  clear hc hg
  refine bodyPost_ret (v := .agg (rowV (l, x, y, z))) ?_ hd ⟨rfl, hb⟩
  simp [rowV] at h0 h1 h2 h3
  simp [results, Try.results39, ha, go_sem, h0, h1, h2, h3, rowV]
set_option maxHeartbeats 400000 in
set_option maxRecDepth 100000 in
theorem rowOf_yes (k : Nat) (h : k < 111) (w : World) : Calls Try.prog 39 #[.int .i64 (k : Int)] w fun e w' => e = .returned (.agg (rowV (opR (k : Int)))) ∧ Below w.heap.size w w' := by
  have h1 : decide ((k : Int) < 0) = false := by simp
  have h2 : decide ((111 : Int) ≤ (k : Int)) = false := by simp; omega
  go_enter Try.func39, Try.ntmps39
  go_upto_region 3 with (fail)
  clear h1 h2
  refine wp_region_list ?_
  rename_i K hK
  refine wpList_table 112 _ _ { tmps := opTmps (.int .i64 (k : Int)) (.pointer (some ⟨w.heap.size, 0, none⟩)), defers := [] } (by kernel_rfl) 122 123 (.tmp 0) (.tmp 121) (.tmp 2) 77 67 (by kernel_rfl)
    (.agg (rowV (opR (k : Int)))) (rowV (opR (k : Int))) _ _ rfl (fun W => Eq.trans (by kernel_rfl) (index_row k h W)) rfl w.heap.size (by kernel_rfl) (by kernel_rfl) 67 #[.string ⟨#[]⟩, .int .i64 0, .int .i64 0, .int .i64 0] ?_ (by kernel_rfl) (by kernel_rfl) (by kernel_rfl) ?_
  · show (w.heap.push _)[w.heap.size]? = _
    rw [Array.getElem?_push, if_pos rfl]
  · exact hK _ _ (wp_ret (row_ret k w _ (by kernel_rfl) rfl))
set_option maxRecDepth 100000 in
theorem rowOf_no (n : Int) (h : n < 0 ∨ 111 ≤ n) (w : World) : Calls Try.prog 39 #[.int .i64 n] w fun e w' => e = .returned (.agg (rowV opBad)) ∧ Below w.heap.size w w' := by
  by_cases h1 : n < 0
  · clear h
    go_enter Try.func39, Try.ntmps39
    go_wp2
    refine bodyPost_ret (v := (.agg #[.string ⟨#[]⟩, .int .i64 0, .int .i64 (-1), .int .i64 (-1)])) (by simp [results, Try.results39, go_sem]) rfl ⟨rfl, ?_⟩
    exact (Below.refl _ w).alloc (Nat.le_refl _) _
  · have h2 : 111 ≤ n := by omega
    clear h
    go_enter Try.func39, Try.ntmps39
    go_wp2
    refine bodyPost_ret (v := (.agg #[.string ⟨#[]⟩, .int .i64 0, .int .i64 (-1), .int .i64 (-1)])) (by simp [results, Try.results39, go_sem]) rfl ⟨rfl, ?_⟩
    exact (Below.refl _ w).alloc (Nat.le_refl _) _
/-- A number's row, whatever the number. -/
theorem rowOf_is (n : Int) (l : List UInt8) (x y z : Int) (S : ByteArray) (hS : S = ⟨l.toArray⟩) (h : opR n = (l, x, y, z)) (w : World) :
    Calls Try.prog 39 #[.int .i64 n] w fun e w' => e = .returned (.agg #[.string S, .int .i64 x, .int .i64 y, .int .i64 z]) ∧ Below w.heap.size w w' := by
  subst hS
  by_cases hn : 0 ≤ n ∧ n < 111
  · obtain ⟨k, rfl⟩ : ∃ k : Nat, n = (k : Int) := ⟨n.toNat, by omega⟩
    have := rowOf_yes k (by omega) w
    rw [h] at this
    exact this
  · have := rowOf_no n (by omega) w
    rw [opR_out n (by omega)] at h
    rw [h] at this
    exact this
end Go.Proofs.Ytkpomphjicoaeaa
