/-
  Which call does an operation: the entry of each, out of the two tables that are put together where they are asked.
-/
import Derived.Test.YtnlkggfgloblcaaGreatPureMath
import Derived.Test.YtnlkggfgloblcaaGreatOpBuilds
import Derived.Test.YtnlkggfgloblcaaGreatBelowThen
import Derived.Deep.Cut
import Derived.Laws.EntriesVeiled
import Derived.Lib.Hide
namespace Go.Proofs.YtnlkggfgloblcaaGreat
open Go.RowKit

/-- The calls of DUP to ALIGNED. -/
def puFs : List FuncId := [42, 44, 45, 46, 47, 48, 49, 50, 51, 52, 53, 54, 55, 56, 58, 59, 60, 61, 62, 63, 64, 65, 66, 67, 68, 69, 71, 72, 73, 74, 75, 76, 77, 78, 79, 80, 81, 83, 85, 86, 87, 88, 90, 91, 92, 94, 97, 99, 100, 101, 102, 104, 107, 109, 110, 111, 112]
def puF (k : Nat) : FuncId := puFs.getD (k - 18) 0
/-- A call as a value. -/
abbrev fV (f : FuncId) : Value := .func (.func f) #[] #[]
def mvCells : Array Value := (List.replicate 18 Value.nilFunc ++ (puFs.take 15).map fV).toArray
def ctCells : Array Value := (List.replicate 33 Value.nilFunc ++ (puFs.drop 15).map fV).toArray
theorem mv_at (k : Nat) (h1 : 18 ≤ k) (h2 : k ≤ 32) : mvCells.extract k (k + 1) = #[fV (puF k)] := by
  have h : (List.range 15).map (fun i => (mvCells.extract (18 + i) (18 + i + 1)).toList) = (List.range 15).map fun i => [fV (puF (18 + i))] := by kernel_rfl
  have h3 := congrArg (·[k - 18]?) h
  simp only [List.getElem?_map] at h3
  rw [List.getElem?_range (show k - 18 < 15 by omega)] at h3
  simp only [Option.map_some, Option.some.injEq] at h3
  rw [show 18 + (k - 18) = k by omega] at h3
  exact Array.toList_inj.1 h3
theorem ct_at (k : Nat) (h1 : 33 ≤ k) (h2 : k ≤ 74) : ctCells.extract k (k + 1) = #[fV (puF k)] := by
  have h : (List.range 42).map (fun i => (ctCells.extract (33 + i) (33 + i + 1)).toList) = (List.range 42).map fun i => [fV (puF (33 + i))] := by kernel_rfl
  have h3 := congrArg (·[k - 33]?) h
  simp only [List.getElem?_map] at h3
  rw [List.getElem?_range (show k - 33 < 42 by omega)] at h3
  simp only [Option.map_some, Option.some.injEq] at h3
  rw [show 33 + (k - 33) = k by omega] at h3
  exact Array.toList_inj.1 h3
theorem index_mv (C : Array Value) (k : Nat) (h : k < 33) (W : World) : (Instr.index 57 (.agg C) (.int .i64 (k : Int))).run Tryz.prog W = .ok (.agg (C.extract k (k + 1))) W := by
  have hg : (0 : Int) ≤ (k : Int) := by omega
  have hz : ∀ w, (sizeOf 39).run Tryz.prog w = .ok 1 w := fun _ => by kernel_rfl
  have ha : ∀ w, (isAgg 39).run Tryz.prog w = .ok true w := fun _ => by kernel_rfl
  have hu : ∀ w, (underlying 57).run Tryz.prog w = .ok (.array 33 39) w := fun _ => by kernel_rfl
  simp [Instr.index, part, asIntOf, hz, ha, hu, hg]
  intro hh
  omega
theorem index_ct (C : Array Value) (k : Nat) (h : k < 75) (W : World) : (Instr.index 69 (.agg C) (.int .i64 (k : Int))).run Tryz.prog W = .ok (.agg (C.extract k (k + 1))) W := by
  have hg : (0 : Int) ≤ (k : Int) := by omega
  have hz : ∀ w, (sizeOf 39).run Tryz.prog w = .ok 1 w := fun _ => by kernel_rfl
  have ha : ∀ w, (isAgg 39).run Tryz.prog w = .ok true w := fun _ => by kernel_rfl
  have hu : ∀ w, (underlying 69).run Tryz.prog w = .ok (.array 75 39) w := fun _ => by kernel_rfl
  simp [Instr.index, part, asIntOf, hz, ha, hu, hg]
  intro hh
  omega
/-- The slots behind each table. -/
def mvTmps (n p : Value) : Array Value := ([n, undef, p] ++ (puFs.take 15).map (fun f => Value.agg #[fV f]) ++ [Value.agg mvCells, undef, undef]).toArray
def ctTmps (n p : Value) : Array Value := ([n, undef, p] ++ (puFs.drop 15).map (fun f => Value.agg #[fV f]) ++ [Value.agg ctCells, undef, undef]).toArray
/-- What an entry is. -/
def EnPost (w : World) (f : FuncId) (e : Ending) (w' : World) : Prop := e = .returned (.agg #[fV f]) ∧ Below w.heap.size w w'

theorem moving_ret (f : FuncId) (w : World) (a : Act) (ha : a.tmps[2]?.getD undef = .pointer (some ⟨w.heap.size, 0, none⟩)) (hd : a.defers = []) :
    bodyPost Tryz.prog Tryz.f29 (EnPost w f) .ret a ((w.alloc (.cells #[Value.nilFunc] 39)).setRow w.heap.size #[fV f]) := by
  have hg : (w.alloc (.cells #[Value.nilFunc] 39)).heap[w.heap.size]? = some (.cells #[Value.nilFunc] 39 (0, 0)) := by
    show (w.heap.push _)[w.heap.size]? = _
    rw [Array.getElem?_push, if_pos rfl]
  have hc := fun j => cell_setRow_same _ w.heap.size j _ #[fV f] _ _ hg
  have hb : Below w.heap.size w ((w.alloc (.cells #[Value.nilFunc] 39)).setRow w.heap.size #[fV f]) := by
    have h1 := (Below.refl w.heap.size w).alloc (Nat.le_refl _) (.cells #[Value.nilFunc] 39)
    exact ⟨h1.os, h1.tape, h1.output, by rw [setRow_size]; exact h1.size, fun i hi => (setRow_other _ _ _ _ (by omega)).trans (h1.block i hi)⟩
  generalize ((w.alloc (.cells #[Value.nilFunc] 39)).setRow w.heap.size #[fV f]) = W at hc hb ⊢
  have h0 := hc 0
  clear hc hg
  refine bodyPost_ret (v := .agg #[fV f]) ?_ hd ⟨rfl, hb⟩
  simp at h0
  simp [results, Tryz.results29, ha, go_sem, h0]
set_option maxHeartbeats 400000 in
set_option maxRecDepth 100000 in
theorem moving_any (k : Nat) (h1 : 18 ≤ k) (h2 : k ≤ 32) (w : World) : Calls Tryz.prog 29 #[.int .i64 (k : Int)] w (EnPost w (puF k)) := by
  have hx := Lib.hid (mv_at k h1 h2)
  go_enter Tryz.func29, Tryz.ntmps29
  go_upto_region 1 with (fail)
  refine wp_region_list ?_
  rename_i K hK
  refine wpList_table 16 _ _ { tmps := mvTmps (.int .i64 (k : Int)) (.pointer (some ⟨w.heap.size, 0, none⟩)), defers := [] } (by kernel_rfl) 19 20 (.tmp 0) (.tmp 18) (.tmp 2) 57 39 (by kernel_rfl)
    (.agg #[fV (puF k)]) #[fV (puF k)] _ _ rfl (fun W => Eq.trans (by kernel_rfl) ((index_mv mvCells k (by omega) W).trans (by rw [hx.out]))) rfl w.heap.size (by kernel_rfl) (by kernel_rfl) 39 #[Value.nilFunc] ?_ (by kernel_rfl) (by kernel_rfl) (by kernel_rfl) ?_
  · show (w.heap.push _)[w.heap.size]? = _
    rw [Array.getElem?_push, if_pos rfl]
  · exact hK _ _ (wp_ret (moving_ret (puF k) w _ (by kernel_rfl) rfl))

theorem counting_ret (f : FuncId) (w : World) (a : Act) (ha : a.tmps[2]?.getD undef = .pointer (some ⟨w.heap.size, 0, none⟩)) (hd : a.defers = []) :
    bodyPost Tryz.prog Tryz.f30 (EnPost w f) .ret a ((w.alloc (.cells #[Value.nilFunc] 39)).setRow w.heap.size #[fV f]) := by
  have hg : (w.alloc (.cells #[Value.nilFunc] 39)).heap[w.heap.size]? = some (.cells #[Value.nilFunc] 39 (0, 0)) := by
    show (w.heap.push _)[w.heap.size]? = _
    rw [Array.getElem?_push, if_pos rfl]
  have hc := fun j => cell_setRow_same _ w.heap.size j _ #[fV f] _ _ hg
  have hb : Below w.heap.size w ((w.alloc (.cells #[Value.nilFunc] 39)).setRow w.heap.size #[fV f]) := by
    have h1 := (Below.refl w.heap.size w).alloc (Nat.le_refl _) (.cells #[Value.nilFunc] 39)
    exact ⟨h1.os, h1.tape, h1.output, by rw [setRow_size]; exact h1.size, fun i hi => (setRow_other _ _ _ _ (by omega)).trans (h1.block i hi)⟩
  generalize ((w.alloc (.cells #[Value.nilFunc] 39)).setRow w.heap.size #[fV f]) = W at hc hb ⊢
  have h0 := hc 0
  clear hc hg
  refine bodyPost_ret (v := .agg #[fV f]) ?_ hd ⟨rfl, hb⟩
  simp at h0
  simp [results, Tryz.results30, ha, go_sem, h0]
set_option maxHeartbeats 400000 in
set_option maxRecDepth 100000 in
theorem counting_any (k : Nat) (h1 : 33 ≤ k) (h2 : k ≤ 74) (w : World) : Calls Tryz.prog 30 #[.int .i64 (k : Int)] w (EnPost w (puF k)) := by
  have hx := Lib.hid (ct_at k h1 h2)
  go_enter Tryz.func30, Tryz.ntmps30
  go_upto_region 1 with (fail)
  refine wp_region_list ?_
  rename_i K hK
  refine wpList_table 43 _ _ { tmps := ctTmps (.int .i64 (k : Int)) (.pointer (some ⟨w.heap.size, 0, none⟩)), defers := [] } (by kernel_rfl) 46 47 (.tmp 0) (.tmp 45) (.tmp 2) 69 39 (by kernel_rfl)
    (.agg #[fV (puF k)]) #[fV (puF k)] _ _ rfl (fun W => Eq.trans (by kernel_rfl) ((index_ct ctCells k (by omega) W).trans (by rw [hx.out]))) rfl w.heap.size (by kernel_rfl) (by kernel_rfl) 39 #[Value.nilFunc] ?_ (by kernel_rfl) (by kernel_rfl) (by kernel_rfl) ?_
  · show (w.heap.push _)[w.heap.size]? = _
    rw [Array.getElem?_push, if_pos rfl]
  · exact hK _ _ (wp_ret (counting_ret (puF k) w _ (by kernel_rfl) rfl))

theorem new_kept {w w1 : World} {o : Obj} (h : Below (w.alloc o).heap.size (w.alloc o) w1) (v : Value) (hc : (w.alloc o).cell? ⟨w.heap.size, 0, none⟩ = some v) (hf : (w.alloc o).frozen? ⟨w.heap.size, 0, none⟩ = false) :
    w1.cell? ⟨w.heap.size, 0, none⟩ = some v ∧ w1.frozen? ⟨w.heap.size, 0, none⟩ = false ∧ w.heap.size < w1.heap.size ∧ Below w.heap.size w w1 := by
  have hz : w.heap.size < (w.alloc o).heap.size := by simp
  exact ⟨(h.cell (p := ⟨w.heap.size, 0, none⟩) hz).trans hc, (h.frozen (p := ⟨w.heap.size, 0, none⟩) hz).trans hf, Nat.lt_of_lt_of_le hz h.size, below_then ((Below.refl _ _).alloc (Nat.le_refl _) o) h⟩
set_option maxHeartbeats 400000 in
theorem entry_any (k : Nat) (h1 : 18 ≤ k) (h2 : k ≤ 74) (w : World) : Calls Tryz.prog 21 #[.int .i64 (k : Int)] w (EnPost w (puF k)) := by
  by_cases h : k ≤ 32
  · have hd : decide ((k : Int) ≤ 32) = true := decide_eq_true (by omega)
    go_enter Tryz.func21, Tryz.ntmps21
    go_wp2_with (go_at_call 29; refine (moving_any _ h1 h _).mono ?_; rintro e w1 ⟨rfl, hb⟩; obtain ⟨q0, q1, q2, q3⟩ := new_kept hb Value.nilFunc (by simp [go_sem]) (by simp [go_sem]); have HB := Lib.hid q3; clear hb q3)
    refine bodyPost_ret (v := .agg #[fV (puF k)]) (by simp [results, Tryz.results21, go_sem, q0]) rfl ⟨rfl, HB.out.setCell (Nat.le_refl _) _⟩
  · have hd : decide ((k : Int) ≤ 32) = false := decide_eq_false (by omega)
    go_enter Tryz.func21, Tryz.ntmps21
    go_wp2_with (go_at_call 30; refine (counting_any _ (by omega) h2 _).mono ?_; rintro e w1 ⟨rfl, hb⟩; obtain ⟨q0, q1, q2, q3⟩ := new_kept hb Value.nilFunc (by simp [go_sem]) (by simp [go_sem]); have HB := Lib.hid q3; clear hb q3)
    refine bodyPost_ret (v := .agg #[fV (puF k)]) (by simp [results, Tryz.results21, go_sem, q0]) rfl ⟨rfl, HB.out.setCell (Nat.le_refl _) _⟩
end Go.Proofs.YtnlkggfgloblcaaGreat
