/-
  What Do and All answer (package pure), the plain facts on them, and how a slice that is handed in is opened.
-/
import Derived.Test.YtnlkggfgloblcaaGreatPureMath
import Derived.Test.YtnlkggfgloblcaaGreatOpBuilds
import Derived.Test.YtnlkggfgloblcaaGreatBelowThen
import Derived.Deep.Cut
import Derived.Laws.EntriesVeiled
import Derived.Lib.Hide
import Derived.Test.YtnlkggfgloblcaaGreatPureFnA
import Derived.Test.YtnlkggfgloblcaaGreatPureFnB
import Derived.Test.YtnlkggfgloblcaaGreatPureFnC
import Derived.Test.YtnlkggfgloblcaaGreatOpFew
import Derived.Shelf.Abstract
import Derived.Test.YtnlkggfgloblcaaGreatCellDiv
import Derived.Test.YtnlkggfgloblcaaGreatStkAwake
import Derived.Test.YtnlkggfgloblcaaGreatStkHeld
import Derived.Test.YtnlkggfgloblcaaGreatKeeps
import Derived.ProofKit
import Derived.OpenShut
import Derived.Carry
import Derived.ChangeSlices
/-! From PureEntry. -/
namespace Go.Proofs.YtnlkggfgloblcaaGreat
open Go.RowKit

/-- The calls of DUP to ALIGNED. -/
def puFs : List FuncId := [42, 44, 45, 46, 47, 48, 49, 50, 51, 52, 53, 54, 55, 56, 58, 59, 60, 61, 62, 63, 64, 65, 66, 67, 68, 69, 71, 72, 73, 74, 75, 76, 77, 78, 79, 80, 81, 83, 85, 86, 87, 88, 90, 91, 92, 94, 97, 99, 100, 101, 102, 104, 107, 109, 110, 111, 112]
def puF (k : Nat) : FuncId := puFs.getD (k - 18) 0
/-- A call as a value. -/
abbrev fV (f : FuncId) : Value := .func (.func f) #[] #[]
def mvCells : Array Value := (List.replicate 18 Value.nilFunc ++ (puFs.take 15).map fV).toArray
def ctCells : Array Value := (List.replicate 33 Value.nilFunc ++ (puFs.drop 15).map fV).toArray
theorem mv_at (k : Nat) (h1 : 18 ≤ k) (h2 : k ≤ 32) : mvCells.extract k (k + 1) = #[fV (puF k)] := by
  have h : (List.range 15).map (fun i => (mvCells.extract (18 + i) (18 + i + 1)).toList) = (List.range 15).map fun i => [fV (puF (18 + i))] := by kernel_rfl
  have h3 := congrArg (·[k - 18]?) h
  simp only [List.getElem?_map] at h3
  rw [List.getElem?_range (show k - 18 < 15 by omega)] at h3
  simp only [Option.map_some, Option.some.injEq] at h3
  rw [show 18 + (k - 18) = k by omega] at h3
  exact Array.toList_inj.1 h3
theorem ct_at (k : Nat) (h1 : 33 ≤ k) (h2 : k ≤ 74) : ctCells.extract k (k + 1) = #[fV (puF k)] := by
  have h : (List.range 42).map (fun i => (ctCells.extract (33 + i) (33 + i + 1)).toList) = (List.range 42).map fun i => [fV (puF (33 + i))] := by kernel_rfl
  have h3 := congrArg (·[k - 33]?) h
  simp only [List.getElem?_map] at h3
  rw [List.getElem?_range (show k - 33 < 42 by omega)] at h3
  simp only [Option.map_some, Option.some.injEq] at h3
  rw [show 33 + (k - 33) = k by omega] at h3
  exact Array.toList_inj.1 h3
theorem index_mv (C : Array Value) (k : Nat) (h : k < 33) (W : World) : (Instr.index 57 (.agg C) (.int .i64 (k : Int))).run Tryz.prog W = .ok (.agg (C.extract k (k + 1))) W := by
  have hg : (0 : Int) ≤ (k : Int) := by omega
  have hz : ∀ w, (sizeOf 39).run Tryz.prog w = .ok 1 w := fun _ => by kernel_rfl
  have ha : ∀ w, (isAgg 39).run Tryz.prog w = .ok true w := fun _ => by kernel_rfl
  have hu : ∀ w, (underlying 57).run Tryz.prog w = .ok (.array 33 39) w := fun _ => by kernel_rfl
  simp [Instr.index, part, asIntOf, hz, ha, hu, hg]
  intro hh
  omega
theorem index_ct (C : Array Value) (k : Nat) (h : k < 75) (W : World) : (Instr.index 69 (.agg C) (.int .i64 (k : Int))).run Tryz.prog W = .ok (.agg (C.extract k (k + 1))) W := by
  have hg : (0 : Int) ≤ (k : Int) := by omega
  have hz : ∀ w, (sizeOf 39).run Tryz.prog w = .ok 1 w := fun _ => by kernel_rfl
  have ha : ∀ w, (isAgg 39).run Tryz.prog w = .ok true w := fun _ => by kernel_rfl
  have hu : ∀ w, (underlying 69).run Tryz.prog w = .ok (.array 75 39) w := fun _ => by kernel_rfl
  simp [Instr.index, part, asIntOf, hz, ha, hu, hg]
  intro hh
  omega
/-- The slots behind each table. -/
def mvTmps (n p : Value) : Array Value := ([n, undef, p] ++ (puFs.take 15).map (fun f => Value.agg #[fV f]) ++ [Value.agg mvCells, undef, undef]).toArray
def ctTmps (n p : Value) : Array Value := ([n, undef, p] ++ (puFs.drop 15).map (fun f => Value.agg #[fV f]) ++ [Value.agg ctCells, undef, undef]).toArray
/-- What an entry is. -/
def EnPost (w : World) (f : FuncId) (e : Ending) (w' : World) : Prop := e = .returned (.agg #[fV f]) ∧ Below w.heap.size w w'

theorem moving_ret (f : FuncId) (w : World) (a : Act) (ha : a.tmps[2]?.getD undef = .pointer (some ⟨w.heap.size, 0, none⟩)) (hd : a.defers = []) :
    bodyPost Tryz.prog Tryz.f29 (EnPost w f) .ret a ((w.alloc (.cells #[Value.nilFunc] 39)).setRow w.heap.size #[fV f]) := by
  have hg : (w.alloc (.cells #[Value.nilFunc] 39)).heap[w.heap.size]? = some (.cells #[Value.nilFunc] 39 (0, 0)) := by
    show (w.heap.push _)[w.heap.size]? = _
    rw [Array.getElem?_push, if_pos rfl]
  have hc := fun j => cell_setRow_same _ w.heap.size j _ #[fV f] _ _ hg
  have hb : Below w.heap.size w ((w.alloc (.cells #[Value.nilFunc] 39)).setRow w.heap.size #[fV f]) := by
    have h1 := (Below.refl w.heap.size w).alloc (Nat.le_refl _) (.cells #[Value.nilFunc] 39)
    exact ⟨h1.os, h1.tape, h1.output, by rw [setRow_size]; exact h1.size, fun i hi => (setRow_other _ _ _ _ (by omega)).trans (h1.block i hi)⟩
  generalize ((w.alloc (.cells #[Value.nilFunc] 39)).setRow w.heap.size #[fV f]) = W at hc hb ⊢
  have h0 := hc 0
  clear hc hg
  refine bodyPost_ret (v := .agg #[fV f]) ?_ hd ⟨rfl, hb⟩
  simp at h0
  simp [results, Tryz.results29, ha, go_sem, h0]
set_option maxHeartbeats 400000 in
set_option maxRecDepth 100000 in
theorem moving_any (k : Nat) (h1 : 18 ≤ k) (h2 : k ≤ 32) (w : World) : Calls Tryz.prog 29 #[.int .i64 (k : Int)] w (EnPost w (puF k)) := by
  have hx := Lib.hid (mv_at k h1 h2)
  go_enter Tryz.func29, Tryz.ntmps29
  go_upto_region 1 with (fail)
  refine wp_region_list ?_
  rename_i K hK
  refine wpList_table 16 _ _ { tmps := mvTmps (.int .i64 (k : Int)) (.pointer (some ⟨w.heap.size, 0, none⟩)), defers := [] } (by kernel_rfl) 19 20 (.tmp 0) (.tmp 18) (.tmp 2) 57 39 (by kernel_rfl)
    (.agg #[fV (puF k)]) #[fV (puF k)] _ _ rfl (fun W => Eq.trans (by kernel_rfl) ((index_mv mvCells k (by omega) W).trans (by rw [hx.out]))) rfl w.heap.size (by kernel_rfl) (by kernel_rfl) 39 #[Value.nilFunc] ?_ (by kernel_rfl) (by kernel_rfl) (by kernel_rfl) ?_
  · show (w.heap.push _)[w.heap.size]? = _
    rw [Array.getElem?_push, if_pos rfl]
  · exact hK _ _ (wp_ret (moving_ret (puF k) w _ (by kernel_rfl) rfl))

theorem counting_ret (f : FuncId) (w : World) (a : Act) (ha : a.tmps[2]?.getD undef = .pointer (some ⟨w.heap.size, 0, none⟩)) (hd : a.defers = []) :
    bodyPost Tryz.prog Tryz.f30 (EnPost w f) .ret a ((w.alloc (.cells #[Value.nilFunc] 39)).setRow w.heap.size #[fV f]) := by
  have hg : (w.alloc (.cells #[Value.nilFunc] 39)).heap[w.heap.size]? = some (.cells #[Value.nilFunc] 39 (0, 0)) := by
    show (w.heap.push _)[w.heap.size]? = _
    rw [Array.getElem?_push, if_pos rfl]
  have hc := fun j => cell_setRow_same _ w.heap.size j _ #[fV f] _ _ hg
  have hb : Below w.heap.size w ((w.alloc (.cells #[Value.nilFunc] 39)).setRow w.heap.size #[fV f]) := by
    have h1 := (Below.refl w.heap.size w).alloc (Nat.le_refl _) (.cells #[Value.nilFunc] 39)
    exact ⟨h1.os, h1.tape, h1.output, by rw [setRow_size]; exact h1.size, fun i hi => (setRow_other _ _ _ _ (by omega)).trans (h1.block i hi)⟩
  generalize ((w.alloc (.cells #[Value.nilFunc] 39)).setRow w.heap.size #[fV f]) = W at hc hb ⊢
  have h0 := hc 0
  clear hc hg
  refine bodyPost_ret (v := .agg #[fV f]) ?_ hd ⟨rfl, hb⟩
  simp at h0
  simp [results, Tryz.results30, ha, go_sem, h0]
set_option maxHeartbeats 400000 in
set_option maxRecDepth 100000 in
theorem counting_any (k : Nat) (h1 : 33 ≤ k) (h2 : k ≤ 74) (w : World) : Calls Tryz.prog 30 #[.int .i64 (k : Int)] w (EnPost w (puF k)) := by
  have hx := Lib.hid (ct_at k h1 h2)
  go_enter Tryz.func30, Tryz.ntmps30
  go_upto_region 1 with (fail)
  refine wp_region_list ?_
  rename_i K hK
  refine wpList_table 43 _ _ { tmps := ctTmps (.int .i64 (k : Int)) (.pointer (some ⟨w.heap.size, 0, none⟩)), defers := [] } (by kernel_rfl) 46 47 (.tmp 0) (.tmp 45) (.tmp 2) 69 39 (by kernel_rfl)
    (.agg #[fV (puF k)]) #[fV (puF k)] _ _ rfl (fun W => Eq.trans (by kernel_rfl) ((index_ct ctCells k (by omega) W).trans (by rw [hx.out]))) rfl w.heap.size (by kernel_rfl) (by kernel_rfl) 39 #[Value.nilFunc] ?_ (by kernel_rfl) (by kernel_rfl) (by kernel_rfl) ?_
  · show (w.heap.push _)[w.heap.size]? = _
    rw [Array.getElem?_push, if_pos rfl]
  · exact hK _ _ (wp_ret (counting_ret (puF k) w _ (by kernel_rfl) rfl))

theorem new_kept {w w1 : World} {o : Obj} (h : Below (w.alloc o).heap.size (w.alloc o) w1) (v : Value) (hc : (w.alloc o).cell? ⟨w.heap.size, 0, none⟩ = some v) (hf : (w.alloc o).frozen? ⟨w.heap.size, 0, none⟩ = false) :
    w1.cell? ⟨w.heap.size, 0, none⟩ = some v ∧ w1.frozen? ⟨w.heap.size, 0, none⟩ = false ∧ w.heap.size < w1.heap.size ∧ Below w.heap.size w w1 := by
  have hz : w.heap.size < (w.alloc o).heap.size := by simp
  exact ⟨(h.cell (p := ⟨w.heap.size, 0, none⟩) hz).trans hc, (h.frozen (p := ⟨w.heap.size, 0, none⟩) hz).trans hf, Nat.lt_of_lt_of_le hz h.size, below_then ((Below.refl _ _).alloc (Nat.le_refl _) o) h⟩
set_option maxHeartbeats 400000 in
theorem entry_any (k : Nat) (h1 : 18 ≤ k) (h2 : k ≤ 74) (w : World) : Calls Tryz.prog 21 #[.int .i64 (k : Int)] w (EnPost w (puF k)) := by
  by_cases h : k ≤ 32
  · have hd : decide ((k : Int) ≤ 32) = true := decide_eq_true (by omega)
    go_enter Tryz.func21, Tryz.ntmps21
    go_wp2_with (go_at_call 29; refine (moving_any _ h1 h _).mono ?_; rintro e w1 ⟨rfl, hb⟩; obtain ⟨q0, q1, q2, q3⟩ := new_kept hb Value.nilFunc (by simp [go_sem]) (by simp [go_sem]); have HB := Lib.hid q3; clear hb q3)
    refine bodyPost_ret (v := .agg #[fV (puF k)]) (by simp [results, Tryz.results21, go_sem, q0]) rfl ⟨rfl, HB.out.setCell (Nat.le_refl _) _⟩
  · have hd : decide ((k : Int) ≤ 32) = false := decide_eq_false (by omega)
    go_enter Tryz.func21, Tryz.ntmps21
    go_wp2_with (go_at_call 30; refine (counting_any _ (by omega) h2 _).mono ?_; rintro e w1 ⟨rfl, hb⟩; obtain ⟨q0, q1, q2, q3⟩ := new_kept hb Value.nilFunc (by simp [go_sem]) (by simp [go_sem]); have HB := Lib.hid q3; clear hb q3)
    refine bodyPost_ret (v := .agg #[fV (puF k)]) (by simp [results, Tryz.results21, go_sem, q0]) rfl ⟨rfl, HB.out.setCell (Nat.le_refl _) _⟩
end Go.Proofs.YtnlkggfgloblcaaGreat

/-! From PureFns. -/
namespace Go.Proofs.YtnlkggfgloblcaaGreat
open Go.RowKit

theorem len0 {x : List Int} (h : x.length = 0) : x = [] := List.eq_nil_of_length_eq_zero h
theorem len1 {x : List Int} (h : x.length = 1) : ∃ a, x = [a] := by
  match x, h with
  | [a], _ => exact ⟨a, rfl⟩
theorem len2 {x : List Int} (h : x.length = 2) : ∃ a b, x = [a, b] := by
  match x, h with
  | [a, b], _ => exact ⟨a, b, rfl⟩
theorem len3 {x : List Int} (h : x.length = 3) : ∃ a b c, x = [a, b, c] := by
  match x, h with
  | [a, b, c], _ => exact ⟨a, b, c, rfl⟩
theorem len4 {x : List Int} (h : x.length = 4) : ∃ a b c d, x = [a, b, c, d] := by
  match x, h with
  | [a, b, c, d], _ => exact ⟨a, b, c, d, rfl⟩
/-- What an operation's own call answers. -/
def FnSays (k : Nat) : Prop := ∀ (A : Option Addr) (n q : Nat) (l : List Int) (B : Option Addr) (m N : Nat) (x : List Int) (w : World), n ≤ 10000 → Stk w A n q l → Stk w B N m x → N = puNs.getD (k - 18) 0 → AllC x →
    Calls Tryz.prog (puF k) #[.slice A n q, .slice B N m] w (PuPost w (puL k l x) (puE k l x))
theorem fn18 : FnSays 18 := by
  intro A n q l B m N x w hn h1 h2 hN hC
  subst hN
  obtain ⟨a, rfl⟩ := len1 (x := x) h2.len
  exact p18_any A n q l B m a w hn h1 h2 (hC _ (by simp))
theorem fn19 : FnSays 19 := by
  intro A n q l B m N x w hn h1 h2 hN hC
  subst hN
  obtain ⟨a, rfl⟩ := len1 (x := x) h2.len
  exact p19_any A n q l B m a w hn h1 h2 (hC _ (by simp))
theorem fn20 : FnSays 20 := by
  intro A n q l B m N x w hn h1 h2 hN hC
  subst hN
  obtain ⟨a, b, rfl⟩ := len2 (x := x) h2.len
  exact p20_any A n q l B m a b w hn h1 h2 (hC _ (by simp)) (hC _ (by simp))
theorem fn21 : FnSays 21 := by
  intro A n q l B m N x w hn h1 h2 hN hC
  subst hN
  obtain ⟨a, b, rfl⟩ := len2 (x := x) h2.len
  exact p21_any A n q l B m a b w hn h1 h2 (hC _ (by simp)) (hC _ (by simp))
theorem fn22 : FnSays 22 := by
  intro A n q l B m N x w hn h1 h2 hN hC
  subst hN
  obtain ⟨a, b, c, rfl⟩ := len3 (x := x) h2.len
  exact p22_any A n q l B m a b c w hn h1 h2 (hC _ (by simp)) (hC _ (by simp)) (hC _ (by simp))
theorem fn23 : FnSays 23 := by
  intro A n q l B m N x w hn h1 h2 hN hC
  subst hN
  obtain ⟨a, b, rfl⟩ := len2 (x := x) h2.len
  exact p23_any A n q l B m a b w hn h1 h2 (hC _ (by simp)) (hC _ (by simp))
theorem fn24 : FnSays 24 := by
  intro A n q l B m N x w hn h1 h2 hN hC
  subst hN
  obtain ⟨a, b, rfl⟩ := len2 (x := x) h2.len
  exact p24_any A n q l B m a b w hn h1 h2 (hC _ (by simp)) (hC _ (by simp))
theorem fn25 : FnSays 25 := by
  intro A n q l B m N x w hn h1 h2 hN hC
  subst hN
  obtain ⟨a, b, rfl⟩ := len2 (x := x) h2.len
  exact p25_any A n q l B m a b w hn h1 h2 (hC _ (by simp)) (hC _ (by simp))
theorem fn26 : FnSays 26 := by
  intro A n q l B m N x w hn h1 h2 hN hC
  subst hN
  obtain ⟨a, b, rfl⟩ := len2 (x := x) h2.len
  exact p26_any A n q l B m a b w hn h1 h2 (hC _ (by simp)) (hC _ (by simp))
theorem fn27 : FnSays 27 := by
  intro A n q l B m N x w hn h1 h2 hN hC
  subst hN
  obtain ⟨a, b, c, d, rfl⟩ := len4 (x := x) h2.len
  exact p27_any A n q l B m a b c d w hn h1 h2 (hC _ (by simp)) (hC _ (by simp)) (hC _ (by simp)) (hC _ (by simp))
theorem fn28 : FnSays 28 := by
  intro A n q l B m N x w hn h1 h2 hN hC
  subst hN
  obtain ⟨a, b, c, d, rfl⟩ := len4 (x := x) h2.len
  exact p28_any A n q l B m a b c d w hn h1 h2 (hC _ (by simp)) (hC _ (by simp)) (hC _ (by simp)) (hC _ (by simp))
theorem fn29 : FnSays 29 := by
  intro A n q l B m N x w hn h1 h2 hN hC
  subst hN
  obtain ⟨a, rfl⟩ := len1 (x := x) h2.len
  exact p29_any A n q l B m a w hn h1 h2 (hC _ (by simp))
theorem fn30 : FnSays 30 := by
  intro A n q l B m N x w hn h1 h2 hN hC
  subst hN
  obtain ⟨a, rfl⟩ := len1 (x := x) h2.len
  exact p30_any A n q l B m a w hn h1 h2 (hC _ (by simp))
theorem fn31 : FnSays 31 := by
  intro A n q l B m N x w hn h1 h2 hN hC
  subst hN
  obtain ⟨a, rfl⟩ := len1 (x := x) h2.len
  exact p31_any A n q l B m a w hn h1 h2 (hC _ (by simp))
theorem fn32 : FnSays 32 := by
  intro A n q l B m N x w hn h1 h2 hN hC
  subst hN
  obtain rfl := len0 (x := x) h2.len
  exact p32_any A n q l B m  w hn h1 h2
theorem fn33 : FnSays 33 := by
  intro A n q l B m N x w hn h1 h2 hN hC
  subst hN
  obtain ⟨a, b, rfl⟩ := len2 (x := x) h2.len
  exact p33_any A n q l B m a b w hn h1 h2 (hC _ (by simp)) (hC _ (by simp))
theorem fn34 : FnSays 34 := by
  intro A n q l B m N x w hn h1 h2 hN hC
  subst hN
  obtain ⟨a, b, rfl⟩ := len2 (x := x) h2.len
  exact p34_any A n q l B m a b w hn h1 h2 (hC _ (by simp)) (hC _ (by simp))
theorem fn35 : FnSays 35 := by
  intro A n q l B m N x w hn h1 h2 hN hC
  subst hN
  obtain ⟨a, b, rfl⟩ := len2 (x := x) h2.len
  exact p35_any A n q l B m a b w hn h1 h2 (hC _ (by simp)) (hC _ (by simp))
theorem fn36 : FnSays 36 := by
  intro A n q l B m N x w hn h1 h2 hN hC
  subst hN
  obtain ⟨a, b, rfl⟩ := len2 (x := x) h2.len
  exact p36_any A n q l B m a b w hn h1 h2 (hC _ (by simp)) (hC _ (by simp))
theorem fn37 : FnSays 37 := by
  intro A n q l B m N x w hn h1 h2 hN hC
  subst hN
  obtain ⟨a, b, rfl⟩ := len2 (x := x) h2.len
  exact p37_any A n q l B m a b w hn h1 h2 (hC _ (by simp)) (hC _ (by simp))
theorem fn38 : FnSays 38 := by
  intro A n q l B m N x w hn h1 h2 hN hC
  subst hN
  obtain ⟨a, b, rfl⟩ := len2 (x := x) h2.len
  exact p38_any A n q l B m a b w hn h1 h2 (hC _ (by simp)) (hC _ (by simp))
theorem fn39 : FnSays 39 := by
  intro A n q l B m N x w hn h1 h2 hN hC
  subst hN
  obtain ⟨a, b, c, rfl⟩ := len3 (x := x) h2.len
  exact p39_any A n q l B m a b c w hn h1 h2 (hC _ (by simp)) (hC _ (by simp)) (hC _ (by simp))
theorem fn40 : FnSays 40 := by
  intro A n q l B m N x w hn h1 h2 hN hC
  subst hN
  obtain ⟨a, b, c, rfl⟩ := len3 (x := x) h2.len
  exact p40_any A n q l B m a b c w hn h1 h2 (hC _ (by simp)) (hC _ (by simp)) (hC _ (by simp))
theorem fn41 : FnSays 41 := by
  intro A n q l B m N x w hn h1 h2 hN hC
  subst hN
  obtain ⟨a, rfl⟩ := len1 (x := x) h2.len
  exact p41_any A n q l B m a w hn h1 h2 (hC _ (by simp))
theorem fn42 : FnSays 42 := by
  intro A n q l B m N x w hn h1 h2 hN hC
  subst hN
  obtain ⟨a, rfl⟩ := len1 (x := x) h2.len
  exact p42_any A n q l B m a w hn h1 h2 (hC _ (by simp))
theorem fn43 : FnSays 43 := by
  intro A n q l B m N x w hn h1 h2 hN hC
  subst hN
  obtain ⟨a, rfl⟩ := len1 (x := x) h2.len
  exact p43_any A n q l B m a w hn h1 h2 (hC _ (by simp))
theorem fn44 : FnSays 44 := by
  intro A n q l B m N x w hn h1 h2 hN hC
  subst hN
  obtain ⟨a, rfl⟩ := len1 (x := x) h2.len
  exact p44_any A n q l B m a w hn h1 h2 (hC _ (by simp))
theorem fn45 : FnSays 45 := by
  intro A n q l B m N x w hn h1 h2 hN hC
  subst hN
  obtain ⟨a, rfl⟩ := len1 (x := x) h2.len
  exact p45_any A n q l B m a w hn h1 h2 (hC _ (by simp))
theorem fn46 : FnSays 46 := by
  intro A n q l B m N x w hn h1 h2 hN hC
  subst hN
  obtain ⟨a, rfl⟩ := len1 (x := x) h2.len
  exact p46_any A n q l B m a w hn h1 h2 (hC _ (by simp))
theorem fn47 : FnSays 47 := by
  intro A n q l B m N x w hn h1 h2 hN hC
  subst hN
  obtain ⟨a, b, rfl⟩ := len2 (x := x) h2.len
  exact p47_any A n q l B m a b w hn h1 h2 (hC _ (by simp)) (hC _ (by simp))
theorem fn48 : FnSays 48 := by
  intro A n q l B m N x w hn h1 h2 hN hC
  subst hN
  obtain ⟨a, b, rfl⟩ := len2 (x := x) h2.len
  exact p48_any A n q l B m a b w hn h1 h2 (hC _ (by simp)) (hC _ (by simp))
theorem fn49 : FnSays 49 := by
  intro A n q l B m N x w hn h1 h2 hN hC
  subst hN
  obtain ⟨a, b, rfl⟩ := len2 (x := x) h2.len
  exact p49_any A n q l B m a b w hn h1 h2 (hC _ (by simp)) (hC _ (by simp))
theorem fn50 : FnSays 50 := by
  intro A n q l B m N x w hn h1 h2 hN hC
  subst hN
  obtain ⟨a, b, rfl⟩ := len2 (x := x) h2.len
  exact p50_any A n q l B m a b w hn h1 h2 (hC _ (by simp)) (hC _ (by simp))
theorem fn51 : FnSays 51 := by
  intro A n q l B m N x w hn h1 h2 hN hC
  subst hN
  obtain ⟨a, b, rfl⟩ := len2 (x := x) h2.len
  exact p51_any A n q l B m a b w hn h1 h2 (hC _ (by simp)) (hC _ (by simp))
theorem fn52 : FnSays 52 := by
  intro A n q l B m N x w hn h1 h2 hN hC
  subst hN
  obtain ⟨a, rfl⟩ := len1 (x := x) h2.len
  exact p52_any A n q l B m a w hn h1 h2 (hC _ (by simp))
theorem fn53 : FnSays 53 := by
  intro A n q l B m N x w hn h1 h2 hN hC
  subst hN
  obtain ⟨a, b, rfl⟩ := len2 (x := x) h2.len
  exact p53_any A n q l B m a b w hn h1 h2 (hC _ (by simp)) (hC _ (by simp))
theorem fn54 : FnSays 54 := by
  intro A n q l B m N x w hn h1 h2 hN hC
  subst hN
  obtain ⟨a, b, rfl⟩ := len2 (x := x) h2.len
  exact p54_any A n q l B m a b w hn h1 h2 (hC _ (by simp)) (hC _ (by simp))
theorem fn55 : FnSays 55 := by
  intro A n q l B m N x w hn h1 h2 hN hC
  subst hN
  obtain ⟨a, b, rfl⟩ := len2 (x := x) h2.len
  exact p55_any A n q l B m a b w hn h1 h2 (hC _ (by simp)) (hC _ (by simp))
theorem fn56 : FnSays 56 := by
  intro A n q l B m N x w hn h1 h2 hN hC
  subst hN
  obtain ⟨a, b, rfl⟩ := len2 (x := x) h2.len
  exact p56_any A n q l B m a b w hn h1 h2 (hC _ (by simp)) (hC _ (by simp))
theorem fn57 : FnSays 57 := by
  intro A n q l B m N x w hn h1 h2 hN hC
  subst hN
  obtain ⟨a, b, rfl⟩ := len2 (x := x) h2.len
  exact p57_any A n q l B m a b w hn h1 h2 (hC _ (by simp)) (hC _ (by simp))
theorem fn58 : FnSays 58 := by
  intro A n q l B m N x w hn h1 h2 hN hC
  subst hN
  obtain ⟨a, b, rfl⟩ := len2 (x := x) h2.len
  exact p58_any A n q l B m a b w hn h1 h2 (hC _ (by simp)) (hC _ (by simp))
theorem fn59 : FnSays 59 := by
  intro A n q l B m N x w hn h1 h2 hN hC
  subst hN
  obtain ⟨a, b, rfl⟩ := len2 (x := x) h2.len
  exact p59_any A n q l B m a b w hn h1 h2 (hC _ (by simp)) (hC _ (by simp))
theorem fn60 : FnSays 60 := by
  intro A n q l B m N x w hn h1 h2 hN hC
  subst hN
  obtain ⟨a, rfl⟩ := len1 (x := x) h2.len
  exact p60_any A n q l B m a w hn h1 h2 (hC _ (by simp))
theorem fn61 : FnSays 61 := by
  intro A n q l B m N x w hn h1 h2 hN hC
  subst hN
  obtain ⟨a, rfl⟩ := len1 (x := x) h2.len
  exact p61_any A n q l B m a w hn h1 h2 (hC _ (by simp))
theorem fn62 : FnSays 62 := by
  intro A n q l B m N x w hn h1 h2 hN hC
  subst hN
  obtain ⟨a, b, c, rfl⟩ := len3 (x := x) h2.len
  exact p62_any A n q l B m a b c w hn h1 h2 (hC _ (by simp)) (hC _ (by simp)) (hC _ (by simp))
theorem fn63 : FnSays 63 := by
  intro A n q l B m N x w hn h1 h2 hN hC
  subst hN
  obtain ⟨a, b, rfl⟩ := len2 (x := x) h2.len
  exact p63_any A n q l B m a b w hn h1 h2 (hC _ (by simp)) (hC _ (by simp))
theorem fn64 : FnSays 64 := by
  intro A n q l B m N x w hn h1 h2 hN hC
  subst hN
  obtain ⟨a, b, rfl⟩ := len2 (x := x) h2.len
  exact p64_any A n q l B m a b w hn h1 h2 (hC _ (by simp)) (hC _ (by simp))
theorem fn65 : FnSays 65 := by
  intro A n q l B m N x w hn h1 h2 hN hC
  subst hN
  obtain ⟨a, b, c, rfl⟩ := len3 (x := x) h2.len
  exact p65_any A n q l B m a b c w hn h1 h2 (hC _ (by simp)) (hC _ (by simp)) (hC _ (by simp))
theorem fn66 : FnSays 66 := by
  intro A n q l B m N x w hn h1 h2 hN hC
  subst hN
  obtain ⟨a, b, c, rfl⟩ := len3 (x := x) h2.len
  exact p66_any A n q l B m a b c w hn h1 h2 (hC _ (by simp)) (hC _ (by simp)) (hC _ (by simp))
theorem fn67 : FnSays 67 := by
  intro A n q l B m N x w hn h1 h2 hN hC
  subst hN
  obtain ⟨a, b, c, rfl⟩ := len3 (x := x) h2.len
  exact p67_any A n q l B m a b c w hn h1 h2 (hC _ (by simp)) (hC _ (by simp)) (hC _ (by simp))
theorem fn68 : FnSays 68 := by
  intro A n q l B m N x w hn h1 h2 hN hC
  subst hN
  obtain ⟨a, rfl⟩ := len1 (x := x) h2.len
  exact p68_any A n q l B m a w hn h1 h2 (hC _ (by simp))
theorem fn69 : FnSays 69 := by
  intro A n q l B m N x w hn h1 h2 hN hC
  subst hN
  obtain ⟨a, b, c, d, rfl⟩ := len4 (x := x) h2.len
  exact p69_any A n q l B m a b c d w hn h1 h2 (hC _ (by simp)) (hC _ (by simp)) (hC _ (by simp)) (hC _ (by simp))
theorem fn70 : FnSays 70 := by
  intro A n q l B m N x w hn h1 h2 hN hC
  subst hN
  obtain ⟨a, b, rfl⟩ := len2 (x := x) h2.len
  exact p70_any A n q l B m a b w hn h1 h2 (hC _ (by simp)) (hC _ (by simp))
theorem fn71 : FnSays 71 := by
  intro A n q l B m N x w hn h1 h2 hN hC
  subst hN
  obtain ⟨a, rfl⟩ := len1 (x := x) h2.len
  exact p71_any A n q l B m a w hn h1 h2 (hC _ (by simp))
theorem fn72 : FnSays 72 := by
  intro A n q l B m N x w hn h1 h2 hN hC
  subst hN
  obtain ⟨a, rfl⟩ := len1 (x := x) h2.len
  exact p72_any A n q l B m a w hn h1 h2 (hC _ (by simp))
theorem fn73 : FnSays 73 := by
  intro A n q l B m N x w hn h1 h2 hN hC
  subst hN
  obtain ⟨a, rfl⟩ := len1 (x := x) h2.len
  exact p73_any A n q l B m a w hn h1 h2 (hC _ (by simp))
theorem fn74 : FnSays 74 := by
  intro A n q l B m N x w hn h1 h2 hN hC
  subst hN
  obtain ⟨a, rfl⟩ := len1 (x := x) h2.len
  exact p74_any A n q l B m a w hn h1 h2 (hC _ (by simp))
theorem fn_any (k : Nat) (h1 : 18 ≤ k) (h2 : k ≤ 74) : FnSays k := by
  rcases op_split k h1 h2 with rfl | rfl | rfl | rfl | rfl | rfl | rfl | rfl | rfl | rfl | rfl | rfl | rfl | rfl | rfl | rfl | rfl | rfl | rfl | rfl | rfl | rfl | rfl | rfl | rfl | rfl | rfl | rfl | rfl | rfl | rfl | rfl | rfl | rfl | rfl | rfl | rfl | rfl | rfl | rfl | rfl | rfl | rfl | rfl | rfl | rfl | rfl | rfl | rfl | rfl | rfl | rfl | rfl | rfl | rfl | rfl | rfl
  · exact fn18
  · exact fn19
  · exact fn20
  · exact fn21
  · exact fn22
  · exact fn23
  · exact fn24
  · exact fn25
  · exact fn26
  · exact fn27
  · exact fn28
  · exact fn29
  · exact fn30
  · exact fn31
  · exact fn32
  · exact fn33
  · exact fn34
  · exact fn35
  · exact fn36
  · exact fn37
  · exact fn38
  · exact fn39
  · exact fn40
  · exact fn41
  · exact fn42
  · exact fn43
  · exact fn44
  · exact fn45
  · exact fn46
  · exact fn47
  · exact fn48
  · exact fn49
  · exact fn50
  · exact fn51
  · exact fn52
  · exact fn53
  · exact fn54
  · exact fn55
  · exact fn56
  · exact fn57
  · exact fn58
  · exact fn59
  · exact fn60
  · exact fn61
  · exact fn62
  · exact fn63
  · exact fn64
  · exact fn65
  · exact fn66
  · exact fn67
  · exact fn68
  · exact fn69
  · exact fn70
  · exact fn71
  · exact fn72
  · exact fn73
  · exact fn74
/-- A call of an operation enters it. -/
theorem enters_any (k : Nat) (h1 : 18 ≤ k) (h2 : k ≤ 74) : Enters Tryz.prog (puF k) := by
  rcases op_split k h1 h2 with rfl | rfl | rfl | rfl | rfl | rfl | rfl | rfl | rfl | rfl | rfl | rfl | rfl | rfl | rfl | rfl | rfl | rfl | rfl | rfl | rfl | rfl | rfl | rfl | rfl | rfl | rfl | rfl | rfl | rfl | rfl | rfl | rfl | rfl | rfl | rfl | rfl | rfl | rfl | rfl | rfl | rfl | rfl | rfl | rfl | rfl | rfl | rfl | rfl | rfl | rfl | rfl | rfl | rfl | rfl | rfl | rfl
  · exact enters_of Tryz.func42 (by kernel_rfl) rfl
  · exact enters_of Tryz.func44 (by kernel_rfl) rfl
  · exact enters_of Tryz.func45 (by kernel_rfl) rfl
  · exact enters_of Tryz.func46 (by kernel_rfl) rfl
  · exact enters_of Tryz.func47 (by kernel_rfl) rfl
  · exact enters_of Tryz.func48 (by kernel_rfl) rfl
  · exact enters_of Tryz.func49 (by kernel_rfl) rfl
  · exact enters_of Tryz.func50 (by kernel_rfl) rfl
  · exact enters_of Tryz.func51 (by kernel_rfl) rfl
  · exact enters_of Tryz.func52 (by kernel_rfl) rfl
  · exact enters_of Tryz.func53 (by kernel_rfl) rfl
  · exact enters_of Tryz.func54 (by kernel_rfl) rfl
  · exact enters_of Tryz.func55 (by kernel_rfl) rfl
  · exact enters_of Tryz.func56 (by kernel_rfl) rfl
  · exact enters_of Tryz.func58 (by kernel_rfl) rfl
  · exact enters_of Tryz.func59 (by kernel_rfl) rfl
  · exact enters_of Tryz.func60 (by kernel_rfl) rfl
  · exact enters_of Tryz.func61 (by kernel_rfl) rfl
  · exact enters_of Tryz.func62 (by kernel_rfl) rfl
  · exact enters_of Tryz.func63 (by kernel_rfl) rfl
  · exact enters_of Tryz.func64 (by kernel_rfl) rfl
  · exact enters_of Tryz.func65 (by kernel_rfl) rfl
  · exact enters_of Tryz.func66 (by kernel_rfl) rfl
  · exact enters_of Tryz.func67 (by kernel_rfl) rfl
  · exact enters_of Tryz.func68 (by kernel_rfl) rfl
  · exact enters_of Tryz.func69 (by kernel_rfl) rfl
  · exact enters_of Tryz.func71 (by kernel_rfl) rfl
  · exact enters_of Tryz.func72 (by kernel_rfl) rfl
  · exact enters_of Tryz.func73 (by kernel_rfl) rfl
  · exact enters_of Tryz.func74 (by kernel_rfl) rfl
  · exact enters_of Tryz.func75 (by kernel_rfl) rfl
  · exact enters_of Tryz.func76 (by kernel_rfl) rfl
  · exact enters_of Tryz.func77 (by kernel_rfl) rfl
  · exact enters_of Tryz.func78 (by kernel_rfl) rfl
  · exact enters_of Tryz.func79 (by kernel_rfl) rfl
  · exact enters_of Tryz.func80 (by kernel_rfl) rfl
  · exact enters_of Tryz.func81 (by kernel_rfl) rfl
  · exact enters_of Tryz.func83 (by kernel_rfl) rfl
  · exact enters_of Tryz.func85 (by kernel_rfl) rfl
  · exact enters_of Tryz.func86 (by kernel_rfl) rfl
  · exact enters_of Tryz.func87 (by kernel_rfl) rfl
  · exact enters_of Tryz.func88 (by kernel_rfl) rfl
  · exact enters_of Tryz.func90 (by kernel_rfl) rfl
  · exact enters_of Tryz.func91 (by kernel_rfl) rfl
  · exact enters_of Tryz.func92 (by kernel_rfl) rfl
  · exact enters_of Tryz.func94 (by kernel_rfl) rfl
  · exact enters_of Tryz.func97 (by kernel_rfl) rfl
  · exact enters_of Tryz.func99 (by kernel_rfl) rfl
  · exact enters_of Tryz.func100 (by kernel_rfl) rfl
  · exact enters_of Tryz.func101 (by kernel_rfl) rfl
  · exact enters_of Tryz.func102 (by kernel_rfl) rfl
  · exact enters_of Tryz.func104 (by kernel_rfl) rfl
  · exact enters_of Tryz.func107 (by kernel_rfl) rfl
  · exact enters_of Tryz.func109 (by kernel_rfl) rfl
  · exact enters_of Tryz.func110 (by kernel_rfl) rfl
  · exact enters_of Tryz.func111 (by kernel_rfl) rfl
  · exact enters_of Tryz.func112 (by kernel_rfl) rfl
end Go.Proofs.YtnlkggfgloblcaaGreat

/-! From PureDo. -/
namespace Go.Proofs.YtnlkggfgloblcaaGreat
open Go.RowKit

theorem doE_host {o : Int} {d : List Int} (h : puG o = false) : doE o d = -21 := by simp [doE, h]
theorem doE_under {o : Int} {d : List Int} (h : puG o = true) (h2 : d.length < puN o) : doE o d = -4 := by simp [doE, h, h2]
theorem doE_over {o : Int} {d : List Int} (h : puG o = true) (h2 : ¬ d.length < puN o) (h3 : 64 < d.length) : doE o d = -3 := by simp [doE, h, h2, h3]
theorem doE_in {o : Int} {d : List Int} (h : puG o = true) (h2 : ¬ d.length < puN o) (h3 : ¬ 64 < d.length) : doE o d = puE o.toNat (d.take (d.length - puN o)) (d.drop (d.length - puN o)) := by
  unfold doE
  rw [if_neg (by rw [h]; decide), if_neg h2, if_neg h3]
theorem doL_bad {o : Int} {d : List Int} (h : doE o d ≠ 0) : doL o d = d := by unfold doL; rw [if_neg h]
theorem doL_ok {o : Int} {d : List Int} (h : doE o d = 0) : doL o d = puL o.toNat (d.take (d.length - puN o)) (d.drop (d.length - puN o)) := by unfold doL; rw [if_pos h]
theorem pu_as {w : World} {l l' : List Int} {t t' : Int} {e : Ending} {w' : World} (h : PuPost w l t e w') (hl : l = l') (ht : t = t') : PuPost w l' t' e w' := hl ▸ ht ▸ h

set_option maxHeartbeats 1000000 in
theorem do_host (o : Int) (A : Option Addr) (n q : Nat) (d : List Int) (w : World) (h : puG o = false) (h1 : Stk w A n q d) :
    Calls Tryz.prog 12 #[.int .i64 o, .slice A n q] w (PuPost w d (-21)) := by
  obtain ⟨v, hv⟩ : ∃ v, (opR o).2.2.2 = v := ⟨_, rfl⟩
  have hd : (v != 1) = true := by
    have := of_decide_eq_false h
    rw [hv] at this
    simpa using this
  have HV := Lib.hid hv
  have H1 := Lib.hid h1
  clear h hv h1
  go_enter Tryz.func12, Tryz.ntmps12
  go_wp2_with (go_at_call 17; refine (group_is _ _ HV.out _).mono ?_; rintro e w1 ⟨rfl, hb⟩; have HB := Lib.hid (keeps_below hb); clear hb)
  go_ret2
  exact ⟨A, n, q, rfl, H1.out.keeps HB.out, HB.out⟩
set_option maxHeartbeats 1000000 in
theorem do_under (o : Int) (A : Option Addr) (n q : Nat) (d : List Int) (w : World) (h : puG o = true) (h2 : n < puN o) (h1 : Stk w A n q d) :
    Calls Tryz.prog 12 #[.int .i64 o, .slice A n q] w (PuPost w d (-4)) := by
  have hv : (opR o).2.2.2 = 1 := of_decide_eq_true h
  obtain ⟨N, hN⟩ : ∃ N, puN o = N := ⟨_, rfl⟩
  have hn := puN_nn o
  have h4 := puN_le o
  rw [hN] at hn h2 h4
  have hw : wrap64 ((n : Int) - (N : Int)) = (n : Int) - (N : Int) := by unfold wrap64; omega
  have hd : decide ((n : Int) - (N : Int) < 0) = true := decide_eq_true (by omega)
  have hd2 : (n : Int) - (N : Int) < 0 := by omega
  have HV := Lib.hid hv
  have HN := Lib.hid hn
  have H1 := Lib.hid h1
  clear h hv h1 hN hn
  go_enter Tryz.func12, Tryz.ntmps12
  go_wp2_with (first | (go_at_call 17; refine (group_is _ _ HV.out _).mono ?_; rintro e w1 ⟨rfl, hb⟩; have HB := Lib.hid (keeps_below hb); clear hb) | (go_at_call 18; refine (needs_is _ _ HN.out _).mono ?_; rintro e w2 ⟨rfl, hb⟩; have HB2 := Lib.hid (HB.out.trans (keeps_below hb)); clear hb))
  go_ret2
  exact ⟨A, n, q, rfl, H1.out.keeps HB2.out, HB2.out⟩
set_option maxHeartbeats 1000000 in
theorem do_over (o : Int) (A : Option Addr) (n q : Nat) (d : List Int) (w : World) (h : puG o = true) (hn9 : n ≤ 10000) (h3 : 64 < n) (h1 : Stk w A n q d) :
    Calls Tryz.prog 12 #[.int .i64 o, .slice A n q] w (PuPost w d (-3)) := by
  have hv : (opR o).2.2.2 = 1 := of_decide_eq_true h
  obtain ⟨N, hN⟩ : ∃ N, puN o = N := ⟨_, rfl⟩
  have hn := puN_nn o
  have h4 := puN_le o
  rw [hN] at hn h4
  have hw : wrap64 ((n : Int) - (N : Int)) = (n : Int) - (N : Int) := by unfold wrap64; omega
  have hd : decide ((n : Int) - (N : Int) < 0) = false := decide_eq_false (by omega)
  have hd2 : ¬ (n : Int) - (N : Int) < 0 := by omega
  have hd3 : decide ((64 : Int) < (n : Int)) = true := decide_eq_true (by omega)
  have HV := Lib.hid hv
  have HN := Lib.hid hn
  have H1 := Lib.hid h1
  clear h hv h1 hN hn
  go_enter Tryz.func12, Tryz.ntmps12
  go_wp2_with (first | (go_at_call 17; refine (group_is _ _ HV.out _).mono ?_; rintro e w1 ⟨rfl, hb⟩; have HB := Lib.hid (keeps_below hb); clear hb) | (go_at_call 18; refine (needs_is _ _ HN.out _).mono ?_; rintro e w2 ⟨rfl, hb⟩; have HB2 := Lib.hid (HB.out.trans (keeps_below hb)); clear hb))
  go_ret2
  exact ⟨A, n, q, rfl, H1.out.keeps HB2.out, HB2.out⟩
set_option maxHeartbeats 2000000 in
theorem do_in (k : Nat) (A : Option Addr) (n q : Nat) (d : List Int) (w : World) (hk1 : 18 ≤ k) (hk2 : k ≤ 74) (h2 : ¬ n < puN (k : Int)) (h3 : ¬ 64 < n) (h1 : Stk w A n q d) (hC : AllC d)
    (L : List Int) (E : Int) (hL : puL k (d.take (n - puN (k : Int))) (d.drop (n - puN (k : Int))) = L) (hE : puE k (d.take (n - puN (k : Int))) (d.drop (n - puN (k : Int))) = E) :
    Calls Tryz.prog 12 #[.int .i64 (k : Int), .slice A n q] w (PuPost w (if E = 0 then L else d) E) := by
  have h : puG (k : Int) = true := by rw [puG_is]; exact decide_eq_true (by omega)
  have hv : (opR (k : Int)).2.2.2 = 1 := of_decide_eq_true h
  have hn := puN_nn (k : Int)
  have h4 := puN_le (k : Int)
  have hat := puN_at k hk1 hk2
  obtain ⟨N, hN⟩ : ∃ N, puN (k : Int) = N := ⟨_, rfl⟩
  rw [hN] at hn h2 h4 hat hL hE
  obtain ⟨j, rfl⟩ : ∃ j, n = j + N := ⟨n - N, by omega⟩
  rw [show j + N - N = j by omega] at hL hE
  obtain ⟨A1, q1, r1, s1⟩ := h1.head j (by omega)
  obtain ⟨A2, q2, r2, s2⟩ := h1.tail j (by omega)
  rw [show j + N - j = N by omega] at r2 s2
  have hfn := fn_any k hk1 hk2
  have hen := fun W => entry_any k hk1 hk2 W
  have hcall : ∀ W : World, Keeps w W → Calls Tryz.prog (puF k) #[.slice A1 j q1, .slice A2 N q2] W (PuPost W L E) := fun W hW => by
    have := hfn A1 j q1 (d.take j) A2 q2 N (d.drop j) W (by omega) (s1.keeps hW) (s2.keeps hW) hat (fun x hx => hC x (List.mem_of_mem_drop hx))
    rw [hL, hE] at this
    exact this
  have hent := enters_any k hk1 hk2
  generalize puF k = F at hen hcall hent
  have hef : ∀ (args : Array Value) (W : World), (callFunc F args).run Tryz.prog W = .ok (.enter F args) W := hent
  clear hent
  have HC := Lib.hid hcall
  have HEN := Lib.hid hen
  have hw : wrap64 ((j : Int) + (N : Int) - (N : Int)) = (j : Int) := by unfold wrap64; omega
  have hw2 : IntKind.i64.wrap ((j : Int) + (N : Int) - (N : Int)) = (j : Int) := by rw [wrapi64]; exact hw
  have hd : decide ((j : Int) < 0) = false := decide_eq_false (by omega)
  have hd3 : decide ((64 : Int) < (j : Int) + (N : Int)) = false := decide_eq_false (by omega)
  have hf : ∀ W : World, (Instr.field 39 (.agg #[fV F]) 0).run Tryz.prog W = .ok (fV F) W := fun _ => by kernel_rfl
  have HV := Lib.hid hv
  have HN := Lib.hid hn
  have H1 := Lib.hid h1
  clear h hv h1 hN hn hcall hen hfn hat hC hL hE s1 s2
  by_cases hE0 : E = 0
  · subst hE0
    rw [if_pos rfl]
    go_enter Tryz.func12, Tryz.ntmps12
    go_wp2_with (first | (go_at_call 17; refine (group_is _ _ HV.out _).mono ?_; rintro e w1 ⟨rfl, hb⟩; have HB := Lib.hid (keeps_below hb); clear hb) | (go_at_call 18; refine (needs_is _ _ HN.out _).mono ?_; rintro e w2 ⟨rfl, hb⟩; have HB2 := Lib.hid (HB.out.trans (keeps_below hb)); clear hb))
    go_region_held3 (fun w' => Keeps w w') (first | assumption | exact HB2.out.drew | exact HB2.out.trans (Keeps.refl _).drew)
      (first | (go_at_call 21; (with_reducible refine (HEN.out _).mono ?_); rintro e w3 ⟨rfl, hb⟩; have HB3 := Keeps.trans (by assumption) (keeps_below hb); clear hb) | (go_at_fn F; (refine (HC.out _ (by assumption)).mono ?_); rintro e w4 ⟨A3, n3, q3, rfl, ho, hb⟩; have HB4 := Keeps.trans (by assumption) hb; have HO := Lib.hid ho; clear ho hb))
    go_wp2
    go_ret2
    exact ⟨A3, n3, q3, rfl, HO.out, HB4⟩
  · have hne : (E != 0) = true := by simpa using hE0
    rw [if_neg hE0]
    clear hE0
    go_enter Tryz.func12, Tryz.ntmps12
    go_wp2_with (first | (go_at_call 17; refine (group_is _ _ HV.out _).mono ?_; rintro e w1 ⟨rfl, hb⟩; have HB := Lib.hid (keeps_below hb); clear hb) | (go_at_call 18; refine (needs_is _ _ HN.out _).mono ?_; rintro e w2 ⟨rfl, hb⟩; have HB2 := Lib.hid (HB.out.trans (keeps_below hb)); clear hb))
    go_region_held3 (fun w' => Keeps w w') (first | assumption | exact HB2.out.drew | exact HB2.out.trans (Keeps.refl _).drew)
      (first | (go_at_call 21; (with_reducible refine (HEN.out _).mono ?_); rintro e w3 ⟨rfl, hb⟩; have HB3 := Keeps.trans (by assumption) (keeps_below hb); clear hb) | (go_at_fn F; (refine (HC.out _ (by assumption)).mono ?_); rintro e w4 ⟨A3, n3, q3, rfl, ho, hb⟩; have HB4 := Keeps.trans (by assumption) hb; have HO := Lib.hid ho; clear ho hb))
    go_wp2
    go_ret2
    exact ⟨A, _, q, rfl, H1.out.keeps HB4, HB4⟩
/-- Do, whatever it is given. -/
theorem do_any (o : Int) (A : Option Addr) (n q : Nat) (d : List Int) (w : World) (hn : n ≤ 10000) (h1 : Stk w A n q d) (hC : AllC d) :
    Calls Tryz.prog 12 #[.int .i64 o, .slice A n q] w (PuPost w (doL o d) (doE o d)) := by
  have hl := h1.len
  cases h : puG o
  · have e := doE_host (d := d) h
    rw [doL_bad (by rw [e]; decide), e]
    exact do_host o A n q d w h h1
  · by_cases h2 : n < puN o
    · have e := doE_under (d := d) h (by rw [hl]; exact h2)
      rw [doL_bad (by rw [e]; decide), e]
      exact do_under o A n q d w h h2 h1
    · by_cases h3 : 64 < n
      · have e := doE_over (d := d) h (by rw [hl]; exact h2) (by rw [hl]; exact h3)
        rw [doL_bad (by rw [e]; decide), e]
        exact do_over o A n q d w h hn h3 h1
      · obtain ⟨k, rfl, hk1, hk2⟩ := puG_some h
        have e := doE_in (d := d) h (by rw [hl]; exact h2) (by rw [hl]; exact h3)
        have := do_in k A n q d w hk1 hk2 h2 h3 h1 hC _ _ rfl rfl
        rw [hl] at e
        refine this.mono fun _ _ hp => pu_as hp ?_ e.symm
        by_cases h0 : doE (k : Int) d = 0
        · rw [doL_ok h0, hl]; exact if_pos (e.symm.trans h0)
        · rw [doL_bad h0]; exact if_neg (fun hh => h0 (e.trans hh))
end Go.Proofs.YtnlkggfgloblcaaGreat

/-! From PureFacts. -/
namespace Go.Proofs.YtnlkggfgloblcaaGreat
open Go.RowKit

theorem inC_zero : InC 0 := by unfold InC; omega
theorem inC_flag (b : Bool) : InC (flagZ b) := by cases b <;> (unfold flagZ InC; simp)
theorem bits_and_in (a b : Int) : InC (bits .and .i64 a b) := by show InC (IntKind.i64.wrap _); rw [wrapi64]; exact wrap64_in _
theorem bits_or_in (a b : Int) : InC (bits .or .i64 a b) := by show InC (IntKind.i64.wrap _); rw [wrapi64]; exact wrap64_in _
theorem bits_xor_in (a b : Int) : InC (bits .xor .i64 a b) := by show InC (IntKind.i64.wrap _); rw [wrapi64]; exact wrap64_in _
theorem inC_fmod (x : Int) {n : Int} (h0 : n ≠ 0) (hn : InC n) : InC (x.fmod n) := by
  unfold InC at *
  rcases Int.lt_or_gt_of_ne h0 with h | h
  · have e := Int.neg_fmod_neg x n
    have h1 := Int.fmod_nonneg_of_pos (-x) (b := -n) (by omega)
    have h2 := Int.fmod_lt_of_pos (-x) (b := -n) (by omega)
    omega
  · have h1 := Int.fmod_nonneg_of_pos x h
    have h2 := Int.fmod_lt_of_pos x h
    omega
theorem inC_fR (x : Int) {n : Int} (hn : InC n) : InC (fR x n) := by
  rcases f_cases x n with ⟨_, _, e, _⟩ | ⟨h0, _, _, e, _⟩ | ⟨_, _, _, e, _⟩
  · rw [e]; exact inC_zero
  · rw [e]; exact inC_fmod x h0 hn
  · rw [e]; exact inC_zero
theorem inC_fQ (x n : Int) : InC (fQ x n) := by
  rcases f_cases x n with ⟨_, _, _, e⟩ | ⟨_, h, _, _, e⟩ | ⟨_, _, _, _, e⟩
  · rw [e]; exact inC_zero
  · rw [e]; exact h
  · rw [e]; exact inC_zero
theorem inC_sR (x : Int) {n : Int} (hn : InC n) : InC (sR x n) := by
  rcases s_cases x n with ⟨_, _, e, _⟩ | ⟨h0, _, _, e, _⟩ | ⟨_, _, _, e, _⟩
  · rw [e]; exact inC_zero
  · rw [e]
    have := (td_bound (x := x) h0).2.2
    unfold absZ at this
    unfold InC at *
    split at this <;> omega
  · rw [e]; exact inC_zero
theorem inC_sQ (x n : Int) : InC (sQ x n) := by
  rcases s_cases x n with ⟨_, _, _, e⟩ | ⟨_, h, _, _, e⟩ | ⟨_, _, _, _, e⟩
  · rw [e]; exact inC_zero
  · rw [e]; exact h
  · rw [e]; exact inC_zero
theorem inC_uR (x u : Int) : InC (uR x u) := by
  unfold uR
  split
  · exact wrap64_in _
  · exact inC_zero
theorem inC_uQ (x u : Int) : InC (uQ x u) := by
  unfold uQ
  split
  · exact wrap64_in _
  · exact inC_zero
theorem inC_cR {a : Int} (ha : InC a) (b : Int) : InC (cR a b) := by
  unfold cR
  split
  · exact tmod_in ha b
  · exact inC_zero
theorem inC_cQ {a : Int} (ha : InC a) (b : Int) : InC (cQ a b) := by
  unfold cQ
  split
  · rename_i h; exact tdiv_in ha h
  · exact inC_zero
theorem inC_cFq {a : Int} (ha : InC a) (b : Int) : InC (cFq a b) := by
  unfold cFq
  split
  · exact wrap64_in _
  · exact inC_cQ ha b
theorem inC_cFr {a : Int} (ha : InC a) (b : Int) : InC (cFr a b) := by
  unfold cFr
  split
  · exact wrap64_in _
  · exact inC_cR ha b
theorem inC_cAl (a : Int) : InC (cAl a) := by
  unfold cAl
  show InC (IntKind.i64.wrap _)
  rw [wrapi64]; exact wrap64_in _
theorem inC_min {a b : Int} (ha : InC a) (hb : InC b) : InC (min a b) := by unfold InC at *; omega
theorem inC_max {a b : Int} (ha : InC a) (hb : InC b) : InC (max a b) := by unfold InC at *; omega
theorem inC_half {a : Int} (ha : InC a) : InC (a / 2) := by unfold InC at *; omega
theorem inC_not {a : Int} (ha : InC a) : InC (-a - 1) := by unfold InC at *; omega
theorem inC_pick {l : List Int} (h : AllC l) (n : Int) : InC (pickX l n) := by
  unfold pickX
  split
  · exact inC_zero
  · rw [List.getD_eq_getElem?_getD]
    cases hx : l[l.length - 1 - n.toNat]? with
    | none => exact inC_zero
    | some v => exact h v (List.mem_of_getElem? hx)
theorem allC_nil : AllC [] := fun _ h => by cases h
theorem allC_cons {a : Int} {l : List Int} (h : InC a) (k : AllC l) : AllC (a :: l) := fun x hx => by
  rcases List.mem_cons.1 hx with rfl | hx
  · exact h
  · exact k x hx
theorem allC_append {l m : List Int} (h : AllC l) (k : AllC m) : AllC (l ++ m) := fun x hx => by
  rcases List.mem_append.1 hx with hx | hx
  · exact h x hx
  · exact k x hx
theorem allC_take {l : List Int} (h : AllC l) (n : Nat) : AllC (l.take n) := fun x hx => h x (List.mem_of_mem_take hx)
theorem allC_drop {l : List Int} (h : AllC l) (n : Nat) : AllC (l.drop n) := fun x hx => h x (List.mem_of_mem_drop hx)
theorem allC_getD {l : List Int} (h : AllC l) (k : Nat) : InC (l.getD k 0) := by
  rw [List.getD_eq_getElem?_getD]
  cases hx : l[k]? with
  | none => exact inC_zero
  | some v => exact h v (List.mem_of_getElem? hx)
theorem inLen {l : List Int} (h : l.length ≤ 64) : InC (l.length : Int) := by unfold InC; omega
/-- What is laid are cells. -/
theorem puD_in (k : Nat) (h1 : 18 ≤ k) (h2 : k ≤ 74) (l : List Int) (a b c d : Int) (hl : AllC l) (hL : l.length ≤ 64) (ha : InC a) (hb : InC b) (hc : InC c) (hd : InC d) : AllC (puD k l a b c d).1 := by
  rcases op_split k h1 h2 with rfl | rfl | rfl | rfl | rfl | rfl | rfl | rfl | rfl | rfl | rfl | rfl | rfl | rfl | rfl | rfl | rfl | rfl | rfl | rfl | rfl | rfl | rfl | rfl | rfl | rfl | rfl | rfl | rfl | rfl | rfl | rfl | rfl | rfl | rfl | rfl | rfl | rfl | rfl | rfl | rfl | rfl | rfl | rfl | rfl | rfl | rfl | rfl | rfl | rfl | rfl | rfl | rfl | rfl | rfl | rfl | rfl
  · show AllC [a, a]
    exact allC_cons (ha) (allC_cons (ha) (allC_nil))
  · exact allC_nil
  · show AllC [b, a]
    exact allC_cons (hb) (allC_cons (ha) (allC_nil))
  · show AllC [a, b, a]
    exact allC_cons (ha) (allC_cons (hb) (allC_cons (ha) (allC_nil)))
  · show AllC [b, c, a]
    exact allC_cons (hb) (allC_cons (hc) (allC_cons (ha) (allC_nil)))
  · show AllC [b]
    exact allC_cons (hb) (allC_nil)
  · show AllC [b, a, b]
    exact allC_cons (hb) (allC_cons (ha) (allC_cons (hb) (allC_nil)))
  · show AllC [a, b, a, b]
    exact allC_cons (ha) (allC_cons (hb) (allC_cons (ha) (allC_cons (hb) (allC_nil))))
  · exact allC_nil
  · show AllC [c, d, a, b]
    exact allC_cons (hc) (allC_cons (hd) (allC_cons (ha) (allC_cons (hb) (allC_nil))))
  · show AllC [a, b, c, d, a, b]
    exact allC_cons (ha) (allC_cons (hb) (allC_cons (hc) (allC_cons (hd) (allC_cons (ha) (allC_cons (hb) (allC_nil))))))
  · show AllC (if a = 0 then [0] else [a, a])
    split
    · exact allC_cons inC_zero allC_nil
    · exact allC_cons ha (allC_cons ha allC_nil)
  · show AllC [pickX l a]
    exact allC_cons (inC_pick hl _) (allC_nil)
  · exact allC_nil
  · show AllC [(l.length : Int)]
    exact allC_cons (inLen hL) (allC_nil)
  · show AllC [wrap64 (a + b)]
    exact allC_cons (wrap64_in _) (allC_nil)
  · show AllC [wrap64 (a - b)]
    exact allC_cons (wrap64_in _) (allC_nil)
  · show AllC [wrap64 (a * b)]
    exact allC_cons (wrap64_in _) (allC_nil)
  · show AllC [cFq a b]
    exact allC_cons (inC_cFq ha _) (allC_nil)
  · show AllC [cFr a b]
    exact allC_cons (inC_cFr ha _) (allC_nil)
  · show AllC [cFr a b, cFq a b]
    exact allC_cons (inC_cFr ha _) (allC_cons (inC_cFq ha _) (allC_nil))
  · show AllC [fQ (a * b) c]
    exact allC_cons (inC_fQ _ _) (allC_nil)
  · show AllC [fR (a * b) c, fQ (a * b) c]
    exact allC_cons (inC_fR _ hc) (allC_cons (inC_fQ _ _) (allC_nil))
  · show AllC [wrap64 (a + 1)]
    exact allC_cons (wrap64_in _) (allC_nil)
  · show AllC [wrap64 (a - 1)]
    exact allC_cons (wrap64_in _) (allC_nil)
  · show AllC [cShl a 1]
    exact allC_cons (wrap64_in _) (allC_nil)
  · show AllC [a / 2]
    exact allC_cons (inC_half ha) (allC_nil)
  · show AllC [wrap64 (-a)]
    exact allC_cons (wrap64_in _) (allC_nil)
  · show AllC [max a (wrap64 (-a))]
    exact allC_cons (inC_max ha (wrap64_in _)) (allC_nil)
  · show AllC [min a b]
    exact allC_cons (inC_min ha hb) (allC_nil)
  · show AllC [max a b]
    exact allC_cons (inC_max ha hb) (allC_nil)
  · show AllC [bits .and .i64 a b]
    exact allC_cons (bits_and_in _ _) (allC_nil)
  · show AllC [bits .or .i64 a b]
    exact allC_cons (bits_or_in _ _) (allC_nil)
  · show AllC [bits .xor .i64 a b]
    exact allC_cons (bits_xor_in _ _) (allC_nil)
  · show AllC [-a - 1]
    exact allC_cons (inC_not ha) (allC_nil)
  · show AllC [cShl a b]
    exact allC_cons (wrap64_in _) (allC_nil)
  · show AllC [cShr a b]
    exact allC_cons (wrap64_in _) (allC_nil)
  · show AllC [flagZ (a == b)]
    exact allC_cons (inC_flag _) (allC_nil)
  · show AllC [flagZ (a != b)]
    exact allC_cons (inC_flag _) (allC_nil)
  · show AllC [flagZ (decide (a < b))]
    exact allC_cons (inC_flag _) (allC_nil)
  · show AllC [flagZ (decide (b < a))]
    exact allC_cons (inC_flag _) (allC_nil)
  · show AllC [flagZ (cUlt a b)]
    exact allC_cons (inC_flag _) (allC_nil)
  · show AllC [flagZ (a == 0)]
    exact allC_cons (inC_flag _) (allC_nil)
  · show AllC [flagZ (decide (a < 0))]
    exact allC_cons (inC_flag _) (allC_nil)
  · show AllC [flagZ (cIn a b c)]
    exact allC_cons (inC_flag _) (allC_nil)
  · show AllC [dLo (uProd a b), dHi (uProd a b)]
    exact allC_cons (dLo_in _) (allC_cons (dHi_in _) (allC_nil))
  · show AllC [dLo (a * b), dHi (a * b)]
    exact allC_cons (dLo_in _) (allC_cons (dHi_in _) (allC_nil))
  · show AllC [uR (dV a b) c, uQ (dV a b) c]
    exact allC_cons (inC_uR _ _) (allC_cons (inC_uQ _ _) (allC_nil))
  · show AllC [fR (dV a b) c, fQ (dV a b) c]
    exact allC_cons (inC_fR _ hc) (allC_cons (inC_fQ _ _) (allC_nil))
  · show AllC [sR (dV a b) c, sQ (dV a b) c]
    exact allC_cons (inC_sR _ hc) (allC_cons (inC_sQ _ _) (allC_nil))
  · show AllC [dLo a, dHi a]
    exact allC_cons (dLo_in _) (allC_cons (dHi_in _) (allC_nil))
  · show AllC [dLo (dV a b + dV c d), dHi (dV a b + dV c d)]
    exact allC_cons (dLo_in _) (allC_cons (dHi_in _) (allC_nil))
  · show AllC [dLo (-dV a b), dHi (-dV a b)]
    exact allC_cons (dLo_in _) (allC_cons (dHi_in _) (allC_nil))
  · show AllC [wrap64 (a * 8)]
    exact allC_cons (wrap64_in _) (allC_nil)
  · show AllC [wrap64 (a + 8)]
    exact allC_cons (wrap64_in _) (allC_nil)
  · show AllC [wrap64 (a + 1)]
    exact allC_cons (wrap64_in _) (allC_nil)
  · show AllC [cAl a]
    exact allC_cons (inC_cAl _) (allC_nil)

theorem pushE_zero {L : Nat} (h : pushE L 64 = 0) : pushB L 64 = false ∧ L ≤ 64 := by
  unfold pushE at h
  split at h
  · cases h
  · rename_i hb
    have hb' : pushB L 64 = false := by simpa using hb
    refine ⟨hb', ?_⟩
    have := of_decide_eq_false hb'
    omega
theorem unE_zero {t : Int} {L k : Nat} (h : unE t L k = 0) : t = 0 ∧ pushB (L + k) 64 = false ∧ L + k ≤ 64 := by
  unfold unE at h
  split at h
  · rename_i h0; exact ⟨h0, pushE_zero h⟩
  · rename_i h0; exact absurd h h0
theorem puE_lay {k : Nat} (hk : k ≠ 31) (l x : List Int) : puE k l x = unE (puT k l x) l.length (puY k l x).length := by unfold puE; rw [if_neg hk]
theorem puL_lay {k : Nat} (hk : k ≠ 31) (l x : List Int) : puL k l x = unL (puT k l x) l (puY k l x) := by unfold puL; rw [if_neg hk]
theorem puE_roll (l x : List Int) : puE 31 l x = pickE l.length (x.getD 0 0) := rfl
theorem puL_roll (l x : List Int) : puL 31 l x = rollL l (x.getD 0 0) := rfl
theorem puE_zero {k : Nat} (hk : k ≠ 31) {l x : List Int} (h : puE k l x = 0) : puT k l x = 0 ∧ l.length + (puY k l x).length ≤ 64 ∧ puL k l x = l ++ puY k l x := by
  rw [puE_lay hk] at h
  obtain ⟨h0, h1, h2⟩ := unE_zero h
  refine ⟨h0, h2, ?_⟩
  rw [puL_lay hk, h0, unL_ok, pushL_ok h1]
theorem rollL_length (l : List Int) (n : Int) : (rollL l n).length = l.length := by
  unfold rollL
  split
  · rfl
  · rename_i h
    obtain ⟨k, rfl, hk⟩ := pickB_no (n := n) (L := l.length) (by simpa using h)
    exact lastly_length l _ (by omega)
theorem allC_roll {l : List Int} (h : AllC l) (n : Int) : AllC (rollL l n) := by
  unfold rollL
  split
  · exact h
  · exact allC_append (allC_take h _) (allC_append (allC_drop h _) (allC_cons (allC_getD h _) allC_nil))
theorem puY_in {k : Nat} (h1 : 18 ≤ k) (h2 : k ≤ 74) {l x : List Int} (hl : AllC l) (hL : l.length ≤ 64) (hx : AllC x) : AllC (puY k l x) :=
  puD_in k h1 h2 l _ _ _ _ hl hL (allC_getD hx 0) (allC_getD hx 1) (allC_getD hx 2) (allC_getD hx 3)
theorem puL_in {k : Nat} (h1 : 18 ≤ k) (h2 : k ≤ 74) {l x : List Int} (hl : AllC l) (hL : l.length ≤ 64) (hx : AllC x) : AllC (puL k l x) := by
  by_cases hk : k = 31
  · subst hk; exact allC_roll hl _
  · rw [puL_lay hk]
    unfold unL pushL
    split
    · split
      · exact hl
      · exact allC_append hl (puY_in h1 h2 hl hL hx)
    · exact hl
/-- What stands where Do throws nothing. -/
theorem doE_zero {o : Int} {d : List Int} (h : doE o d = 0) : ∃ k : Nat, o = (k : Int) ∧ 18 ≤ k ∧ k ≤ 74 ∧ puN (k : Int) ≤ d.length ∧ d.length ≤ 64 ∧
    puE k (d.take (d.length - puN (k : Int))) (d.drop (d.length - puN (k : Int))) = 0 ∧ doL o d = puL k (d.take (d.length - puN (k : Int))) (d.drop (d.length - puN (k : Int))) := by
  have h' := h
  unfold doE at h
  split at h
  · cases h
  · rename_i hg
    obtain ⟨k, rfl, h1, h2⟩ := puG_some (o := o) (by simpa using hg)
    split at h
    · cases h
    · split at h
      · cases h
      · refine ⟨k, rfl, h1, h2, by omega, by omega, h, ?_⟩
        unfold doL
        rw [if_pos h']
        rfl
theorem doL_in (o : Int) {d : List Int} (h : AllC d) : AllC (doL o d) := by
  by_cases h0 : doE o d = 0
  · obtain ⟨k, rfl, h1, h2, h3, h4, h5, h6⟩ := doE_zero h0
    rw [h6]
    exact puL_in h1 h2 (allC_take h _) (by simp; omega) (allC_drop h _)
  · unfold doL
    rw [if_neg h0]
    exact h
theorem doL_length {o : Int} {d : List Int} (h : doE o d = 0) : (doL o d).length ≤ 64 := by
  obtain ⟨k, rfl, h1, h2, h3, h4, h5, h6⟩ := doE_zero h
  rw [h6]
  by_cases hk : k = 31
  · subst hk
    rw [puL_roll, rollL_length]
    simp; omega
  · obtain ⟨_, h7, h8⟩ := puE_zero hk h5
    rw [h8, List.length_append]
    exact h7
theorem alE_cons_ok {o : Int} {r d : List Int} (h : doE o d = 0) : alE (o :: r) d = alE r (doL o d) := by show (if doE o d = 0 then _ else _) = _; rw [if_pos h]
theorem alL_cons_ok {o : Int} {r d : List Int} (h : doE o d = 0) : alL (o :: r) d = alL r (doL o d) := by show (if doE o d = 0 then _ else _) = _; rw [if_pos h]
theorem alE_cons_no {o : Int} {r d : List Int} (h : doE o d ≠ 0) : alE (o :: r) d = doE o d := by show (if doE o d = 0 then _ else _) = _; rw [if_neg h]
theorem alL_cons_no {o : Int} {r d : List Int} (h : doE o d ≠ 0) : alL (o :: r) d = d := by show (if doE o d = 0 then _ else _) = _; rw [if_neg h]
theorem alL_in : ∀ (l : List Int) {d : List Int}, AllC d → AllC (alL l d)
  | [], _, h => h
  | o :: r, d, h => by
    by_cases h0 : doE o d = 0
    · rw [alL_cons_ok h0]; exact alL_in r (doL_in o h)
    · rw [alL_cons_no h0]; exact h
/-- Operations in two parts. -/
theorem al_append : ∀ (l m d : List Int), (alE l d = 0 → alE (l ++ m) d = alE m (alL l d) ∧ alL (l ++ m) d = alL m (alL l d)) ∧ (alE l d ≠ 0 → alE (l ++ m) d = alE l d ∧ alL (l ++ m) d = alL l d)
  | [], m, d => ⟨fun _ => ⟨rfl, rfl⟩, fun h => absurd rfl h⟩
  | o :: r, m, d => by
    by_cases h0 : doE o d = 0
    · rw [List.cons_append, alE_cons_ok h0, alE_cons_ok h0, alL_cons_ok h0, alL_cons_ok h0]
      exact al_append r m (doL o d)
    · rw [List.cons_append, alE_cons_no h0, alE_cons_no h0, alL_cons_no h0, alL_cons_no h0]
      exact ⟨fun h => absurd h h0, fun _ => ⟨rfl, rfl⟩⟩
theorem alL_length : ∀ (l d : List Int), d.length ≤ 10000 → (alL l d).length ≤ 10000
  | [], _, h => h
  | o :: r, d, h => by
    by_cases h0 : doE o d = 0
    · rw [alL_cons_ok h0]; exact alL_length r (doL o d) (Nat.le_trans (doL_length h0) (by omega))
    · rw [alL_cons_no h0]; exact h
end Go.Proofs.YtnlkggfgloblcaaGreat

/-! From PureAll. -/
namespace Go.Proofs.YtnlkggfgloblcaaGreat
open Go.RowKit

/-- What stands at the head of a round. -/
def AlRel (w : World) (ops d : List Int) (m : Nat) (v i : Value) (wr : World) : Prop :=
  ∃ (k : Nat) (A : Option Addr) (n q : Nat) (d' : List Int), k ≤ m ∧ i = .int .i64 k ∧ v = .slice A n q ∧ n ≤ 10000 ∧ Stk wr A n q d' ∧ AllC d' ∧ alE (ops.drop k) d' = alE ops d ∧ alL (ops.drop k) d' = alL ops d ∧ Keeps w wr
set_option maxHeartbeats 1000000 in
theorem all_any (B : Option Addr) (m b : Nat) (ops : List Int) (A : Option Addr) (n q : Nat) (d : List Int) (w : World) (hm : m ≤ 10000) (hn : n ≤ 10000) (h2 : Stk w B m b ops) (h1 : Stk w A n q d) (hC : AllC d) :
    Calls Tryz.prog 14 #[.slice B m b, .slice A n q] w (PuPost w (alL ops d) (alE ops d)) := by
  have HM := Lib.hid h2.len
  have H1 := Lib.hid h1
  have H2 := Lib.hid h2
  have HC := Lib.hid hC
  clear h1 h2 hC
  go_enter Tryz.func14, Tryz.ntmps14
  go_wp2
  go_loopw [1, 12] (fun v i wr => AlRel w ops d m v i wr) (fun _ i _ => ((m : Int) - intOf i).toNat)
  case atStart => exact ⟨0, A, n, q, d, by omega, rfl, rfl, hn, H1.out, HC.out, rfl, rfl, Keeps.refl _⟩
  case round =>
    obtain ⟨k, A', n', q', d', hk, rfl, rfl, hn', hs, hc, he, hl, hw⟩ := hrel
    have HS := Lib.hid hs
    have HD := Lib.hid hc
    have HE := Lib.hid he
    have HL := Lib.hid hl
    have HW := Lib.hid hw
    clear hs hc he hl hw
    by_cases h8 : k < m
    · have hkt : k < ops.length := by rw [HM.out]; exact h8
      obtain ⟨b2, o2, rfl, hb2, hc2⟩ := (H2.out.keeps HW.out).at_ k h8
      have HG : Hid (ops.drop k = ops.getD k 0 :: ops.drop (k + 1)) := by
        show _ = _
        rw [List.drop_eq_getElem_cons hkt]
        simp [List.getD, hkt]
      generalize ops.getD k 0 = o at HG hc2
      have hdo := do_any o A' n' q' d' wr hn' HS.out HD.out
      by_cases hp : doE o d' = 0
      · rw [hp] at hdo
        have HDO := Lib.hid hdo
        have HP := Lib.hid hp
        clear hdo hp
        go_wp2_with (go_at_call 12; (with_reducible refine HDO.out.mono ?_); rintro e w1 ⟨A1, n1, q1, rfl, ho, hb⟩; have HO := Lib.hid ho; have HB := Lib.hid hb; clear ho hb)
        go_roundw
        case rel => exact ⟨k + 1, A1, n1, q1, doL o d', by omega, by go_num, rfl, by have := HO.out.len; have := doL_length HP.out; omega, HO.out, doL_in _ HD.out, by rw [← alE_cons_ok HP.out, ← HG.out]; exact HE.out, by rw [← alL_cons_ok HP.out, ← HG.out]; exact HL.out, HW.out.trans HB.out⟩
        case measure => simp [intOf]; omega
      · have hE1 := alE_cons_no (r := ops.drop (k + 1)) hp
        have hL1 := alL_cons_no (r := ops.drop (k + 1)) hp
        rw [← HG.out, HE.out] at hE1
        rw [← HG.out, HL.out] at hL1
        rw [← hE1] at hdo hp
        have hne : (alE ops d != 0) = true := by simpa using hp
        rw [hL1]
        generalize alE ops d = E at *
        have HDO := Lib.hid hdo
        clear hdo hp hE1 hL1 HE HL
        go_wp2_with (go_at_call 12; (with_reducible refine HDO.out.mono ?_); rintro e w1 ⟨A1, n1, q1, rfl, ho, hb⟩; have HO := Lib.hid ho; have HB := Lib.hid hb; clear ho hb)
        go_ret2
        exact ⟨A', n', q', rfl, HS.out.keeps HB.out, HW.out.trans HB.out⟩
    · obtain rfl : k = m := by omega
      have hx : ops.drop k = [] := List.drop_eq_nil_of_le (by have := HM.out; omega)
      have hE1 := HE.out
      have hL1 := HL.out
      rw [hx] at hE1 hL1
      have HEE : Hid (0 = alE ops d) := hE1
      have HLL : Hid (d' = alL ops d) := hL1
      clear hE1 hL1 hx
      go_wp2
      go_ret2
      exact pu_ret HS.out HW.out HLL.out HEE.out
end Go.Proofs.YtnlkggfgloblcaaGreat

/-! From PureLaws. -/
namespace Go.Proofs.YtnlkggfgloblcaaGreat
open Go.RowKit

/-- What comes of one operation. -/
theorem do_step {k : Nat} (h1 : 18 ≤ k) (h2 : k ≤ 74) (hk : k ≠ 31) {l x y : List Int} (hx : x.length = puNs.getD (k - 18) 0) (hL : l.length + x.length ≤ 64) (hT : puT k l x = 0) (hY : puY k l x = y) (hy : l.length + y.length ≤ 64) :
    doE (k : Int) (l ++ x) = 0 ∧ doL (k : Int) (l ++ x) = l ++ y := by
  have hg : puG (k : Int) = true := by rw [puG_is]; exact decide_eq_true (by omega)
  have hn : puN (k : Int) = x.length := by rw [puN_at k h1 h2, hx]
  have e1 : (l ++ x).length - puN (k : Int) = l.length := by rw [hn]; simp
  have e2 : (l ++ x).take l.length = l := by simp
  have e3 : (l ++ x).drop l.length = x := by simp
  have hE : puE k l x = 0 := by rw [puE_lay hk, hT, unE_ok, hY]; exact pushE_ok (pushB_no (by omega))
  have hEE : doE (k : Int) (l ++ x) = 0 := by
    unfold doE
    rw [if_neg (by rw [hg]; decide), if_neg (by rw [hn]; simp), if_neg (by simp; omega), e1, e2, e3]
    exact hE
  refine ⟨hEE, ?_⟩
  unfold doL
  rw [if_pos hEE, e1, e2, e3]
  show puL k l x = _
  rw [puL_lay hk, hT, hY, unL_ok]
  exact pushL_ok (pushB_no (by omega))
/-- Some in a row that throw nothing. -/
def AlOk (ops d L : List Int) : Prop := alE ops d = 0 ∧ alL ops d = L
theorem al_nil (d : List Int) : AlOk [] d d := ⟨rfl, rfl⟩
theorem al_cons (k : Nat) (l x y : List Int) {r d d' L : List Int} (h1 : 18 ≤ k) (h2 : k ≤ 74) (hk : k ≠ 31) (hd : d = l ++ x) (hx : x.length = puNs.getD (k - 18) 0) (hL : l.length + x.length ≤ 64) (hT : puT k l x = 0) (hY : puY k l x = y) (hy : l.length + y.length ≤ 64)
    (hd' : l ++ y = d') (h : AlOk r d' L) : AlOk ((k : Int) :: r) d L := by
  subst hd hd'
  obtain ⟨e1, e2⟩ := do_step h1 h2 hk hx hL hT hY hy
  unfold AlOk at *
  rw [alE_cons_ok e1, alL_cons_ok e1, e2]
  exact h
end Go.Proofs.YtnlkggfgloblcaaGreat

/-! From PureAwake. -/
namespace Go.Proofs.YtnlkggfgloblcaaGreat
open Go.RowKit

theorem aw_ok : doE 38 [5, 7, 2] = 0 ∧ doL 38 [5, 7, 2] = [5, 1, 3] := do_step (k := 38) (l := [5]) (x := [7, 2]) (y := [1, 3]) (by decide) (by decide) (by decide) rfl (by decide) (by decide) (by decide +kernel) (by decide)
theorem aw_do (A : Option Addr) (w : World) (h : Stk w A 3 3 [5, 7, 2]) : Calls Tryz.prog 12 #[.int .i64 38, .slice A 3 3] w (PuPost w [5, 1, 3] 0) := by
  have h1 := do_any 38 A 3 3 [5, 7, 2] w (by omega) h (allC_cons (by unfold InC; omega) (allC_cons (by unfold InC; omega) (allC_cons (by unfold InC; omega) allC_nil)))
  rw [aw_ok.1, aw_ok.2] at h1
  exact h1
theorem stk3 {w : World} {A : Option Addr} {n c : Nat} {x y z : Int} (h : Stk w A n c [x, y, z]) : n = 3 ∧ ∃ b o, A = some ⟨b, o, none⟩ ∧ w.cell? ⟨b, o, none⟩ = some (.int .i64 x) ∧ w.cell? ⟨b, o + 1, none⟩ = some (.int .i64 y) ∧ w.cell? ⟨b, o + 2, none⟩ = some (.int .i64 z) := by
  obtain rfl : 3 = n := h.len
  obtain ⟨b, o, rfl, _, hc⟩ := h.at0 (by decide)
  exact ⟨rfl, b, o, rfl, hc 0 (by simp), hc 1 (by simp), hc 2 (by simp)⟩
theorem stk1 {w : World} {A : Option Addr} {n c : Nat} {x : Int} (h : Stk w A n c [x]) : n = 1 ∧ ∃ b o, A = some ⟨b, o, none⟩ ∧ b < w.heap.size ∧ w.cell? ⟨b, o, none⟩ = some (.int .i64 x) := by
  obtain rfl : 1 = n := h.len
  obtain ⟨b, o, rfl, hb, hc⟩ := h.at0 (by decide)
  exact ⟨rfl, b, o, rfl, hb, hc 0 (by simp)⟩
set_option maxHeartbeats 400000 in
theorem pawake_any (w : World) : Calls Tryz.prog 11 #[] w fun e w' => e = .returned (.bool true) ∧ Keeps w w' := by
  go_enter Tryz.func11, Tryz.ntmps11
  go_wp2_with (go_at_call 12; refine (aw_do _ _ (stk_at _ _ [5, 7, 2] 3 _ rfl rfl (by decide))).mono ?_; rintro e w1 ⟨A1, n1, q1, rfl, ho, hb⟩; obtain ⟨rfl, b1, o1, rfl, e0, e1, e2⟩ := stk3 ho; have HB := Lib.hid (Keeps.trans ((Keeps.refl _).alloc _) hb); clear ho hb)
  go_ret
  exact ⟨rfl, HB.out⟩
/-- Two stacks that are the same, in any world behind the one in which they lie. -/
theorem same_k (A B : Option Addr) (n c m d : Nat) (l l' : List Int) (w : World) (hn : n ≤ 10000) (h1 : Stk w A n c l) (h2 : Stk w B m d l') (e : l = l') :
    Calls Tryz.prog 16 #[.slice A n c, .slice B m d] w fun e w' => e = .returned (.bool true) ∧ Keeps w w' := by
  subst e
  exact (same_any A B n c m d l w hn h1 h2).mono fun e w' ⟨he, k, hk⟩ => ⟨he, hk ▸ (Keeps.refl w).drewN k⟩
/-- All of some that throw nothing. -/
theorem all_ok (B : Option Addr) (m b : Nat) (ops : List Int) (A : Option Addr) (n q : Nat) (d L : List Int) (w : World) (hm : m ≤ 10000) (hn : n ≤ 10000) (h2 : Stk w B m b ops) (h1 : Stk w A n q d) (hC : AllC d) (h : AlOk ops d L) :
    Calls Tryz.prog 14 #[.slice B m b, .slice A n q] w (PuPost w L 0) := by
  have := all_any B m b ops A n q d w hm hn h2 h1 hC
  rw [h.1, h.2] at this
  exact this
end Go.Proofs.YtnlkggfgloblcaaGreat

/-! From PureBelowMath. -/
namespace Go.Proofs.YtnlkggfgloblcaaGreat
open Go.RowKit

theorem puD_below (k : Nat) (h1 : 18 ≤ k) (h2 : k ≤ 74) (e1 : k ≠ 30) (e2 : k ≠ 31) (e3 : k ≠ 32) (l l' : List Int) (a b c d : Int) : puD k l a b c d = puD k l' a b c d := by
  rcases op_split k h1 h2 with rfl | rfl | rfl | rfl | rfl | rfl | rfl | rfl | rfl | rfl | rfl | rfl | rfl | rfl | rfl | rfl | rfl | rfl | rfl | rfl | rfl | rfl | rfl | rfl | rfl | rfl | rfl | rfl | rfl | rfl | rfl | rfl | rfl | rfl | rfl | rfl | rfl | rfl | rfl | rfl | rfl | rfl | rfl | rfl | rfl | rfl | rfl | rfl | rfl | rfl | rfl | rfl | rfl | rfl | rfl | rfl | rfl
  · rfl
  · rfl
  · rfl
  · rfl
  · rfl
  · rfl
  · rfl
  · rfl
  · rfl
  · rfl
  · rfl
  · rfl
  · exact absurd rfl e1
  · exact absurd rfl e2
  · exact absurd rfl e3
  · rfl
  · rfl
  · rfl
  · rfl
  · rfl
  · rfl
  · rfl
  · rfl
  · rfl
  · rfl
  · rfl
  · rfl
  · rfl
  · rfl
  · rfl
  · rfl
  · rfl
  · rfl
  · rfl
  · rfl
  · rfl
  · rfl
  · rfl
  · rfl
  · rfl
  · rfl
  · rfl
  · rfl
  · rfl
  · rfl
  · rfl
  · rfl
  · rfl
  · rfl
  · rfl
  · rfl
  · rfl
  · rfl
  · rfl
  · rfl
  · rfl
  · rfl
theorem puD_six (k : Nat) (h1 : 18 ≤ k) (h2 : k ≤ 74) (l : List Int) (a b c d : Int) : (puD k l a b c d).1.length ≤ 6 := by
  rcases op_split k h1 h2 with rfl | rfl | rfl | rfl | rfl | rfl | rfl | rfl | rfl | rfl | rfl | rfl | rfl | rfl | rfl | rfl | rfl | rfl | rfl | rfl | rfl | rfl | rfl | rfl | rfl | rfl | rfl | rfl | rfl | rfl | rfl | rfl | rfl | rfl | rfl | rfl | rfl | rfl | rfl | rfl | rfl | rfl | rfl | rfl | rfl | rfl | rfl | rfl | rfl | rfl | rfl | rfl | rfl | rfl | rfl | rfl | rfl
  · exact Nat.le_of_ble_eq_true rfl
  · exact Nat.le_of_ble_eq_true rfl
  · exact Nat.le_of_ble_eq_true rfl
  · exact Nat.le_of_ble_eq_true rfl
  · exact Nat.le_of_ble_eq_true rfl
  · exact Nat.le_of_ble_eq_true rfl
  · exact Nat.le_of_ble_eq_true rfl
  · exact Nat.le_of_ble_eq_true rfl
  · exact Nat.le_of_ble_eq_true rfl
  · exact Nat.le_of_ble_eq_true rfl
  · exact Nat.le_of_ble_eq_true rfl
  · show (if a = 0 then [0] else [a, a] : List Int).length ≤ 6; split <;> simp
  · exact Nat.le_of_ble_eq_true rfl
  · exact Nat.le_of_ble_eq_true rfl
  · exact Nat.le_of_ble_eq_true rfl
  · exact Nat.le_of_ble_eq_true rfl
  · exact Nat.le_of_ble_eq_true rfl
  · exact Nat.le_of_ble_eq_true rfl
  · exact Nat.le_of_ble_eq_true rfl
  · exact Nat.le_of_ble_eq_true rfl
  · exact Nat.le_of_ble_eq_true rfl
  · exact Nat.le_of_ble_eq_true rfl
  · exact Nat.le_of_ble_eq_true rfl
  · exact Nat.le_of_ble_eq_true rfl
  · exact Nat.le_of_ble_eq_true rfl
  · exact Nat.le_of_ble_eq_true rfl
  · exact Nat.le_of_ble_eq_true rfl
  · exact Nat.le_of_ble_eq_true rfl
  · exact Nat.le_of_ble_eq_true rfl
  · exact Nat.le_of_ble_eq_true rfl
  · exact Nat.le_of_ble_eq_true rfl
  · exact Nat.le_of_ble_eq_true rfl
  · exact Nat.le_of_ble_eq_true rfl
  · exact Nat.le_of_ble_eq_true rfl
  · exact Nat.le_of_ble_eq_true rfl
  · exact Nat.le_of_ble_eq_true rfl
  · exact Nat.le_of_ble_eq_true rfl
  · exact Nat.le_of_ble_eq_true rfl
  · exact Nat.le_of_ble_eq_true rfl
  · exact Nat.le_of_ble_eq_true rfl
  · exact Nat.le_of_ble_eq_true rfl
  · exact Nat.le_of_ble_eq_true rfl
  · exact Nat.le_of_ble_eq_true rfl
  · exact Nat.le_of_ble_eq_true rfl
  · exact Nat.le_of_ble_eq_true rfl
  · exact Nat.le_of_ble_eq_true rfl
  · exact Nat.le_of_ble_eq_true rfl
  · exact Nat.le_of_ble_eq_true rfl
  · exact Nat.le_of_ble_eq_true rfl
  · exact Nat.le_of_ble_eq_true rfl
  · exact Nat.le_of_ble_eq_true rfl
  · exact Nat.le_of_ble_eq_true rfl
  · exact Nat.le_of_ble_eq_true rfl
  · exact Nat.le_of_ble_eq_true rfl
  · exact Nat.le_of_ble_eq_true rfl
  · exact Nat.le_of_ble_eq_true rfl
  · exact Nat.le_of_ble_eq_true rfl
theorem below_at {o : Int} {d u : List Int} (hN : puN o ≤ d.length) (hL : u.length + d.length ≤ 50) (e1 : o ≠ 30) (e2 : o ≠ 31) (e3 : o ≠ 32) : doE o (u ++ d) = doE o d ∧ doL o (u ++ d) = u ++ doL o d := by
  cases hg : puG o
  · have h1 : doE o d = -21 := by simp [doE, hg]
    have h2 : doE o (u ++ d) = -21 := by simp [doE, hg]
    unfold doL
    rw [if_neg (by rw [h2]; decide), if_neg (by rw [h1]; decide), h1, h2]
    exact ⟨rfl, rfl⟩
  · obtain ⟨k, rfl, h1, h2⟩ := puG_some hg
    have k1 : k ≠ 30 := by omega
    have k2 : k ≠ 31 := by omega
    have k3 : k ≠ 32 := by omega
    have eT : (u ++ d).length - puN (k : Int) = u.length + (d.length - puN (k : Int)) := by simp; omega
    have eL : (u ++ d).take (u.length + (d.length - puN (k : Int))) = u ++ d.take (d.length - puN (k : Int)) := by rw [List.take_append, List.take_of_length_le (by omega), Nat.add_sub_cancel_left]
    have eX : (u ++ d).drop (u.length + (d.length - puN (k : Int))) = d.drop (d.length - puN (k : Int)) := by rw [List.drop_append, List.drop_eq_nil_of_le (by omega), Nat.add_sub_cancel_left, List.nil_append]
    have hlt : (d.take (d.length - puN (k : Int))).length ≤ d.length := by simp
    generalize hl : d.take (d.length - puN (k : Int)) = l at *
    generalize hx : d.drop (d.length - puN (k : Int)) = x at *
    have hT : puT k (u ++ l) x = puT k l x := by unfold puT; rw [puD_below k h1 h2 k1 k2 k3 (u ++ l) l]
    have hY : puY k (u ++ l) x = puY k l x := by unfold puY; rw [puD_below k h1 h2 k1 k2 k3 (u ++ l) l]
    have h6 : (puY k l x).length ≤ 6 := puD_six k h1 h2 l _ _ _ _
    have hEd : doE (k : Int) d = puE k l x := by
      unfold doE
      rw [if_neg (by rw [hg]; decide), if_neg (by omega), if_neg (by omega), hl, hx]
      rfl
    have hEu : doE (k : Int) (u ++ d) = puE k (u ++ l) x := by
      unfold doE
      rw [if_neg (by rw [hg]; decide), if_neg (by simp; omega), if_neg (by simp; omega), eT, eL, eX]
      rfl
    have hEE : puE k (u ++ l) x = puE k l x := by
      rw [puE_lay k2, puE_lay k2, hT, hY]
      unfold unE
      split
      · rw [pushE_ok (pushB_no (by rw [List.length_append]; omega)), pushE_ok (pushB_no (by omega))]
      · rfl
    refine ⟨by rw [hEu, hEd, hEE], ?_⟩
    unfold doL
    rw [hEu, hEd, hEE, eT, eL, eX, hl, hx]
    split
    · show puL k (u ++ l) x = u ++ puL k l x
      rw [puL_lay k2, puL_lay k2, hT, hY]
      rename_i h0
      rw [puE_lay k2] at h0
      obtain ⟨h00, h01, _⟩ := unE_zero h0
      rw [h00, unL_ok, unL_ok, pushL_ok h01, pushL_ok (pushB_no (by rw [List.length_append]; omega)), List.append_assoc]
    · rfl
end Go.Proofs.YtnlkggfgloblcaaGreat

/-! From PureOpen. -/
namespace Go.Proofs.YtnlkggfgloblcaaGreat
open Go.ChangeShapes Go.WideShapes Go.ChangeAt Go.RowKit

theorem cellsI : Tryz.prog.cellsOf 3 = 1 := by kernel_rfl
theorem laidI : laidOutB Tryz.prog = true := by kernel_rfl
theorem open_stkC {H : Type} {enc : TypeId × Value → H} {w : World} {r : Reach} {b0 : Nat} {v : Value} {d : DataW H} {p : List MemPlace}
    (hv : Value.okWide Tryz.prog w r b0 22 v) (h : DataW.Trod enc Tryz.prog w 0 (fun _ => true) true 22 v d p) :
    ∃ (A : Option Addr) (n c : Nat) (l : List Int), v = .slice A n c ∧ Stk w A n c l ∧ AllC l := by
  obtain ⟨a1, len, cap, rfl⟩ := okWide_slice Tryz.underlying22 hv
  obtain ⟨fuel, hf⟩ := h
  rcases open_ints Tryz.underlying22 Tryz.underlying3 cellsI hf with ⟨hcs, hx⟩ | ⟨a, len', cap', zs, hcs, _, hl, hm, hz, hx, hcell, hwz⟩
  · simp [Value.cells] at hcs
    obtain ⟨rfl, rfl, rfl⟩ := hcs
    exact ⟨_, _, _, [], rfl, Stk.nil, allC_nil⟩
  · simp [Value.cells] at hcs
    obtain ⟨rfl, rfl, rfl⟩ := hcs
    simp only [if_true] at hz
    have hlen : (zs.take len).length = len := by simp; omega
    refine ⟨_, _, _, zs.take len, rfl, ⟨hlen, hl, fun h0 => ?_, fun h => by cases h⟩, fun x hx => inC_of_wf (hwz x (List.mem_of_mem_take hx))⟩
    obtain ⟨ab, ao, spot⟩ := a
    have hspot : spot = none := by simpa [Addr.add] using World.cell?_spot (hcell 0 (by omega))
    subst hspot
    have h0c := hcell 0 (by omega)
    rw [Addr.add_lit] at h0c
    refine ⟨ab, ao, rfl, World.block_lt_of_cell? w ⟨ab, ao + 0, none⟩ h0c, fun j hj => ?_⟩
    rw [hlen] at hj
    have hcj := hcell j (by omega)
    rw [Addr.add_lit] at hcj
    rw [hcj]
    have e : zs.getD j 0 = zs[j]'(by omega) := by simp [List.getD, List.getElem?_eq_getElem (show j < zs.length by omega)]
    rw [e]
    simp only [List.getElem_take]
theorem Keeps.same {W W' : World} (h : Keeps W W') {p : MemPlace} (hp : p.block < W.heap.size) : W.sameAt W' p := by
  cases p with
  | cell b o => exact World.cell?_of_block (w := W) (h.block b hp)
  | map b => exact h.block b hp
theorem staysK {H : Type} {enc : TypeId × Value → H} {W W' : World} {v : Value} {d : DataW H} {p : List MemPlace} (h : DataW.Trod enc Tryz.prog W 0 (fun _ => true) true 22 v d p)
    (hb : Keeps W W') (hlt : ∀ x ∈ p, x.block < W.heap.size) {sp : Nat → Bool} (hs : ∀ x ∈ p, sp x.block = true) : DataW.Trod enc Tryz.prog W' 0 sp true 22 v d p :=
  WideElems.Trod_stays laidI (by kernel_rfl) (of_decide_eq_true (by kernel_rfl)) h (fun x hx => hb.same (hlt x hx)) hs
end Go.Proofs.YtnlkggfgloblcaaGreat
