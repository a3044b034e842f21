/-
  The document's example of layer 4, as the statements ask for it: awake answers true; and whether lists are the same (tenterhookref04.Same): true of the same list. Of what was there nothing has changed.
-/
import Derived.Test.YtnlkggfgloblcaaGreatStkPermute
import Derived.Deep.QuietTactic
import Derived.BigQuiet
namespace Go.Proofs.YtnlkggfgloblcaaGreat
open Go.RowKit

theorem aw_E : permE [1, 2, 3] 3 [1, 2, 0] 9 = 0 := by decide
theorem aw_L : permL [1, 2, 3] 3 [1, 2, 0] 9 = [2, 3, 1] := by decide
theorem stk_made (w : World) (a b c : Int) : Stk (w.alloc (.cells #[.int .i64 a, .int .i64 b, .int .i64 c] 3)) (some ⟨w.heap.size, 0, none⟩) 3 3 [a, b, c] := by
  refine ⟨rfl, Nat.le_refl _, fun _ => ⟨_, 0, rfl, by simp, fun j hj => ?_⟩, fun h => by cases h⟩
  rw [Nat.zero_add, cell_of_row _ _ j _ 3 (0, 0) (heap_alloc_new w _)]
  match j, hj with
  | 0, _ => rfl
  | 1, _ => rfl
  | 2, _ => rfl
theorem aw_cells {w : World} {A : Option Addr} {n c : Nat} (h : Stk w A n c [2, 3, 1]) : n = 3 ∧ ∃ b o, A = some ⟨b, o, none⟩ ∧ w.cell? ⟨b, o, none⟩ = some (.int .i64 2) ∧ w.cell? ⟨b, o + 1, none⟩ = some (.int .i64 3) ∧ w.cell? ⟨b, o + 2, none⟩ = some (.int .i64 1) := by
  obtain rfl : 3 = n := h.len
  obtain ⟨b, o, rfl, _, hc⟩ := h.at0 (by decide)
  exact ⟨rfl, b, o, rfl, hc 0 (by decide), hc 1 (by decide), hc 2 (by decide)⟩
set_option maxHeartbeats 1000000 in
/-- Lists that are the same. -/
theorem same_any (A B : Option Addr) (n c m d : Nat) (l : List Int) (w : World) (hn : n ≤ 10000) (h1 : Stk w A n c l) (h2 : Stk w B m d l) :
    Calls Tryz.prog 16 #[.slice A n c, .slice B m d] w fun e w' => e = .returned (.bool true) ∧ ∃ k, w' = w.drewN k := by
  obtain rfl : n = m := h1.len.symm.trans h2.len
  have H1 := Lib.hid h1
  have H2 := Lib.hid h2
  clear h1 h2
  go_enter Tryz.func16, Tryz.ntmps16
  go_wp2
  go_loopw [5] (fun i wr => ∃ k j : Nat, k ≤ n ∧ i = .int .i64 k ∧ wr = w.drewN j) (fun i _ => ((n : Int) - intOf i).toNat)
  case atStart => exact ⟨0, 0, by omega, rfl, rfl⟩
  case round =>
    obtain ⟨k, j, hk, rfl, rfl⟩ := hrel
    by_cases h8 : k < n
    · obtain ⟨b1, o1, rfl, _, hc1⟩ := H1.out.at_ k h8
      obtain ⟨b2, o2, rfl, _, hc2⟩ := H2.out.at_ k h8
      have hk0 : (0 : Int) ≤ (k : Int) := by omega
      have hkn : (k : Int) < (n : Int) := by omega
      generalize l.getD k 0 = V at *
      have hV : (V != V) = false := by simp
      go_wp2
      go_quiet (fail)
      go_wp2
      go_roundw
      case rel => exact ⟨k + 1, _, by omega, by go_num, rfl⟩
      case measure => simp [intOf]; omega
    · go_wp2
      go_ret
      exact ⟨rfl, j, rfl⟩
/-- A world in which only orders were drawn since. -/
def Drawn (w w' : World) : Prop := ∃ k, w' = w.drewN k
theorem Drawn.refl (w : World) : Drawn w w := ⟨0, rfl⟩
theorem Drawn.below {a w w' : World} (h : Drawn w w') {B : Nat} (hb : Below B a w) : Below B a w' := by
  obtain ⟨k, rfl⟩ := h
  exact below_drewN hb k
theorem Drawn.stk {w w' : World} (h : Drawn w w') {A : Option Addr} {n c : Nat} {l : List Int} (hs : Stk w A n c l) : Stk w' A n c l := by
  obtain ⟨k, rfl⟩ := h
  exact hs
theorem same_w {A B : Option Addr} {n c m d : Nat} {l : List Int} {w w1 : World} (hw : Drawn w w1) (h1 : Stk w A n c l) (h2 : Stk w B m d l) (hn : n ≤ 10000) :
    Calls Tryz.prog 16 #[.slice A n c, .slice B m d] w1 fun e w' => e = .returned (.bool true) ∧ Drawn w w' := by
  obtain ⟨k, rfl⟩ := hw
  refine (same_any A B n c m d l (w.drewN k) hn h1 h2).mono ?_
  rintro e w' ⟨rfl, j, rfl⟩
  exact ⟨rfl, k + j, by rw [World.drewN_drewN]⟩
end Go.Proofs.YtnlkggfgloblcaaGreat
