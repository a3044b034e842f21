/-
  What the document's own Make, Shl and Shr of layer 1 answer: a cell out of 64 digits in a slice of their own. The world has new blocks alone.
-/
import Derived.Test.YticeeckahdjjmaaRef01Calls
import Derived.RowKit3
namespace Go.Proofs.Yticeeckahdjjmaa
open Go.RowKit

theorem Grown.trans' {a b c : World} (h : Grown a b) (k : Grown b c) : Grown a c :=
  ⟨World.keptBut_trans h.1 k.1, fun x => (k.2.1 x).trans (h.2.1 x), Nat.le_trans h.2.2 k.2.2⟩

/-- The 64 cells of block B are numbers z. -/
def Cells64 (w : World) (B : Nat) (z : Nat → Int) : Prop := ∀ j, j < 64 → w.cell? ⟨B, j, none⟩ = some (.int .i64 (z j))

set_option maxHeartbeats 400000 in
theorem make_any (B : Nat) (z : Nat → Int) (w : World) (hz : Cells64 w B z) :
    Calls Try.prog 78 #[.slice (some ⟨B, 0, none⟩) 64 64] w fun e w' => e = .returned (.int .i64 (wrap64 (mkF z 64))) ∧ w = w' := by
  have HZ := Lib.hid hz
  clear hz
  go_enter Try.func78, Try.ntmps78
  go_wp2
  go_loop [3, 4] (fun v i => ∃ m : Nat, m ≤ 64 ∧ i = .int .i64 (63 - (m : Int)) ∧ v = .int .u64 (mkF z m)) (fun _ i => (intOf i + 1).toNat)
  case atStart => exact ⟨0, by omega, rfl, rfl⟩
  case round =>
    obtain ⟨m, hm, rfl, rfl⟩ := hrel
    by_cases h0 : m = 64
    · subst h0
      go_wp2
      go_ret
      exact ⟨rfl, rfl⟩
    · have hc := HZ.out (63 - m) (by omega)
      have hn : ((63 : Int) - (m : Int)).toNat = 63 - m := by omega
      have HM : Hid (mkF z (m + 1) = IntKind.u64.wrap (IntKind.u64.wrap (mkF z m * 2) + IntKind.u64.wrap (bits .and .i64 (z (63 - m)) 1))) := rfl
      go_wp2
      go_round
      case rel => exact ⟨m + 1, by omega, by go_num, by rw [HM.out]⟩
      case measure => simp [intOf]; omega

/-- A new block of 64 noughts. -/
def new64 : Obj := .cells (Array.replicate 64 (.int .i64 0)) 3
theorem run_make64 (w : World) : (Instr.makeSlice 78 (.int .i64 64) (.int .i64 64)).run Try.prog w = .ok (.slice (some ⟨w.heap.size, 0, none⟩) 64 64) (w.alloc new64) := by kernel_rfl
theorem new64_cells (w : World) : Cells64 (w.alloc new64) w.heap.size (fun _ => 0) := by
  intro j hj
  unfold new64
  rw [World.cell?_alloc_at _ _ _ _ rfl]
  simp [hj]
theorem new64_frozen (w : World) (j : Nat) : (w.alloc new64).frozen? ⟨w.heap.size, j, none⟩ = false := by
  unfold new64
  exact World.frozen?_alloc_new w _ _ j
theorem set64 {w : World} {B : Nat} {z : Nat → Int} (h : Cells64 w B z) (k : Nat) (v : Int) : Cells64 (w.setCell ⟨B, k, none⟩ (.int .i64 v)) B (fun j => if j = k then v else z j) := by
  intro j hj
  show _ = some (Value.int .i64 (if j = k then v else z j))
  by_cases e : j = k
  · subst e
    rw [if_pos rfl]; exact World.cell?_setCell_same w _ _ (h j hj)
  · rw [if_neg e]
    rw [World.cell?_setCell_other]
    · exact h j hj
    · intro h2; exact e (Addr.mk.inj h2).2.1.symm
theorem cells64_congr {w : World} {B : Nat} {z y : Nat → Int} (h : Cells64 w B z) (e : ∀ j, j < 64 → z j = y j) : Cells64 w B y := by
  intro j hj; rw [← e j hj]; exact h j hj
/-- What holds while a call fills its 64 cells: block B, from world w on. -/
def Fill (w : World) (z : Nat → Int) (wr : World) : Prop := Cells64 wr w.heap.size z ∧ (∀ j, wr.frozen? ⟨w.heap.size, j, none⟩ = false) ∧ Grown w wr
theorem fill_new (w : World) : Fill w (fun _ => 0) (w.alloc new64) :=
  ⟨new64_cells w, new64_frozen w, (Grown.refl w).alloc _ _⟩
theorem fill_set {w wr : World} {z : Nat → Int} (h : Fill w z wr) (k : Nat) (v : Int) (y : Nat → Int) (hy : ∀ j, j < 64 → (if j = k then v else z j) = y j) : Fill w y (wr.setCell ⟨w.heap.size, k, none⟩ (.int .i64 v)) :=
  ⟨cells64_congr (set64 h.1 k v) hy, fun j => by rw [World.frozen?_setCell]; exact h.2.1 j, h.2.2.setCell (Nat.le_refl _) _⟩
theorem fill_congr {w wr : World} {z y : Nat → Int} (h : Fill w z wr) (e : ∀ j, j < 64 → z j = y j) : Fill w y wr := ⟨cells64_congr h.1 e, h.2⟩

/-- The first digits that Shl has laid, of Shr. -/
def pShl (a : Int) (n k : Nat) (j : Nat) : Int := if n ≤ j ∧ j < k then bitZ a ((j : Int) - n) else 0
def pShr (a : Int) (n k : Nat) (j : Nat) : Int := if j < k then bitZ a ((j : Int) + n) else 0
end Go.Proofs.Yticeeckahdjjmaa
