/-
  What the calls Of, Add and Neg of package dbl answer (contracts of the translated functions): the double of a whole number, of a sum, of the other sign. The world has new blocks alone.
-/
import Derived.Test.YticeeckahdjjmaaCellCalls
import Derived.Test.YticeeckahdjjmaaDblMath
import Derived.Deep.RegionHeld3
import Derived.RowKit3
import Derived.Lib.Hide
namespace Go.Proofs.Yticeeckahdjjmaa
open Go.RowKit

theorem ret_dbl {a b x y : Int} (h : a = x) (h' : b = y) : Ending.returned (.agg #[.int .i64 a, .int .i64 b]) = .returned (.agg #[.int .i64 x, .int .i64 y]) := by rw [h, h']
def flagZ (b : Bool) : Int := if b then -1 else 0
theorem flag_z (ok : Bool) (w : World) :
    Calls Try.prog 62 #[.bool ok] w fun e w' => e = .returned (.int .i64 (flagZ ok)) ∧ w = w' := flag_any ok w
theorem dHi_flag {n : Int} (h : InC n) : flagZ (decide (n < 0)) = dHi n := by rw [dHi_cell h]; unfold flagZ; simp
theorem grown_trans {a b c : World} (h : Grown a b) (k : Grown b c) : Grown a c :=
  ⟨World.keptBut_trans h.1 k.1, fun x => (k.2.1 x).trans (h.2.1 x), Nat.le_trans h.2.2 k.2.2⟩
theorem grown_cell {W w' : World} (hg : Grown W w') {b o : Nat} (hb : b < W.heap.size) {v : Value} (h : W.cell? ⟨b, o, none⟩ = some v) : w'.cell? ⟨b, o, none⟩ = some v := by
  have h1 := hg.1.2.2 b hb
  unfold World.cell? at *
  revert h1 h
  generalize W.heap[b]? = p
  generalize w'.heap[b]? = q
  intro h h1
  cases p with
  | none => simp at h
  | some p =>
    cases p <;> simp at h
    rename_i c t fr
    cases q with
    | none => simp at h1
    | some q =>
      cases q <;> simp at h1
      simp [h1.2.2, h]
theorem keepD {W w' : World} {B : Nat} {l h : Value} (hg : Grown W w') (k : B < W.heap.size ∧ W.cell? ⟨B, 0, none⟩ = some l ∧ W.cell? ⟨B, 1, none⟩ = some h) : B < w'.heap.size ∧ w'.cell? ⟨B, 0, none⟩ = some l ∧ w'.cell? ⟨B, 1, none⟩ = some h :=
  ⟨Nat.lt_of_lt_of_le k.1 hg.2.2, grown_cell hg k.1 k.2.1, grown_cell hg k.1 k.2.2⟩

set_option maxHeartbeats 400000 in
theorem dadd_any (x y : Int) (w : World) :
    Calls Try.prog 52 #[.agg #[.int .i64 (dLo x), .int .i64 (dHi x)], .agg #[.int .i64 (dLo y), .int .i64 (dHi y)]] w fun e w' => e = .returned (.agg #[.int .i64 (dLo (x + y)), .int .i64 (dHi (x + y))]) ∧ Grown w w' := by
  have h1 := add_lo x y
  have H2 := Lib.hid (add_hi x y)
  go_enter Try.func52, Try.ntmps52
  go_wp2
  go_region_held3 (fun w' => w'.cell? ⟨w.heap.size, 0, none⟩ = some (.int .i64 (dLo x)) ∧ w'.cell? ⟨w.heap.size, 1, none⟩ = some (.int .i64 (dHi x)) ∧ w'.cell? ⟨w.heap.size + 1, 0, none⟩ = some (.int .i64 (dLo y)) ∧ w'.cell? ⟨w.heap.size + 1, 1, none⟩ = some (.int .i64 (dHi y))) (simp [go_sem, World.cell?_alloc_past])
    (first
      | (go_at_call 63; refine (ult_any _ _ _).mono ?_; rintro e w' ⟨rfl, rfl⟩)
      | (go_at_call 62; refine (flag_z _ _).mono ?_; rintro e w' ⟨rfl, rfl⟩))
  go_wp2
  refine bodyPost_ret (v := .agg #[.int .i64 (dLo (x + y)), .int .i64 (IntKind.i64.wrap (IntKind.i64.wrap (dHi x + dHi y) - flagZ (cUlt (dLo (x + y)) (dLo x))))]) (by simp [results, Try.results52, go_sem]) rfl ⟨ret_dbl rfl (by rw [← H2.out, wrapi64, wrapi64]; rfl), ?_⟩
  exact (((Grown.refl _).alloc _ _).alloc _ _).alloc _ _ |>.drew

theorem dof_any (n : Int) (hn : InC n) (w : World) :
    Calls Try.prog 53 #[.int .i64 n] w fun e w' => e = .returned (.agg #[.int .i64 (dLo n), .int .i64 (dHi n)]) ∧ Grown w w' := by
  have H1 := Lib.hid (dLo_cell hn)
  have H2 := Lib.hid (dHi_flag hn)
  go_enter Try.func53, Try.ntmps53
  go_wp2_with (go_at_call 62; refine (flag_z _ _).mono ?_; rintro e w' ⟨rfl, rfl⟩)
  refine bodyPost_ret (v := .agg #[.int .i64 n, .int .i64 (flagZ (decide (n < 0)))]) (by simp [results, Try.results53, go_sem]) rfl ⟨ret_dbl H1.out.symm H2.out, (Grown.refl _).alloc _ _⟩

theorem inC1 : InC 1 := by unfold InC; omega
theorem bits_not (x : Int) (h : InC x) : bits .xor .i64 (-1) x = -x - 1 := by
  unfold InC at h
  show IntKind.i64.wrap ((BitVec.ofInt 64 (-1) ^^^ BitVec.ofInt 64 x).toNat : Int) = _
  have e : BitVec.ofInt 64 (-1) ^^^ BitVec.ofInt 64 x = ~~~ BitVec.ofInt 64 x := by
    rw [show BitVec.ofInt 64 (-1) = BitVec.allOnes 64 by decide]; exact BitVec.allOnes_xor
  rw [e, BitVec.toNat_not, ofInt64, wrapi64]
  unfold wrap64
  omega
theorem resD {W w' : World} {R : Nat} {r s : Value} (hg : Grown W w') (hR : R < W.heap.size) (k : W.cell? ⟨R, 0, none⟩ = some r ∧ W.cell? ⟨R, 1, none⟩ = some s ∧ W.frozen? ⟨R, 0, none⟩ = false ∧ W.frozen? ⟨R, 1, none⟩ = false) :
    w'.cell? ⟨R, 0, none⟩ = some r ∧ w'.cell? ⟨R, 1, none⟩ = some s ∧ w'.frozen? ⟨R, 0, none⟩ = false ∧ w'.frozen? ⟨R, 1, none⟩ = false :=
  ⟨grown_cell hg hR k.1, grown_cell hg hR k.2.1, (hg.2.1 _).trans k.2.2.1, (hg.2.1 _).trans k.2.2.2⟩
set_option maxHeartbeats 400000 in
theorem dneg_any (x : Int) (w : World) :
    Calls Try.prog 40 #[.agg #[.int .i64 (dLo x), .int .i64 (dHi x)]] w fun e w' => e = .returned (.agg #[.int .i64 (dLo (-x)), .int .i64 (dHi (-x))]) ∧ Grown w w' := by
  have h1 : bits .xor .i64 (-1) (dLo x) = dLo (-x - 1) := (bits_not _ (dLo_in x)).trans (not_lo x)
  have h2 : bits .xor .i64 (-1) (dHi x) = dHi (-x - 1) := (bits_not _ (dHi_in x)).trans (not_hi x)
  have hs : IntKind.i64.signed = true := rfl
  go_enter Try.func40, Try.ntmps40
  go_wp2
  go_region_held3 (fun w' => w.heap.size < w'.heap.size ∧ w'.cell? ⟨w.heap.size, 0, none⟩ = some (.int .i64 (dLo x)) ∧ w'.cell? ⟨w.heap.size, 1, none⟩ = some (.int .i64 (dHi x))) (first | (simp [go_sem, World.cell?_alloc_past]; done) | exact keepD (by assumption) (by assumption) | (simp [go_sem]; assumption))
    (first
      | (go_at_call 53; refine (dof_any _ inC1 _).mono ?_; rintro e w1 ⟨rfl, hw1⟩)
      | (go_at_call 52; refine (dadd_any (-x - 1) 1 _).mono ?_; rintro e w2 ⟨rfl, hw2⟩; obtain ⟨c0, c1, f0, f1⟩ := resD (grown_trans hw1 hw2) (R := w.heap.size + 1) (by simp) ⟨by simp [go_sem]; rfl, by simp [go_sem]; rfl, by simp [go_sem], by simp [go_sem]⟩))
  go_wp2
  refine bodyPost_ret (v := .agg #[.int .i64 (dLo (-x)), .int .i64 (dHi (-x))]) (by simp [results, Try.results40, go_sem, c0, c1]) rfl ⟨rfl, ?_⟩
  exact ((grown_trans (grown_trans ((((Grown.refl w).alloc _ _).alloc _ _).drew) hw1) hw2).setCell (by simp) _).setCell (by simp) _
end Go.Proofs.Yticeeckahdjjmaa
