/-
  Stacks in worlds of which nothing that was there has changed (Keeps); a row that is built of some ints is a stack; what lay, layFlag, layDbl and layUnless answer.
-/
import Derived.Test.YtnlkggfgloblcaaGreatPureMath
import Derived.Test.YtnlkggfgloblcaaGreatStkCalls
import Derived.Test.YtnlkggfgloblcaaGreatCellCalls
import Derived.Test.YtnlkggfgloblcaaGreatKeeps
import Derived.Deep.RegionHeld3
import Derived.IntWalk
namespace Go.Proofs.YtnlkggfgloblcaaGreat
open Go.RowKit

theorem Stk.keeps {w w' : World} {A : Option Addr} {n c : Nat} {l : List Int} (h : Stk w A n c l) (k : Keeps w w') : Stk w' A n c l := h.keep k.size fun _ _ hb => k.cell hb
theorem keeps_below {W W' : World} (h : Below W.heap.size W W') : Keeps W W' := ⟨h.os, h.output, h.size, h.block⟩
/-- A stack and a throw. -/
def PuPost (w : World) (l : List Int) (t : Int) (e : Ending) (w' : World) : Prop := ∃ A n c, e = .returned (.tuple #[.slice A n c, .int .i64 t]) ∧ Stk w' A n c l ∧ Keeps w w'
theorem pu_ret {w w' : World} {A : Option Addr} {n c : Nat} {l l' : List Int} {t t' : Int} (h : Stk w' A n c l') (k : Keeps w w') (hl : l' = l) (ht : t' = t) : PuPost w l t (.returned (.tuple #[.slice A n c, .int .i64 t'])) w' := by
  subst hl ht
  exact ⟨A, n, c, rfl, h, k⟩
/-- A row that is built. -/
theorem stk_new (w : World) (t : TypeId) (l : List Int) (n : Nat) (hn : l.length = n) (h0 : 0 < n) : Stk (w.alloc (.cells (intsOf l).toArray t)) (some ⟨w.heap.size, 0, none⟩) n n l := by
  subst hn
  refine ⟨rfl, Nat.le_refl _, fun _ => ⟨w.heap.size, 0, rfl, by simp, fun j hj => ?_⟩, fun h => by cases h⟩
  rw [Nat.zero_add, cell_of_row _ _ j _ t (0, 0) (heap_alloc_new w _)]
  simp [intsOf, hj]
theorem stk_at (w : World) (t : TypeId) (l : List Int) (n B : Nat) (hB : w.heap.size = B) (hn : l.length = n) (h0 : 0 < n) : Stk (w.alloc (.cells (intsOf l).toArray t)) (some ⟨B, 0, none⟩) n n l := by
  subst hB
  exact stk_new w t l n hn h0

set_option maxHeartbeats 400000 in
theorem lay_any (A : Option Addr) (n c : Nat) (l : List Int) (B : Option Addr) (m d : Nat) (x : List Int) (w : World) (hn : n ≤ 10000) (hm : m ≤ 10000) (h1 : Stk w A n c l) (h2 : Stk w B m d x) :
    Calls Tryz.prog 43 #[.slice A n c, .slice B m d] w (PuPost w (pushL l x 64) (pushE (l.length + x.length) 64)) := by
  have H1 := Lib.hid h1
  have H2 := Lib.hid h2
  clear h1 h2
  go_enter Tryz.func43, Tryz.ntmps43
  go_wp2_with (go_at_call 130; refine (push_any _ _ _ _ 64 _ _ _ _ _ hn hm H1.out H2.out).mono ?_; rintro e w1 ⟨A1, n1, c1, rfl, ho, hb⟩; have HO := Lib.hid ho; have HB := Lib.hid hb; clear ho hb)
  go_ret2
  exact ⟨A1, n1, c1, rfl, HO.out, keeps_below HB.out⟩
set_option maxHeartbeats 400000 in
theorem layFlag_any (A : Option Addr) (n c : Nat) (l : List Int) (ok : Bool) (w : World) (hn : n ≤ 10000) (h1 : Stk w A n c l) :
    Calls Tryz.prog 84 #[.slice A n c, .bool ok] w (PuPost w (pushL l [flagZ ok] 64) (pushE (l.length + 1) 64)) := by
  have H1 := Lib.hid h1
  clear h1
  go_enter Tryz.func84, Tryz.ntmps84
  go_wp2_with (first | (go_at_call 138; (with_reducible refine (flag_z _ _).mono ?_); rintro e w' ⟨rfl, rfl⟩) | (go_at_call 43; refine (lay_any _ _ _ l _ 1 1 [flagZ ok] _ hn (by omega) (H1.out.alloc _) (stk_new _ _ _ 1 rfl (by decide))).mono ?_; rintro e w1 ⟨A1, n1, c1, rfl, ho, hb⟩; have HO := Lib.hid ho; have HB := Lib.hid hb; clear ho hb))
  go_ret2
  exact ⟨A1, n1, c1, rfl, HO.out, ((Keeps.refl _).alloc _).trans HB.out⟩
set_option maxHeartbeats 400000 in
theorem layDbl_any (A : Option Addr) (n c : Nat) (l : List Int) (a b : Int) (w : World) (hn : n ≤ 10000) (h1 : Stk w A n c l) :
    Calls Tryz.prog 95 #[.slice A n c, .agg #[.int .i64 a, .int .i64 b]] w (PuPost w (pushL l [a, b] 64) (pushE (l.length + 2) 64)) := by
  have H1 := Lib.hid h1
  clear h1
  go_enter Tryz.func95, Tryz.ntmps95
  go_wp2_with (go_at_call 43; refine (lay_any _ _ _ l _ 2 2 [a, b] _ hn (by omega) ((H1.out.alloc _).alloc _) (stk_at _ _ _ 2 _ (by simp) rfl (by decide))).mono ?_; rintro e w1 ⟨A1, n1, c1, rfl, ho, hb⟩; have HO := Lib.hid ho; have HB := Lib.hid hb; clear ho hb)
  go_ret2
  exact ⟨A1, n1, c1, rfl, HO.out, (((Keeps.refl _).alloc _).alloc _).trans HB.out⟩
set_option maxHeartbeats 400000 in
theorem layUnless_any (t : Int) (A : Option Addr) (n c : Nat) (l : List Int) (B : Option Addr) (m d : Nat) (x : List Int) (w : World) (hn : n ≤ 10000) (hm : m ≤ 10000) (h1 : Stk w A n c l) (h2 : Stk w B m d x) :
    Calls Tryz.prog 132 #[.int .i64 t, .slice A n c, .slice B m d] w (PuPost w (unL t l x) (unE t l.length x.length)) := by
  have H1 := Lib.hid h1
  have H2 := Lib.hid h2
  clear h1 h2
  by_cases ht : t = 0
  · subst ht
    go_enter Tryz.func132, Tryz.ntmps132
    go_wp2_with (go_at_call 43; refine (lay_any _ _ _ _ _ _ _ _ _ hn hm H1.out H2.out).mono ?_; rintro e w1 ⟨A1, n1, c1, rfl, ho, hb⟩; have HO := Lib.hid ho; have HB := Lib.hid hb; clear ho hb)
    go_ret2
    exact ⟨A1, n1, c1, rfl, HO.out, HB.out⟩
  · have hd : (t != 0) = true := by simpa using ht
    rw [unL_no ht, unE_no ht]
    clear ht
    go_enter Tryz.func132, Tryz.ntmps132
    go_wp2
    go_ret2
    exact ⟨A, n, c, rfl, H1.out, Keeps.refl _⟩
end Go.Proofs.YtnlkggfgloblcaaGreat
