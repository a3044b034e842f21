/-
  What Needs, Group and Leaves answer, by the document's table; of what was there nothing has changed.
-/
import Derived.Test.YtnlkggfgloblcaaGreatOpRow
namespace Go.Proofs.YtnlkggfgloblcaaGreat
open Go.RowKit

set_option maxHeartbeats 400000 in
theorem needs_is (n : Int) (v : Int) (hv : (opR n).2.1 = v) (w : World) : Calls Tryz.prog 18 #[.int .i64 n] w fun e w' => e = .returned (.int .i64 v) ∧ Below w.heap.size w w' := by
  have hR := fun W => rowOf_is n (opR n).1 (opR n).2.1 (opR n).2.2.1 (opR n).2.2.2 _ rfl rfl W
  rw [hv] at hR
  clear hv
  generalize (⟨(opR n).1.toArray⟩ : ByteArray) = S at hR
  generalize (opR n).2.2.1 = y at hR
  generalize (opR n).2.2.2 = z at hR
  have hf : ∀ W : World, (Instr.field 44 (.agg #[.string S, .int .i64 v, .int .i64 y, .int .i64 z]) 1).run Tryz.prog W = .ok (.int .i64 v) W := fun _ => by kernel_rfl
  have HR := Lib.hid hR
  clear hR
  go_enter Tryz.func18, Tryz.ntmps18
  go_wp2_with (go_at_call 28; refine (HR.out _).mono ?_; rintro e w1 ⟨rfl, hb1⟩; have HB := Lib.hid hb1; clear hb1)
  go_ret
  exact ⟨rfl, HB.out⟩
set_option maxHeartbeats 400000 in
theorem group_is (n : Int) (v : Int) (hv : (opR n).2.2.2 = v) (w : World) : Calls Tryz.prog 17 #[.int .i64 n] w fun e w' => e = .returned (.int .i64 v) ∧ Below w.heap.size w w' := by
  have hR := fun W => rowOf_is n (opR n).1 (opR n).2.1 (opR n).2.2.1 (opR n).2.2.2 _ rfl rfl W
  rw [hv] at hR
  clear hv
  generalize (⟨(opR n).1.toArray⟩ : ByteArray) = S at hR
  generalize (opR n).2.1 = x at hR
  generalize (opR n).2.2.1 = y at hR
  have hf : ∀ W : World, (Instr.field 44 (.agg #[.string S, .int .i64 x, .int .i64 y, .int .i64 v]) 3).run Tryz.prog W = .ok (.int .i64 v) W := fun _ => by kernel_rfl
  have HR := Lib.hid hR
  clear hR
  go_enter Tryz.func17, Tryz.ntmps17
  go_wp2_with (go_at_call 28; refine (HR.out _).mono ?_; rintro e w1 ⟨rfl, hb1⟩; have HB := Lib.hid hb1; clear hb1)
  go_ret
  exact ⟨rfl, HB.out⟩
set_option maxHeartbeats 400000 in
theorem leaves_is (n : Int) (v : Int) (b : Bool) (hv : opL n = (v, b)) (w : World) : Calls Tryz.prog 19 #[.int .i64 n] w fun e w' => e = .returned (.tuple #[.int .i64 v, .bool b]) ∧ Below w.heap.size w w' := by
  have hR := fun W => rowOf_is n (opR n).1 (opR n).2.1 (opR n).2.2.1 (opR n).2.2.2 _ rfl rfl W
  unfold opL at hv
  generalize (⟨(opR n).1.toArray⟩ : ByteArray) = S at hR
  generalize (opR n).2.1 = x at hR
  generalize (opR n).2.2.1 = y at hR hv
  generalize (opR n).2.2.2 = z at hR
  have hf : ∀ W : World, (Instr.field 44 (.agg #[.string S, .int .i64 x, .int .i64 y, .int .i64 z]) 2).run Tryz.prog W = .ok (.int .i64 y) W := fun _ => by kernel_rfl
  have HR := Lib.hid hR
  clear hR
  by_cases hy : y = -1
  · rw [if_pos hy] at hv
    simp only [Prod.mk.injEq] at hv
    obtain ⟨rfl, rfl⟩ := hv
    subst hy
    go_enter Tryz.func19, Tryz.ntmps19
    go_wp2_with (go_at_call 28; refine (HR.out _).mono ?_; rintro e w1 ⟨rfl, hb1⟩; have HB := Lib.hid hb1; clear hb1)
    go_ret2
    exact ⟨rfl, HB.out⟩
  · rw [if_neg hy] at hv
    simp only [Prod.mk.injEq] at hv
    obtain ⟨rfl, rfl⟩ := hv
    have hy2 : (y == -1) = false := by simpa using hy
    clear hy
    go_enter Tryz.func19, Tryz.ntmps19
    go_wp2_with (go_at_call 28; refine (HR.out _).mono ?_; rintro e w1 ⟨rfl, hb1⟩; have HB := Lib.hid hb1; clear hb1)
    go_ret2
    exact ⟨rfl, HB.out⟩
end Go.Proofs.YtnlkggfgloblcaaGreat
