/-
  What the calls of package op answer, by the document's table: Name, Needs, Group, Leaves, Hidden; of what was there nothing has changed.
-/
import Derived.Test.YtlpacdheabcpdaaOpRow
import Derived.Test.YtlpacdheabcpdaaOpLib
namespace Go.Proofs.Ytlpacdheabcpdaa
open Go.RowKit

set_option maxHeartbeats 400000 in
theorem name_is (n : Int) (S : ByteArray) (hS : S = ⟨(opR n).1.toArray⟩) (w : World) : Calls Try.prog 11 #[.int .i64 n] w fun e w' => e = .returned (.string S) ∧ Below w.heap.size w w' := by
  have hR := fun W => rowOf_is n (opR n).1 (opR n).2.1 (opR n).2.2.1 (opR n).2.2.2 _ rfl rfl W
  rw [← hS] at hR
  clear hS
  generalize (opR n).2.1 = x at hR
  generalize (opR n).2.2.1 = y at hR
  generalize (opR n).2.2.2 = z at hR
  have hf : ∀ W : World, (Instr.field 38 (.agg #[.string S, .int .i64 x, .int .i64 y, .int .i64 z]) 0).run Try.prog W = .ok (.string S) W := fun _ => by kernel_rfl
  have HR := Lib.hid hR
  clear hR
  go_enter Try.func11, Try.ntmps11
  go_wp2_with (go_at_call 23; refine (HR.out _).mono ?_; rintro e w1 ⟨rfl, hb1⟩; have HB := Lib.hid hb1; clear hb1)
  go_ret
  exact ⟨rfl, HB.out⟩
set_option maxHeartbeats 400000 in
theorem needs_is (n : Int) (v : Int) (hv : (opR n).2.1 = v) (w : World) : Calls Try.prog 13 #[.int .i64 n] w fun e w' => e = .returned (.int .i64 v) ∧ Below w.heap.size w w' := by
  have hR := fun W => rowOf_is n (opR n).1 (opR n).2.1 (opR n).2.2.1 (opR n).2.2.2 _ rfl rfl W
  rw [hv] at hR
  clear hv
  generalize (⟨(opR n).1.toArray⟩ : ByteArray) = S at hR
  generalize (opR n).2.2.1 = y at hR
  generalize (opR n).2.2.2 = z at hR
  have hf : ∀ W : World, (Instr.field 38 (.agg #[.string S, .int .i64 v, .int .i64 y, .int .i64 z]) 1).run Try.prog W = .ok (.int .i64 v) W := fun _ => by kernel_rfl
  have HR := Lib.hid hR
  clear hR
  go_enter Try.func13, Try.ntmps13
  go_wp2_with (go_at_call 23; refine (HR.out _).mono ?_; rintro e w1 ⟨rfl, hb1⟩; have HB := Lib.hid hb1; clear hb1)
  go_ret
  exact ⟨rfl, HB.out⟩
set_option maxHeartbeats 400000 in
theorem group_is (n : Int) (v : Int) (hv : (opR n).2.2.2 = v) (w : World) : Calls Try.prog 15 #[.int .i64 n] w fun e w' => e = .returned (.int .i64 v) ∧ Below w.heap.size w w' := by
  have hR := fun W => rowOf_is n (opR n).1 (opR n).2.1 (opR n).2.2.1 (opR n).2.2.2 _ rfl rfl W
  rw [hv] at hR
  clear hv
  generalize (⟨(opR n).1.toArray⟩ : ByteArray) = S at hR
  generalize (opR n).2.1 = x at hR
  generalize (opR n).2.2.1 = y at hR
  have hf : ∀ W : World, (Instr.field 38 (.agg #[.string S, .int .i64 x, .int .i64 y, .int .i64 v]) 3).run Try.prog W = .ok (.int .i64 v) W := fun _ => by kernel_rfl
  have HR := Lib.hid hR
  clear hR
  go_enter Try.func15, Try.ntmps15
  go_wp2_with (go_at_call 23; refine (HR.out _).mono ?_; rintro e w1 ⟨rfl, hb1⟩; have HB := Lib.hid hb1; clear hb1)
  go_ret
  exact ⟨rfl, HB.out⟩
set_option maxHeartbeats 400000 in
theorem leaves_is (n : Int) (v : Int) (b : Bool) (hv : opL n = (v, b)) (w : World) : Calls Try.prog 9 #[.int .i64 n] w fun e w' => e = .returned (.tuple #[.int .i64 v, .bool b]) ∧ Below w.heap.size w w' := by
  have hR := fun W => rowOf_is n (opR n).1 (opR n).2.1 (opR n).2.2.1 (opR n).2.2.2 _ rfl rfl W
  unfold opL at hv
  generalize (⟨(opR n).1.toArray⟩ : ByteArray) = S at hR
  generalize (opR n).2.1 = x at hR
  generalize (opR n).2.2.1 = y at hR hv
  generalize (opR n).2.2.2 = z at hR
  have hf : ∀ W : World, (Instr.field 38 (.agg #[.string S, .int .i64 x, .int .i64 y, .int .i64 z]) 2).run Try.prog W = .ok (.int .i64 y) W := fun _ => by kernel_rfl
  have HR := Lib.hid hR
  clear hR
  by_cases hy : y = -1
  · rw [if_pos hy] at hv
    simp only [Prod.mk.injEq] at hv
    obtain ⟨rfl, rfl⟩ := hv
    subst hy
    go_enter Try.func9, Try.ntmps9
    go_wp2_with (go_at_call 23; refine (HR.out _).mono ?_; rintro e w1 ⟨rfl, hb1⟩; have HB := Lib.hid hb1; clear hb1)
    go_ret2
    exact ⟨rfl, HB.out⟩
  · rw [if_neg hy] at hv
    simp only [Prod.mk.injEq] at hv
    obtain ⟨rfl, rfl⟩ := hv
    have hy2 : (y == -1) = false := by simpa using hy
    clear hy
    go_enter Try.func9, Try.ntmps9
    go_wp2_with (go_at_call 23; refine (HR.out _).mono ?_; rintro e w1 ⟨rfl, hb1⟩; have HB := Lib.hid hb1; clear hb1)
    go_ret2
    exact ⟨rfl, HB.out⟩
set_option maxHeartbeats 400000 in
theorem hidden_is (n : Int) (b : Bool) (hv : opH (opR n).1 = b) (w : World) : Calls Try.prog 17 #[.int .i64 n] w fun e w' => e = .returned (.bool b) ∧ Below w.heap.size w w' := by
  have hl := opR_len n
  obtain ⟨S, hS⟩ : ∃ S : ByteArray, S = ⟨(opR n).1.toArray⟩ := ⟨_, rfl⟩
  have HN := Lib.hid (name_is n S hS)
  have HP := Lib.hid (fun W => hasp_any (opR n).1 [40] S ⟨#[40]⟩ hS rfl _ rfl W)
  have HS := Lib.hid (fun W => hass_any (opR n).1 [41] S ⟨#[41]⟩ hS rfl (by omega) _ rfl W)
  unfold opH at hv
  clear hS hl
  generalize Lib.hasPrefix (opR n).1 [40] = p at HP hv
  generalize Lib.hasSuffix (opR n).1 [41] = q at HS hv
  cases p with
  | false =>
    simp only [Bool.false_and] at hv
    subst hv
    go_enter Try.func17, Try.ntmps17
    go_wp2_with (first
      | (go_at_call 11; refine (HN.out _).mono ?_; rintro e w1 ⟨rfl, hb1⟩; have HB := Lib.hid hb1; clear hb1)
      | (go_at_call 28; refine (HP.out _).mono ?_; rintro e w2 ⟨rfl, rfl⟩))
    go_ret
    exact ⟨rfl, HB.out⟩
  | true =>
    simp only [Bool.true_and] at hv
    subst hv
    go_enter Try.func17, Try.ntmps17
    go_wp2_with (first
      | (go_at_call 11; refine (HN.out _).mono ?_; rintro e w1 ⟨rfl, hb1⟩; have HB := Lib.hid hb1; clear hb1)
      | (go_at_call 28; refine (HP.out _).mono ?_; rintro e w2 ⟨rfl, rfl⟩)
      | (go_at_call 29; refine (HS.out _).mono ?_; rintro e w2 ⟨rfl, rfl⟩))
    go_ret
    exact ⟨rfl, HB.out⟩
end Go.Proofs.Ytlpacdheabcpdaa
