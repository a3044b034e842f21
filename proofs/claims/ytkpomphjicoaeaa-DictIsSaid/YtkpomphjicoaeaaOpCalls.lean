/-
  What the calls of package op answer, by the document's table: Name, Needs, Group, Leaves, Hidden; of what was there nothing has changed.
-/
import Derived.Test.YtkpomphjicoaeaaOpFew
import Derived.Test.YtkpomphjicoaeaaOpLib
namespace Go.Proofs.Ytkpomphjicoaeaa
open Go.RowKit

set_option maxHeartbeats 400000 in
theorem name_is (n : Int) (S : ByteArray) (hS : S = ⟨(opR n).1.toArray⟩) (w : World) : Calls Try.prog 29 #[.int .i64 n] w fun e w' => e = .returned (.string S) ∧ Below w.heap.size w w' := by
  have hR := fun W => rowOf_is n (opR n).1 (opR n).2.1 (opR n).2.2.1 (opR n).2.2.2 _ rfl rfl W
  rw [← hS] at hR
  clear hS
  generalize (opR n).2.1 = x at hR
  generalize (opR n).2.2.1 = y at hR
  generalize (opR n).2.2.2 = z at hR
  have hf : ∀ W : World, (Instr.field 67 (.agg #[.string S, .int .i64 x, .int .i64 y, .int .i64 z]) 0).run Try.prog W = .ok (.string S) W := fun _ => by kernel_rfl
  have HR := Lib.hid hR
  clear hR
  go_enter Try.func29, Try.ntmps29
  go_wp2_with (go_at_call 39; refine (HR.out _).mono ?_; rintro e w1 ⟨rfl, hb1⟩; have HB := Lib.hid hb1; clear hb1)
  go_ret
  exact ⟨rfl, HB.out⟩
set_option maxHeartbeats 400000 in
theorem hidden_is (n : Int) (b : Bool) (hv : opH (opR n).1 = b) (w : World) : Calls Try.prog 30 #[.int .i64 n] w fun e w' => e = .returned (.bool b) ∧ Below w.heap.size w w' := by
  have hl := opR_len n
  obtain ⟨S, hS⟩ : ∃ S : ByteArray, S = ⟨(opR n).1.toArray⟩ := ⟨_, rfl⟩
  have HN := Lib.hid (name_is n S hS)
  have HP := Lib.hid (fun W => hasp_any (opR n).1 [40] S ⟨#[40]⟩ hS rfl _ rfl W)
  have HS := Lib.hid (fun W => hass_any (opR n).1 [41] S ⟨#[41]⟩ hS rfl (by omega) _ rfl W)
  unfold opH at hv
  clear hS hl
  generalize Lib.hasPrefix (opR n).1 [40] = p at HP hv
  generalize Lib.hasSuffix (opR n).1 [41] = q at HS hv
  cases p with
  | false =>
    simp only [Bool.false_and] at hv
    subst hv
    go_enter Try.func30, Try.ntmps30
    go_wp2_with (first
      | (go_at_call 29; refine (HN.out _).mono ?_; rintro e w1 ⟨rfl, hb1⟩; have HB := Lib.hid hb1; clear hb1)
      | (go_at_call 40; refine (HP.out _).mono ?_; rintro e w2 ⟨rfl, rfl⟩))
    go_ret
    exact ⟨rfl, HB.out⟩
  | true =>
    simp only [Bool.true_and] at hv
    subst hv
    go_enter Try.func30, Try.ntmps30
    go_wp2_with (first
      | (go_at_call 29; refine (HN.out _).mono ?_; rintro e w1 ⟨rfl, hb1⟩; have HB := Lib.hid hb1; clear hb1)
      | (go_at_call 40; refine (HP.out _).mono ?_; rintro e w2 ⟨rfl, rfl⟩)
      | (go_at_call 41; refine (HS.out _).mono ?_; rintro e w2 ⟨rfl, rfl⟩))
    go_ret
    exact ⟨rfl, HB.out⟩
end Go.Proofs.Ytkpomphjicoaeaa
