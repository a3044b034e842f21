/-
  The document's example of layer 7, as the statements ask for it: awake answers true; of what was there nothing has changed.
-/
import Derived.Test.YtlpacdheabcpdaaOpFind
namespace Go.Proofs.Ytlpacdheabcpdaa
open Go.RowKit

theorem aw1 (w : World) : Calls Try.prog 7 #[.string ⟨#[100, 117, 112]⟩] w fun e w' => e = .returned (.tuple #[.int .i64 18, .bool true]) ∧ Below w.heap.size w w' :=
  find_is [100, 117, 112] _ rfl (by decide) 18 true (by decide +kernel) w
theorem aw2 (w : World) : Calls Try.prog 9 #[.int .i64 18] w fun e w' => e = .returned (.tuple #[.int .i64 2, .bool true]) ∧ Below w.heap.size w w' :=
  leaves_is 18 2 true (by decide +kernel) w
theorem aw3 (w : World) : Calls Try.prog 13 #[.int .i64 18] w fun e w' => e = .returned (.int .i64 1) ∧ Below w.heap.size w w' :=
  needs_is 18 1 (by decide +kernel) w
theorem aw4 (w : World) : Calls Try.prog 15 #[.int .i64 18] w fun e w' => e = .returned (.int .i64 1) ∧ Below w.heap.size w w' :=
  group_is 18 1 (by decide +kernel) w
theorem aw5 (w : World) : Calls Try.prog 11 #[.int .i64 18] w fun e w' => e = .returned (.string ⟨#[68, 85, 80]⟩) ∧ Below w.heap.size w w' :=
  name_is 18 ⟨#[68, 85, 80]⟩ (by rw [show (opR 18).1 = [68, 85, 80] by decide +kernel]) w
set_option maxHeartbeats 1000000 in
set_option maxRecDepth 4000 in
theorem awake_any (w : World) : Calls Try.prog 6 #[] w fun e w' => e = .returned (.bool true) ∧ Below w.heap.size w w' := by
  go_enter Try.func6, Try.ntmps6
  go_wp2_with (first
    | (go_at_call 7; refine (aw1 _).mono ?_; rintro e w1 ⟨rfl, hb1⟩; have H1 := Lib.hid hb1; clear hb1)
    | (go_at_call 9; refine (aw2 _).mono ?_; rintro e w2 ⟨rfl, hb2⟩; have H2 := Lib.hid (below_then H1.out hb2); clear hb2)
    | (go_at_call 13; refine (aw3 _).mono ?_; rintro e w3 ⟨rfl, hb3⟩; have H3 := Lib.hid (below_then H2.out hb3); clear hb3)
    | (go_at_call 15; refine (aw4 _).mono ?_; rintro e w4 ⟨rfl, hb4⟩; have H4 := Lib.hid (below_then H3.out hb4); clear hb4)
    | (go_at_call 11; refine (aw5 _).mono ?_; rintro e w5 ⟨rfl, hb5⟩; have H5 := Lib.hid (below_then H4.out hb5); clear hb5))
  go_ret
  exact ⟨rfl, H5.out⟩
end Go.Proofs.Ytlpacdheabcpdaa
