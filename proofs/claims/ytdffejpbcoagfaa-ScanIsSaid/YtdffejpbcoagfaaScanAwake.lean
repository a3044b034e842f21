/-
  The document's example of layer 6, as the statements ask for it: awake answers true; of what was there nothing has changed.
-/
import Derived.Test.YtdffejpbcoagfaaScanUpper
import Derived.Test.YtdffejpbcoagfaaScanEach
namespace Go.Proofs.Ytdffejpbcoagfaa
open Go.RowKit

theorem aw1 (w : World) : Calls Try.prog 10 #[.agg #[.string ⟨#[32, 97, 98, 32, 99]⟩, .int .i64 0]] w fun e w' => e = .returned (.tuple #[.string ⟨#[97, 98]⟩, .agg #[.string ⟨#[32, 97, 98, 32, 99]⟩, .int .i64 4]]) ∧ Below w.heap.size w w' :=
  word_is [32, 97, 98, 32, 99] 0 1 3 4 _ _ rfl (by decide) (by decide) (by decide) (by decide) rfl w
theorem aw2 (w : World) : Calls Try.prog 10 #[.agg #[.string ⟨#[32, 97, 98, 32, 99]⟩, .int .i64 4]] w fun e w' => e = .returned (.tuple #[.string ⟨#[99]⟩, .agg #[.string ⟨#[32, 97, 98, 32, 99]⟩, .int .i64 5]]) ∧ Below w.heap.size w w' :=
  word_is [32, 97, 98, 32, 99] 4 4 5 5 _ _ rfl (by decide) (by decide) (by decide) (by decide) rfl w
theorem aw3 (w : World) : Calls Try.prog 10 #[.agg #[.string ⟨#[32, 97, 98, 32, 99]⟩, .int .i64 5]] w fun e w' => e = .returned (.tuple #[.string ⟨#[]⟩, .agg #[.string ⟨#[32, 97, 98, 32, 99]⟩, .int .i64 5]]) ∧ Below w.heap.size w w' :=
  word_is [32, 97, 98, 32, 99] 5 5 5 5 _ _ rfl (by decide) (by decide) (by decide) (by decide) rfl w
theorem aw4 (w : World) : Calls Try.prog 19 #[.string ⟨#[97]⟩] w fun e w' => e = .returned (.string ⟨#[65]⟩) ∧ Below w.heap.size w w' :=
  upper_is [97] _ _ rfl (by decide) (by decide) w
theorem aw5 (w : World) (hm : MaxL w) : Calls Try.prog 22 #[.string ⟨#[]⟩] w (LinesPost w [[]]) :=
  lines_any [] (by decide) _ rfl w hm
set_option maxHeartbeats 1000000 in
theorem awake_any (w : World) (hm : MaxL w) : Calls Try.prog 9 #[] w fun e w' => e = .returned (.bool true) ∧ Below w.heap.size w w' := by
  have HM := Lib.hid hm
  clear hm
  go_enter Try.func9, Try.ntmps9
  go_wp2_with (first
    | (go_at_call 10; (with_reducible refine (aw1 _).mono ?_); rintro e w1 ⟨rfl, hb1⟩; have H1 := Lib.hid hb1; clear hb1)
    | (go_at_call 10; (with_reducible refine (aw2 _).mono ?_); rintro e w2 ⟨rfl, hb2⟩; have H2 := Lib.hid (below_then (H1.out.alloc H1.out.size _) hb2); clear hb2)
    | (go_at_call 10; (with_reducible refine (aw3 _).mono ?_); rintro e w3 ⟨rfl, hb3⟩; have H3 := Lib.hid (below_then (H2.out.alloc H2.out.size _) hb3); clear hb3)
    | (go_at_call 19; refine (aw4 _).mono ?_; rintro e w4 ⟨rfl, hb4⟩; have H4 := Lib.hid (below_then (H3.out.alloc H3.out.size _) hb4); clear hb4)
    | (go_at_call 22; refine (aw5 _ (HM.out.keep H4.out)).mono ?_; rintro e w5 ⟨A, c, rfl, _, hb5⟩; have H5 := Lib.hid (below_then H4.out hb5); clear hb5))
  go_ret
  exact ⟨rfl, H5.out⟩
end Go.Proofs.Ytdffejpbcoagfaa
