/-
  The statements' first line is true: the document's example.
-/
import Derived.Test.YtkpomphjicoaeaaDictBase
import Derived.Deep.RegionHeld3
namespace Go.Proofs.Ytkpomphjicoaeaa
open Go.RowKit

def aw1 : En := ⟨⟨#[97]⟩, false, 3, 1, 0, 0⟩
def aw2 : En := ⟨⟨#[65]⟩, false, 3, 2, 0, 0⟩
theorem up_a : up ⟨#[97]⟩ = ⟨#[65]⟩ := by decide +kernel
theorem up_A : up ⟨#[65]⟩ = ⟨#[65]⟩ := by decide +kernel
def awL1 : List En := [⟨⟨#[65]⟩, false, 3, 1, 0, 0⟩]
def awL2 : List En := [⟨⟨#[65]⟩, false, 3, 1, 0, 0⟩, ⟨⟨#[65]⟩, false, 3, 2, 0, 0⟩]
theorem aw_e1 : adE [] ⟨⟨#[97]⟩, false, 3, 1, 0, 0⟩ = 0 := by decide +kernel
theorem aw_l1 : adL [] ⟨⟨#[97]⟩, false, 3, 1, 0, 0⟩ = awL1 := by unfold adL; rw [aw_e1, if_pos rfl]; unfold aU; simp only [up_a]; rfl
theorem aw_e2 : adE awL1 ⟨⟨#[65]⟩, false, 3, 2, 0, 0⟩ = 0 := by decide +kernel
theorem aw_l2 : adL awL1 ⟨⟨#[65]⟩, false, 3, 2, 0, 0⟩ = awL2 := by unfold adL; rw [aw_e2, if_pos rfl]; unfold aU; simp only [up_A]; rfl
theorem aw_f : dF awL2 ⟨#[97]⟩ = some 1 := by decide +kernel
theorem aw_cb : dCb awL2 1 = true := by decide +kernel
theorem aw_c : dC awL2 1 = [(0, 2)] := by unfold dC; rw [aw_cb]; rfl
theorem aw_s : ∀ e ∈ awL2, e.s.size ≤ 2000 := by decide +kernel
theorem aw_b : 9 < (bsT 111).length := by decide +kernel
theorem aw_add1 (w : World) : Calls Try.prog 14 #[.slice none 0 0, .agg #[.string ⟨#[97]⟩, .bool false, .int .i64 3, .int .i64 1, .int .i64 0, .int .i64 0]] w fun e w' => ∃ A c, e = .returned (.tuple #[.slice A 1 c, .int .i64 0]) ∧ Ens w' A 1 c awL1 ∧ Below w.heap.size w w' := by
  have h := add_any none 0 0 [] ⟨#[97]⟩ false 3 1 0 0 w (by decide) (by decide) Ens.nil
  unfold AddPost at h
  rw [aw_l1, aw_e1] at h
  exact h
theorem aw_add2 (A : Option Addr) (c : Nat) (w : World) (hl : Ens w A 1 c awL1) : Calls Try.prog 14 #[.slice A 1 c, .agg #[.string ⟨#[65]⟩, .bool false, .int .i64 3, .int .i64 2, .int .i64 0, .int .i64 0]] w fun e w' => ∃ A c, e = .returned (.tuple #[.slice A 2 c, .int .i64 0]) ∧ Ens w' A 2 c awL2 ∧ Below w.heap.size w w' := by
  have h := add_any A 1 c awL1 ⟨#[65]⟩ false 3 2 0 0 w (by decide) (by decide) hl
  unfold AddPost at h
  rw [aw_l2, aw_e2] at h
  exact h
theorem aw_find (A : Option Addr) (c : Nat) (w : World) (hl : Ens w A 2 c awL2) : Calls Try.prog 11 #[.slice A 2 c, .string ⟨#[97]⟩] w fun e w' => e = .returned (.tuple #[.int .i64 1, .bool true]) ∧ Below w.heap.size w w' :=
  find_any A 2 c awL2 ⟨#[97]⟩ (some 1) w (by decide) (by decide) hl aw_f
theorem aw_code (A : Option Addr) (c : Nat) (w : World) (hl : Ens w A 2 c awL2) : Calls Try.prog 17 #[.slice A 2 c, .int .i64 1] w fun e w' => ∃ A' c', e = .returned (.tuple #[.slice A' 1 c', .bool true]) ∧ Prs w' A' 1 c' [(0, 2)] ∧ Below w.heap.size w w' := by
  have h := codeD_any A 2 c awL2 1 w aw_s hl
  unfold CodePost at h
  rw [aw_c, aw_cb] at h
  exact h
theorem aw_base (w : World) : Calls Try.prog 28 #[] w fun e w' => ∃ A n c, e = .returned (.slice A n c) ∧ 9 < n ∧ Below w.heap.size w w' :=
  (base_any w).mono fun _ _ ⟨A, c, he, ho⟩ => ⟨A, _, c, he, aw_b, ho.below⟩
set_option maxHeartbeats 2000000 in
theorem awake_any (w : World) :
    Calls Try.prog 9 #[] w fun e w' => e = .returned (.bool true) ∧ Below w.heap.size w w' := by
  have q : ∀ W : World, (binOp .eql 58 (.agg #[.int .i64 0, .int .i64 2]) (.agg #[.int .i64 0, .int .i64 2])).run Try.prog W = .ok (.bool true) W := fun W => eqPI W 0 2 0 2
  go_enter Try.func9, Try.ntmps9
  go_wp2_with (first
    | (go_at_call 17; refine (aw_code _ _ _ H3.out).mono ?_; rintro e w4 ⟨A4, c4, rfl, hp4, hb4⟩; have H4 := Lib.hid (below_then HB3.out hb4); obtain ⟨yb, yo, rfl, hyl, y0, y1⟩ := hp4.at_ 0 (by decide); clear hb4 hp4; simp only [Nat.zero_mul, Nat.add_zero] at y0 y1)
    | (go_at_call 11; refine (aw_find _ _ _ H2.out).mono ?_; rintro e w3 ⟨rfl, hb3⟩; have HB3 := Lib.hid (below_then HB2.out hb3); have H3 := Lib.hid (H2.out.below hb3); clear hb3)
    | (go_at_call 14; (with_reducible refine (aw_add2 _ _ _ H1.out).mono ?_); rintro e w2 ⟨A2, c2, rfl, hl2, hb2⟩; have HB2 := Lib.hid (below_then HB1.out hb2); have H2 := Lib.hid hl2; clear hb2 hl2)
    | (go_at_call 14; refine (aw_add1 _).mono ?_; rintro e w1 ⟨A1, c1, rfl, hl1, hb1⟩; have HB1 := Lib.hid hb1; have H1 := Lib.hid hl1; clear hb1 hl1)
    | (go_at_call 28; refine (aw_base _).mono ?_; rintro e w5 ⟨A5, n5, c5, rfl, hn5, hb5⟩; have HB5 := Lib.hid (below_then H4.out hb5); have g5 : decide ((9 : Int) < (n5 : Int)) = true := (by simp; omega); clear hb5 hn5))
  go_ret
  exact ⟨rfl, HB5.out⟩
end Go.Proofs.Ytkpomphjicoaeaa
