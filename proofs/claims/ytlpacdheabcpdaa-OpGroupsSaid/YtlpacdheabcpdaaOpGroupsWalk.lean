/-
  OpGroups answers true at every number; of what was there nothing has changed.
-/
import Derived.Test.YtlpacdheabcpdaaOpAwake
namespace Go.Proofs.Ytlpacdheabcpdaa
open Go.RowKit

/-- What the table says of each operation's group, of what it needs and of what it leaves. -/
theorem opR_bounds (k : Nat) (h : k < 111) : 0 ≤ (opR (k : Int)).2.2.2 ∧ (opR (k : Int)).2.2.2 ≤ 7 ∧ 0 ≤ (opR (k : Int)).2.1 ∧ (opR (k : Int)).2.1 ≤ 4 ∧ -1 ≤ (opR (k : Int)).2.2.1 ∧ (opR (k : Int)).2.2.1 ≤ 6 ∧ ((opR (k : Int)).2.2.2 = 3 → (opR (k : Int)).2.2.1 = 0) :=
  of_decide_eq_true (opR_each (p := fun _ r => decide (0 ≤ r.2.2.2 ∧ r.2.2.2 ≤ 7 ∧ 0 ≤ r.2.1 ∧ r.2.1 ≤ 4 ∧ -1 ≤ r.2.2.1 ∧ r.2.2.1 ≤ 6 ∧ (r.2.2.2 = 3 → r.2.2.1 = 0))) (by decide +kernel) k h)

set_option maxHeartbeats 1000000 in
set_option maxRecDepth 4000 in
theorem opGroups_out (n : Int) (h : n < 0 ∨ 111 ≤ n) (w : World) : Calls Try.prog 5 #[.int .i64 n] w fun e w' => e = .returned (.bool true) ∧ Below w.heap.size w w' := by
  have hr := opR_out n h
  have HN := Lib.hid (name_is n ⟨#[]⟩ (by rw [hr]; rfl))
  have HE := Lib.hid (needs_is n 0 (by rw [hr]; rfl))
  have HG := Lib.hid (group_is n (-1) (by rw [hr]; rfl))
  have HL := Lib.hid (leaves_is n 0 false (by unfold opL; rw [hr]; rfl))
  have HH := Lib.hid (hidden_is n false (by rw [hr]; rfl))
  clear hr
  by_cases h1 : n < 0
  all_goals
    have h2 : n < 0 ∨ 111 ≤ n := h
    clear h
    first
      | (have h3 : decide (n < 0) = true := decide_eq_true h1)
      | skip
    try (have h4 : 111 ≤ n := by omega)
    clear h2
    go_enter Try.func5, Try.ntmps5
    go_wp2_with (first
      | (go_at_call 6; refine (awake_any _).mono ?_; rintro e w1 ⟨rfl, hb⟩; have HB := Lib.hid hb; clear hb)
      | (go_at_call 11; refine (HN.out _).mono ?_; rintro e w1 ⟨rfl, hb⟩; have HB := Lib.hid (below_then HB.out hb); clear hb)
      | (go_at_call 13; refine (HE.out _).mono ?_; rintro e w1 ⟨rfl, hb⟩; have HB := Lib.hid (below_then HB.out hb); clear hb)
      | (go_at_call 15; refine (HG.out _).mono ?_; rintro e w1 ⟨rfl, hb⟩; have HB := Lib.hid (below_then HB.out hb); clear hb)
      | (go_at_call 9; refine (HL.out _).mono ?_; rintro e w1 ⟨rfl, hb⟩; have HB := Lib.hid (below_then HB.out hb); clear hb)
      | (go_at_call 17; refine (HH.out _).mono ?_; rintro e w1 ⟨rfl, hb⟩; have HB := Lib.hid (below_then HB.out hb); clear hb))
    go_ret
    exact ⟨rfl, HB.out⟩
set_option maxHeartbeats 1000000 in
set_option maxRecDepth 4000 in
theorem opGroups_in (k : Nat) (hk : k < 111) (w : World) : Calls Try.prog 5 #[.int .i64 (k : Int)] w fun e w' => e = .returned (.bool true) ∧ Below w.heap.size w w' := by
  obtain ⟨g0, g7, e0, e4, l0, l6, g3⟩ := opR_bounds k hk
  have HE := Lib.hid (needs_is (k : Int) _ rfl)
  have HG := Lib.hid (group_is (k : Int) _ rfl)
  have HL := Lib.hid (leaves_is (k : Int) (opL (k : Int)).1 (opL (k : Int)).2 rfl)
  have hl : 0 ≤ (opL (k : Int)).1 ∧ (opL (k : Int)).1 ≤ 6 ∧ ((opR (k : Int)).2.2.2 = 3 → (opL (k : Int)).1 = 0 ∧ (opL (k : Int)).2 = true) := by
    unfold opL
    by_cases hy : (opR (k : Int)).2.2.1 = -1
    · rw [if_pos hy]; exact ⟨by decide, by decide, fun h => by have := g3 h; omega⟩
    · rw [if_neg hy]; exact ⟨by simp only; omega, l6, fun h => ⟨g3 h, rfl⟩⟩
  generalize (opR (k : Int)).2.1 = x at HE e0 e4
  generalize (opR (k : Int)).2.2.2 = z at HG g0 g7 g3 hl
  generalize (opL (k : Int)).1 = y at HL hl
  generalize (opL (k : Int)).2 = b at HL hl
  clear g3 l0 l6
  obtain ⟨y0, y6, hz⟩ := hl
  have h0 : ¬ (k : Int) < 0 := by omega
  have h1 : ¬ (111 : Int) ≤ (k : Int) := by omega
  by_cases h3 : z = 3
  · obtain ⟨rfl, rfl⟩ := hz h3
    subst h3
    clear hz
    go_enter Try.func5, Try.ntmps5
    go_wp2_with (first
      | (go_at_call 6; refine (awake_any _).mono ?_; rintro e w1 ⟨rfl, hb⟩; have HB := Lib.hid hb; clear hb)
      | (go_at_call 13; refine (HE.out _).mono ?_; rintro e w1 ⟨rfl, hb⟩; have HB := Lib.hid (below_then HB.out hb); clear hb)
      | (go_at_call 15; refine (HG.out _).mono ?_; rintro e w1 ⟨rfl, hb⟩; have HB := Lib.hid (below_then HB.out hb); clear hb)
      | (go_at_call 9; refine (HL.out _).mono ?_; rintro e w1 ⟨rfl, hb⟩; have HB := Lib.hid (below_then HB.out hb); clear hb))
    go_ret
    exact ⟨rfl, HB.out⟩
  · have h4 : (z != 3) = true := by simpa using h3
    clear hz h3
    go_enter Try.func5, Try.ntmps5
    go_wp2_with (first
      | (go_at_call 6; refine (awake_any _).mono ?_; rintro e w1 ⟨rfl, hb⟩; have HB := Lib.hid hb; clear hb)
      | (go_at_call 13; refine (HE.out _).mono ?_; rintro e w1 ⟨rfl, hb⟩; have HB := Lib.hid (below_then HB.out hb); clear hb)
      | (go_at_call 15; refine (HG.out _).mono ?_; rintro e w1 ⟨rfl, hb⟩; have HB := Lib.hid (below_then HB.out hb); clear hb)
      | (go_at_call 9; refine (HL.out _).mono ?_; rintro e w1 ⟨rfl, hb⟩; have HB := Lib.hid (below_then HB.out hb); clear hb))
    go_ret
    exact ⟨rfl, HB.out⟩
theorem opGroups_any (n : Int) (w : World) : Calls Try.prog 5 #[.int .i64 n] w fun e w' => e = .returned (.bool true) ∧ Below w.heap.size w w' := by
  by_cases hn : 0 ≤ n ∧ n < 111
  · obtain ⟨k, rfl⟩ : ∃ k : Nat, n = (k : Int) := ⟨n.toNat, by omega⟩
    exact opGroups_in k (by omega) w
  · exact opGroups_out n (by omega) w
end Go.Proofs.Ytlpacdheabcpdaa
