/-
  The call of the statement DblOrder answers true at all doubles and cells; the world has new blocks alone.
-/
import Derived.Test.YtjgliemnenhloaaDblKeep
import Derived.Test.YtjgliemnenhloaaDblLaws
namespace Go.Proofs.Ytjgliemnenhloaa
open Go.RowKit
theorem cmp_lit (x : Int) (hx : InD x) (w : World) :
    Calls Try.prog 18 #[.agg #[.int .i64 (dLo x), .int .i64 (dHi x)], .agg #[.int .i64 0, .int .i64 0]] w fun e w' => e = .returned (.int .i64 (dCmp x 0)) ∧ Grown w w' := by
  have h := dcmp_any x 0 hx (by unfold InD; omega) w
  rw [dLo0, dHi0] at h
  exact h
/-- What DblOrder asks of three doubles. -/
def OrderWay (x y z : Int) : Prop :=
  ((x = y ∧ (dCmp x x == 0) = true) ∨ ((dCmp x y == 0) = false ∧ (dLo x == dLo y) = false) ∨ ((dCmp x y == 0) = false ∧ (dLo x == dLo y) = true ∧ (dHi x == dHi y) = false)) ∧
  ((decide (dCmp x y ≤ 0) = false) ∨ (decide (dCmp x y ≤ 0) = true ∧ decide (dCmp y z ≤ 0) = false) ∨ (decide (dCmp x y ≤ 0) = true ∧ decide (dCmp y z ≤ 0) = true ∧ decide (0 < dCmp x z) = false))
theorem order_way {x y : Int} (z : Int) (hx : InD x) (hy : InD y) : OrderWay x y z := by
  refine ⟨?_, ?_⟩
  · by_cases h : x = y
    · exact .inl ⟨h, cmp_eq0 rfl⟩
    · rcases d_ne hx hy h with h1 | ⟨h1, h2⟩
      · exact .inr (.inl ⟨cmp_ne0 h, h1⟩)
      · exact .inr (.inr ⟨cmp_ne0 h, h1, h2⟩)
  · by_cases h : x ≤ y
    · by_cases h' : y ≤ z
      · exact .inr (.inr ⟨cmp_le h, cmp_le h', cmp_not (Int.le_trans h h')⟩)
      · exact .inr (.inl ⟨cmp_le h, cmp_gt (by omega)⟩)
    · exact .inl (cmp_gt (by omega))
set_option maxRecDepth 100000 in
set_option maxHeartbeats 2000000 in
theorem dblOrder_walk (x y z n m : Int) (hx : InD x) (hy : InD y) (hz : InD z) (hn : InC n) (hm : InC m) (w : World) :
    Calls Try.prog 8 #[.agg #[.int .i64 (dLo x), .int .i64 (dHi x)], .agg #[.int .i64 (dLo y), .int .i64 (dHi y)], .agg #[.int .i64 (dLo z), .int .i64 (dHi z)], .int .i64 n, .int .i64 m] w fun e w' => e = .returned (.bool true) ∧ Grown w w' := by
  have h1 := cmp_back x y
  have h2 := cmp_lt n m
  have h3 := cmp_lt' n m
  have h4 : decide (dCmp x 0 < 0) = decide (dHi x < 0) := by rw [cmp_lt]; simp [dHi_neg hx]
  have hnd := inD_cell hn
  have hmd := inD_cell hm
  obtain ⟨⟨e, g1⟩ | g, k⟩ := order_way z hx hy
  · subst e
    obtain k1 | ⟨k1, k2⟩ | ⟨k1, k2, k3⟩ := k
    all_goals
      go_enter Try.func8, Try.ntmps8
      go_wp2_with (first
        | (go_at_call 11; refine (dawake_any _).mono ?_; rintro e w0 ⟨rfl, hw0⟩; have hk := keep3 hw0 (box3 w x _ z _))
        | (go_at_call 18; refine (dcmp_any _ _ (by assumption) (by assumption) _).mono ?_; rintro e w1 ⟨rfl, hw1⟩; replace hk := keep3 hw1 hk)
        | (go_at_call 12; refine (dof_any _ (by assumption) _).mono ?_; rintro e w1 ⟨rfl, hw1⟩; replace hk := keep3 hw1 hk))
      go_region_held3 (fun w' => w.heap.size + 1 + 1 < w'.heap.size ∧ (w'.cell? ⟨w.heap.size, 0, none⟩ = some (.int .i64 (dLo x)) ∧ w'.cell? ⟨w.heap.size, 1, none⟩ = some (.int .i64 (dHi x))) ∧ (w'.cell? ⟨w.heap.size + 1, 0, none⟩ = some (.int .i64 (dLo x)) ∧ w'.cell? ⟨w.heap.size + 1, 1, none⟩ = some (.int .i64 (dHi x))) ∧ w'.cell? ⟨w.heap.size + 1 + 1, 0, none⟩ = some (.int .i64 (dLo z)) ∧ w'.cell? ⟨w.heap.size + 1 + 1, 1, none⟩ = some (.int .i64 (dHi z))) (first | assumption | exact keep3 (by assumption) (by assumption))
        (first
          | (go_at_call 18; refine (cmp_lit _ hx _).mono ?_; rintro e w1 ⟨rfl, hw1⟩))
      go_wp2
      go_ret
      refine ⟨rfl, ?_⟩
      repeat (with_reducible first | exact Grown.refl _ | refine grown_trans ?_ (by assumption) | apply Grown.alloc | apply Grown.drew)
  · obtain ⟨g1, g2⟩ | ⟨g1, g2, g3⟩ := g
    all_goals
      obtain k1 | ⟨k1, k2⟩ | ⟨k1, k2, k3⟩ := k
    all_goals
      go_enter Try.func8, Try.ntmps8
      go_wp2_with (first
        | (go_at_call 11; refine (dawake_any _).mono ?_; rintro e w0 ⟨rfl, hw0⟩; have hk := keep3 hw0 (box3 w x _ z _))
        | (go_at_call 18; refine (dcmp_any _ _ (by assumption) (by assumption) _).mono ?_; rintro e w1 ⟨rfl, hw1⟩; replace hk := keep3 hw1 hk)
        | (go_at_call 12; refine (dof_any _ (by assumption) _).mono ?_; rintro e w1 ⟨rfl, hw1⟩; replace hk := keep3 hw1 hk))
      go_region_held3 (fun w' => w.heap.size + 1 + 1 < w'.heap.size ∧ (w'.cell? ⟨w.heap.size, 0, none⟩ = some (.int .i64 (dLo x)) ∧ w'.cell? ⟨w.heap.size, 1, none⟩ = some (.int .i64 (dHi x))) ∧ (w'.cell? ⟨w.heap.size + 1, 0, none⟩ = some (.int .i64 (dLo y)) ∧ w'.cell? ⟨w.heap.size + 1, 1, none⟩ = some (.int .i64 (dHi y))) ∧ w'.cell? ⟨w.heap.size + 1 + 1, 0, none⟩ = some (.int .i64 (dLo z)) ∧ w'.cell? ⟨w.heap.size + 1 + 1, 1, none⟩ = some (.int .i64 (dHi z))) (first | assumption | exact keep3 (by assumption) (by assumption))
        (first
          | (go_at_call 18; refine (cmp_lit _ hx _).mono ?_; rintro e w1 ⟨rfl, hw1⟩))
      go_wp2
      go_ret
      refine ⟨rfl, ?_⟩
      repeat (with_reducible first | exact Grown.refl _ | refine grown_trans ?_ (by assumption) | apply Grown.alloc | apply Grown.drew)
end Go.Proofs.Ytjgliemnenhloaa
