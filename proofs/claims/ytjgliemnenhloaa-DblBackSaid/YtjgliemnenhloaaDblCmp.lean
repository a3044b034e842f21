/-
  What the calls below and Cmp of package dbl answer: doubles are compared as whole numbers with their signs. The world has new blocks alone.
-/
import Derived.Test.YtjgliemnenhloaaDblCalls
namespace Go.Proofs.Ytjgliemnenhloaa
open Go.RowKit
set_option maxHeartbeats 400000 in
theorem dbelow_any (x y : Int) (hx : InD x) (hy : InD y) (w : World) :
    Calls Try.prog 38 #[.agg #[.int .i64 (dLo x), .int .i64 (dHi x)], .agg #[.int .i64 (dLo y), .int .i64 (dHi y)]] w fun e w' => e = .returned (.bool (dBel x y)) ∧ Grown w w' := by
  have HB := Lib.hid (bel_is hx hy)
  clear hx hy
  by_cases h : dHi x < dHi y
  · have h' : decide (dHi x < dHi y) = true := by simpa using h
    clear h
    go_enter Try.func38, Try.ntmps38
    go_wp2
    go_ret
    exact ⟨by rw [← HB.out, h']; rfl, ((Grown.refl _).alloc _ _).alloc _ _⟩
  · have h' : decide (dHi x < dHi y) = false := by simpa using h
    cases h2 : (dHi x == dHi y)
    all_goals
      clear h
      go_enter Try.func38, Try.ntmps38
      go_wp2_with (go_at_call 32; refine (ult_any _ _ _).mono ?_; rintro e w' ⟨rfl, rfl⟩)
      go_ret
      exact ⟨by rw [← HB.out, h', h2]; rfl, ((Grown.refl _).alloc _ _).alloc _ _⟩
theorem keepDD {W w' : World} {B C : Nat} {l h r s : Value} (hg : Grown W w')
    (k : (B < W.heap.size ∧ C < W.heap.size) ∧ (W.cell? ⟨B, 0, none⟩ = some l ∧ W.cell? ⟨B, 1, none⟩ = some h) ∧ (W.cell? ⟨C, 0, none⟩ = some r ∧ W.cell? ⟨C, 1, none⟩ = some s)) :
    (B < w'.heap.size ∧ C < w'.heap.size) ∧ (w'.cell? ⟨B, 0, none⟩ = some l ∧ w'.cell? ⟨B, 1, none⟩ = some h) ∧ (w'.cell? ⟨C, 0, none⟩ = some r ∧ w'.cell? ⟨C, 1, none⟩ = some s) := by
  obtain ⟨⟨a, b⟩, ⟨c, d⟩, ⟨e, f⟩⟩ := k
  exact ⟨⟨Nat.lt_of_lt_of_le a hg.2.2, Nat.lt_of_lt_of_le b hg.2.2⟩, ⟨grown_cell hg a c, grown_cell hg a d⟩, ⟨grown_cell hg b e, grown_cell hg b f⟩⟩
theorem cmp_is (x y : Int) : IntKind.i64.wrap (flagZ (dBel x y) - flagZ (dBel y x)) = dCmp x y := by
  rw [wrapi64]
  unfold flagZ dBel dCmp
  by_cases h : x < y
  · have h2 : ¬ y < x := by omega
    simp [h, h2, wrap64]
  · by_cases h2 : y < x <;> simp [h, h2, wrap64]
set_option maxHeartbeats 400000 in
theorem dcmp_any (x y : Int) (hx : InD x) (hy : InD y) (w : World) :
    Calls Try.prog 18 #[.agg #[.int .i64 (dLo x), .int .i64 (dHi x)], .agg #[.int .i64 (dLo y), .int .i64 (dHi y)]] w fun e w' => e = .returned (.int .i64 (dCmp x y)) ∧ Grown w w' := by
  have H := Lib.hid (cmp_is x y)
  go_enter Try.func18, Try.ntmps18
  go_wp2
  go_region_held3 (fun w' => (w.heap.size < w'.heap.size ∧ w.heap.size + 1 < w'.heap.size) ∧ (w'.cell? ⟨w.heap.size, 0, none⟩ = some (.int .i64 (dLo x)) ∧ w'.cell? ⟨w.heap.size, 1, none⟩ = some (.int .i64 (dHi x))) ∧ (w'.cell? ⟨w.heap.size + 1, 0, none⟩ = some (.int .i64 (dLo y)) ∧ w'.cell? ⟨w.heap.size + 1, 1, none⟩ = some (.int .i64 (dHi y)))) (first | assumption | (simp [go_sem, World.cell?_alloc_past]; done) | exact keepDD (by assumption) (by assumption) | (simp [go_sem]; assumption))
    (first
      | (go_at_call 38; refine (dbelow_any _ _ (by assumption) (by assumption) _).mono ?_; rintro e w1 ⟨rfl, hw1⟩)
      | (go_at_call 35; refine (flag_z _ _).mono ?_; rintro e w' ⟨rfl, rfl⟩))
  go_wp2
  go_ret
  refine ⟨ret_int H.out, ?_⟩
  repeat (with_reducible first | exact Grown.refl _ | refine grown_trans ?_ (by assumption) | apply Grown.alloc | apply Grown.drew)
end Go.Proofs.Ytjgliemnenhloaa
