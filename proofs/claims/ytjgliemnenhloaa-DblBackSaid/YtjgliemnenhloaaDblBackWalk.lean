/-
  The call of the statement DblBack answers true, at every double and cell; the world has new blocks alone.
-/
import Derived.Test.YtjgliemnenhloaaDblBackOne
namespace Go.Proofs.Ytjgliemnenhloaa
open Go.RowKit
set_option maxRecDepth 100000 in
set_option maxHeartbeats 2000000 in
theorem back_none (x n : Int) (hx : InD x) (hn : InC n) (n0 : (n == 0) = false) (hu : BackU x n) (h : BackN (sE x n)) (h' : BackN (fE x n)) (w : World) :
    Calls Try.prog 5 #[.agg #[.int .i64 (dLo x), .int .i64 (dHi x)], .int .i64 n] w fun e w' => e = .returned (.bool true) ∧ Grown w w' := by
  obtain ⟨a1, a2, a3⟩ := h
  obtain ⟨b1, b2, b3⟩ := h'
  rcases hu with ⟨u1, u2, u3, u4, u5, u6⟩ | ⟨u1, u2⟩
  · go_enter Try.func5, Try.ntmps5
    go_wp2_with (first
      | (go_at_call 11; refine (dawake_any _).mono ?_; rintro e w0 ⟨rfl, hw0⟩; have hk := keepD hw0 (B := w.heap.size) ⟨by simp, by simp [go_sem]; rfl, by simp [go_sem]; rfl⟩)
      | (go_at_call 24; refine (dumod_any _ _ hn _).mono ?_; rintro e w1 ⟨rfl, hw1⟩; replace hk := keepD hw1 hk)
      | (go_at_call 26; refine (dsymm_any _ _ hx hn _).mono ?_; rintro e w2 ⟨rfl, hw2⟩; replace hk := keepD hw2 hk)
      | (go_at_call 28; refine (dfloor_any _ _ hx hn _).mono ?_; rintro e w3 ⟨rfl, hw3⟩; replace hk := keepD hw3 hk))
    go_region_held3 (fun w' => w.heap.size < w'.heap.size ∧ w'.cell? ⟨w.heap.size, 0, none⟩ = some (.int .i64 (dLo x)) ∧ w'.cell? ⟨w.heap.size, 1, none⟩ = some (.int .i64 (dHi x))) (first | assumption | exact keepD (by assumption) (by assumption))
      (first
        | (go_at_call 20; refine (dumul_any _ _ _).mono ?_; rintro e w1 ⟨rfl, hw1⟩)
        | (go_at_call 14; refine (add_un _ _ (by assumption) _).mono ?_; rintro e w1 ⟨rfl, hw1⟩)
        | (go_at_call 32; refine (ult_any _ _ _).mono ?_; rintro e w1 ⟨rfl, rfl⟩))
    go_wp2
    go_quiet (fail)
    go_wp2
    go_ret
    refine ⟨rfl, ?_⟩
    repeat (with_reducible first | exact Grown.refl _ | refine grown_trans ?_ (by assumption) | apply Grown.alloc | apply grown_drewN'' | apply Grown.drew)
  · go_enter Try.func5, Try.ntmps5
    go_wp2_with (first
      | (go_at_call 11; refine (dawake_any _).mono ?_; rintro e w0 ⟨rfl, hw0⟩; have hk := keepD hw0 (B := w.heap.size) ⟨by simp, by simp [go_sem]; rfl, by simp [go_sem]; rfl⟩)
      | (go_at_call 24; refine (dumod_any _ _ hn _).mono ?_; rintro e w1 ⟨rfl, hw1⟩; replace hk := keepD hw1 hk)
      | (go_at_call 26; refine (dsymm_any _ _ hx hn _).mono ?_; rintro e w2 ⟨rfl, hw2⟩; replace hk := keepD hw2 hk)
      | (go_at_call 28; refine (dfloor_any _ _ hx hn _).mono ?_; rintro e w3 ⟨rfl, hw3⟩; replace hk := keepD hw3 hk))
    go_quiet (fail)
    go_wp2
    go_quiet (fail)
    go_wp2
    go_ret
    refine ⟨rfl, ?_⟩
    repeat (with_reducible first | exact Grown.refl _ | refine grown_trans ?_ (by assumption) | apply Grown.alloc | apply grown_drewN'' | apply Grown.drew)
set_option maxRecDepth 100000 in
set_option maxHeartbeats 2000000 in
theorem back_zero (x n : Int) (hx : InD x) (hn : InC n) (n0 : n = 0) (w : World) :
    Calls Try.prog 5 #[.agg #[.int .i64 (dLo x), .int .i64 (dHi x)], .int .i64 n] w fun e w' => e = .returned (.bool true) ∧ Grown w w' := by
  obtain ⟨u1, u2, u3⟩ := umod_zero x
  obtain ⟨a1, a2, a3⟩ := symm_zero x
  obtain ⟨b1, b2, b3⟩ := floor_zero x
  subst n0
  go_enter Try.func5, Try.ntmps5
  go_wp2_with (first
    | (go_at_call 11; refine (dawake_any _).mono ?_; rintro e w0 ⟨rfl, hw0⟩; have hk := keepD hw0 (B := w.heap.size) ⟨by simp, by simp [go_sem]; rfl, by simp [go_sem]; rfl⟩)
    | (go_at_call 24; refine (dumod_any _ _ hn _).mono ?_; rintro e w1 ⟨rfl, hw1⟩; replace hk := keepD hw1 hk)
    | (go_at_call 26; refine (dsymm_any _ _ hx hn _).mono ?_; rintro e w2 ⟨rfl, hw2⟩; replace hk := keepD hw2 hk)
    | (go_at_call 28; refine (dfloor_any _ _ hx hn _).mono ?_; rintro e w3 ⟨rfl, hw3⟩; replace hk := keepD hw3 hk))
  go_quiet (fail)
  go_wp2
  go_quiet (fail)
  go_wp2
  go_ret
  refine ⟨rfl, ?_⟩
  repeat (with_reducible first | exact Grown.refl _ | refine grown_trans ?_ (by assumption) | apply Grown.alloc | apply grown_drewN'' | apply Grown.drew)
theorem dblBack_walk (x n : Int) (hx : InD x) (hn : InC n) (w : World) :
    Calls Try.prog 5 #[.agg #[.int .i64 (dLo x), .int .i64 (dHi x)], .int .i64 n] w fun e w' => e = .returned (.bool true) ∧ Grown w w' := by
  by_cases h0 : n = 0
  · exact back_zero x n hx hn h0 w
  · have hs : decide (dHi x < 0) = decide (x < 0) := by simp [dHi_neg hx]
    have n0 : (n == 0) = false := by simpa using h0
    rcases back_s (x := x) hn h0 with ⟨h, h'⟩ | ⟨h, h'⟩ | ⟨h, h'⟩
    · exact back_both x n hx hn hs n0 (back_u hn h0) h h' w
    · exact back_one x n hx hn hs n0 (back_u hn h0) h h' w
    · exact back_none x n hx hn n0 (back_u hn h0) h h' w
end Go.Proofs.Ytjgliemnenhloaa
