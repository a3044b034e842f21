/-
  The calls of the statements DblScales and DblFits answer true at all doubles and cells; the world has new blocks alone.
-/
import Derived.Test.YtjgliemnenhloaaDblKeep
import Derived.Test.YtjgliemnenhloaaDblLaws
namespace Go.Proofs.Ytjgliemnenhloaa
open Go.RowKit
theorem grown_drewN' {a b : World} (h : Grown a b) (n : Nat) : Grown a (b.drewN n) := h
set_option maxRecDepth 100000 in
set_option maxHeartbeats 2000000 in
theorem dblScales_walk (a b c : Int) (ha : InC a) (hb : InC b) (hc : InC c) (w : World) :
    Calls Try.prog 9 #[.int .i64 a, .int .i64 b, .int .i64 c] w fun e w' => e = .returned (.bool true) ∧ Grown w w' := by
  have hx := inD_mul ha hb
  have h1i : InC 1 := inC1
  obtain ⟨q1, q2, q3⟩ := cell_floor ha hc
  have q1' : (fE a c != cBad a c) = false := by simp [q1]
  have q2' : (fR a c != cFr a c) = false := by simp [q2]
  have q3' : (fQ a c != cFq a c) = false := by simp [q3]
  clear q1 q2 q3
  by_cases h0 : b = 0
  · have z0 : (b == 0) = true := by simpa using h0
    have z1 : (fE (a * b) b == -10) = true := by rw [h0, (floor_zero _).1]; rfl
    clear h0
    go_enter Try.func9, Try.ntmps9
    go_wp2_with (first
      | (go_at_call 11; refine (dawake_any _).mono ?_; rintro e w0 ⟨rfl, hw0⟩)
      | (go_at_call 30; refine (dscale_any _ _ _ (by assumption) (by assumption) (by assumption) _).mono ?_; rintro e w1 ⟨rfl, hw1⟩)
      | (go_at_call 22; refine (dmul_any _ _ (by assumption) (by assumption) _).mono ?_; rintro e w1 ⟨rfl, hw1⟩)
      | (go_at_call 28; refine (dfloor_any _ _ (by assumption) (by assumption) _).mono ?_; rintro e w1 ⟨rfl, hw1⟩)
      | (go_at_call 33; refine (floor_any _ _ (by assumption) _).mono ?_; rintro e w1 ⟨rfl, j, rfl⟩))
    go_ret
    refine ⟨rfl, ?_⟩
    repeat (with_reducible first | exact Grown.refl _ | refine grown_trans ?_ (by assumption) | apply grown_drewN' | apply Grown.drew)
  · have z0 : (b == 0) = false := by simpa using h0
    have z1 : (b != 0) = true := by simpa using h0
    obtain ⟨p1, p2, p3⟩ := prod_floor ha h0
    have z2 : (fR (a * b) b == 0) = true := by rw [p1]; rfl
    have z3 : (fQ (a * b) b == a) = true := by rw [p2]; simp
    have z4 : (fE (a * b) b == 0) = true := by rw [p3]; rfl
    clear h0 p1 p2 p3
    go_enter Try.func9, Try.ntmps9
    go_wp2_with (first
      | (go_at_call 11; refine (dawake_any _).mono ?_; rintro e w0 ⟨rfl, hw0⟩)
      | (go_at_call 30; refine (dscale_any _ _ _ (by assumption) (by assumption) (by assumption) _).mono ?_; rintro e w1 ⟨rfl, hw1⟩)
      | (go_at_call 22; refine (dmul_any _ _ (by assumption) (by assumption) _).mono ?_; rintro e w1 ⟨rfl, hw1⟩)
      | (go_at_call 28; refine (dfloor_any _ _ (by assumption) (by assumption) _).mono ?_; rintro e w1 ⟨rfl, hw1⟩)
      | (go_at_call 33; refine (floor_any _ _ (by assumption) _).mono ?_; rintro e w1 ⟨rfl, j, rfl⟩))
    go_ret
    refine ⟨rfl, ?_⟩
    repeat (with_reducible first | exact Grown.refl _ | refine grown_trans ?_ (by assumption) | apply grown_drewN' | apply Grown.drew)

/-- What DblFits asks of both quotients. -/
def FitsWay (p q e f : Int) : Prop :=
  ((e == 0) = true ∧ (f == 0) = true ∧ (p == q) = true) ∨ ((e == 0) = true ∧ (f == 0) = true ∧ (p == q) = false ∧ (p == wrap64 (q + 1)) = true) ∨
  ((e == 0) = true ∧ (f == 0) = false ∧ (e == f) = false ∧ (f == -11) = true ∧ (p == -9223372036854775808) = true) ∨ ((e == 0) = false ∧ (e == f) = true)
theorem fits_way (x n : Int) : FitsWay (sQ x n) (fQ x n) (sE x n) (fE x n) := by
  rcases sf_cases x n with ⟨_, a, b⟩ | ⟨_, a, b, h, hi, hj⟩ | ⟨_, a, b, h, _⟩ | ⟨_, a, b, _⟩
  · rw [a, b]; exact .inr (.inr (.inr ⟨rfl, rfl⟩))
  · rw [a, b]
    by_cases hq : sQ x n = fQ x n
    · exact .inl ⟨rfl, rfl, by simpa using hq⟩
    · have h2 : sQ x n = fQ x n + 1 := by omega
      refine .inr (.inl ⟨rfl, rfl, by simpa using hq, ?_⟩)
      have h3 : wrap64 (fQ x n + 1) = fQ x n + 1 := wrap64_id (by rw [← h2]; exact hi)
      rw [h3]; simpa using h2
  · rw [a, b, h]; exact .inr (.inr (.inl ⟨rfl, rfl, rfl, rfl, rfl⟩))
  · rw [a, b]; exact .inr (.inr (.inr ⟨rfl, rfl⟩))
set_option maxRecDepth 100000 in
set_option maxHeartbeats 2000000 in
theorem dblFits_walk (x n a : Int) (hx : InD x) (hn : InC n) (ha : InC a) (w : World) :
    Calls Try.prog 10 #[.agg #[.int .i64 (dLo x), .int .i64 (dHi x)], .int .i64 n, .int .i64 a] w fun e w' => e = .returned (.bool true) ∧ Grown w w' := by
  have had := inD_cell ha
  obtain ⟨q1, q2, q3⟩ := cell_symm (n := n) ha
  have q1' : (sE a n != cBad a n) = false := by simp [q1]
  have q2' : (sR a n != cR a n) = false := by simp [q2]
  have q3' : (sQ a n != cQ a n) = false := by simp [q3]
  clear q1 q2 q3
  rcases fits_way x n with ⟨g1, g2, g3⟩ | ⟨g1, g2, g3, g4⟩ | ⟨g1, g2, g3, g4, g5⟩ | ⟨g1, g2⟩
  all_goals
    go_enter Try.func10, Try.ntmps10
    go_wp2_with (first
      | (go_at_call 11; refine (dawake_any _).mono ?_; rintro e w0 ⟨rfl, hw0⟩; have hk := keepD hw0 (B := w.heap.size) ⟨by simp, by simp [go_sem]; rfl, by simp [go_sem]; rfl⟩)
      | (go_at_call 28; refine (dfloor_any _ _ (by assumption) (by assumption) _).mono ?_; rintro e w2 ⟨rfl, hw2⟩)
      | (go_at_call 12; refine (dof_any _ (by assumption) _).mono ?_; rintro e w3 ⟨rfl, hw3⟩)
      | (go_at_call 26; refine (dsymm_any _ _ (by assumption) (by assumption) _).mono ?_; rintro e w1 ⟨rfl, hw1⟩; try have hk1 := keepD hw1 hk)
      | (go_at_call 34; refine (symm_any _ _ (by assumption) _).mono ?_; rintro e w5 ⟨rfl, j, rfl⟩))
    go_ret
    refine ⟨rfl, ?_⟩
    repeat (with_reducible first | exact Grown.refl _ | refine grown_trans ?_ (by assumption) | apply Grown.alloc | apply grown_drewN' | apply Grown.drew)
end Go.Proofs.Ytjgliemnenhloaa
