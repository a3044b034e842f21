/-
  The call of the statement DblBack answers true, where both quotients with signs are told; the world has new blocks alone.
-/
import Derived.Test.YtjgliemnenhloaaDblKeep
import Derived.Test.YtjgliemnenhloaaDblLaws
namespace Go.Proofs.Ytjgliemnenhloaa
open Go.RowKit
theorem add_un (y r : Int) (hr : InC r) (w : World) :
    Calls Try.prog 14 #[.agg #[.int .i64 (dLo y), .int .i64 (dHi y)], .agg #[.int .i64 r, .int .i64 0]] w fun e w' => e = .returned (.agg #[.int .i64 (dLo (y + r % 18446744073709551616)), .int .i64 (dHi (y + r % 18446744073709551616))]) ∧ Grown w w' := by
  have h := dadd_any y (r % 18446744073709551616) w
  rw [dLo_un r hr, dHi_un] at h
  exact h
theorem grown_drewN'' {a b : World} (h : Grown a b) (n : Nat) : Grown a (b.drewN n) := h
/-- What DblBack asks of the quotient without signs. -/
def BackU (x n : Int) : Prop :=
  ((uE x n == 0) = true ∧ (uE x n == -10) = false ∧ dLo (uProd (uQ x n) n + uR x n % 18446744073709551616) = dLo x ∧ dHi (uProd (uQ x n) n + uR x n % 18446744073709551616) = dHi x ∧ cUlt (uR x n) n = true ∧ InC (uR x n)) ∨
  ((uE x n == 0) = false ∧ (uE x n == -10) = false)
theorem back_u {x n : Int} (hn : InC n) (h0 : n ≠ 0) : BackU x n := by
  by_cases h : uE x n = 0
  · obtain ⟨e, hu, hr, _⟩ := u_again hn h
    exact .inl ⟨by rw [h]; rfl, by rw [h]; rfl, dLo_congr e, dHi_congr e, hu, hr⟩
  · have e : uE x n = -11 := by
      unfold uE at h ⊢
      rw [if_neg h0] at h ⊢
      by_cases h5 : 18446744073709551616 ≤ x % 340282366920938463463374607431768211456 / (n % 18446744073709551616)
      · rw [if_pos h5]
      · rw [if_neg h5] at h; exact absurd rfl h
    exact .inr ⟨by rw [e]; rfl, by rw [e]; rfl⟩
/-- What it asks of a quotient with signs that is told: made again; what is left is 0, or has a sign. -/
def BackS (x n q r e : Int) (s : Bool) : Prop :=
  ((e == 0) = true ∧ (e == -10) = false ∧ (e != 0) = false) ∧ q * n + r = x ∧ InC q ∧ InC r ∧ ((r == 0) = true ∨ (r == 0) = false ∧ decide (r < 0) = s)
def BackN (e : Int) : Prop := (e == 0) = false ∧ (e == -10) = false ∧ (e != 0) = true
theorem back_s {x n : Int} (hn : InC n) (h0 : n ≠ 0) :
    (BackS x n (sQ x n) (sR x n) (sE x n) (decide (x < 0)) ∧ BackS x n (fQ x n) (fR x n) (fE x n) (decide (n < 0))) ∨
    (BackS x n (sQ x n) (sR x n) (sE x n) (decide (x < 0)) ∧ BackN (fE x n)) ∨ (BackN (sE x n) ∧ BackN (fE x n)) := by
  rcases sf_cases x n with ⟨e, _⟩ | ⟨_, a, b, _⟩ | ⟨_, a, b, _⟩ | ⟨_, a, b, _⟩
  · exact absurd e h0
  · exact .inl ⟨⟨by rw [a]; exact ⟨rfl, rfl, rfl⟩, s_again hn a⟩, ⟨by rw [b]; exact ⟨rfl, rfl, rfl⟩, f_again hn b⟩⟩
  · exact .inr (.inl ⟨⟨by rw [a]; exact ⟨rfl, rfl, rfl⟩, s_again hn a⟩, by rw [b]; exact ⟨rfl, rfl, rfl⟩⟩)
  · exact .inr (.inr ⟨by rw [a]; exact ⟨rfl, rfl, rfl⟩, by rw [b]; exact ⟨rfl, rfl, rfl⟩⟩)
set_option maxRecDepth 100000 in
set_option maxHeartbeats 2000000 in
theorem back_both (x n : Int) (hx : InD x) (hn : InC n) (hs : decide (dHi x < 0) = decide (x < 0)) (n0 : (n == 0) = false) (hu : BackU x n) (h : BackS x n (sQ x n) (sR x n) (sE x n) (decide (x < 0))) (h' : BackS x n (fQ x n) (fR x n) (fE x n) (decide (n < 0))) (w : World) :
    Calls Try.prog 5 #[.agg #[.int .i64 (dLo x), .int .i64 (dHi x)], .int .i64 n] w fun e w' => e = .returned (.bool true) ∧ Grown w w' := by
  obtain ⟨⟨a1, a2, a3⟩, a4, a5, a6, a7⟩ := h
  obtain ⟨⟨b1, b2, b3⟩, b4, b5, b6, b7⟩ := h'
  rcases hu with ⟨u1, u2, u3, u4, u5, u6⟩ | ⟨u1, u2⟩
  · rcases a7 with a7 | ⟨a7, a8⟩ <;> rcases b7 with b7 | ⟨b7, b8⟩
    all_goals
      go_enter Try.func5, Try.ntmps5
      go_wp2_with (first
        | (go_at_call 11; refine (dawake_any _).mono ?_; rintro e w0 ⟨rfl, hw0⟩; have hk := keepD hw0 (B := w.heap.size) ⟨by simp, by simp [go_sem]; rfl, by simp [go_sem]; rfl⟩)
        | (go_at_call 24; refine (dumod_any _ _ hn _).mono ?_; rintro e w1 ⟨rfl, hw1⟩; replace hk := keepD hw1 hk)
        | (go_at_call 26; refine (dsymm_any _ _ hx hn _).mono ?_; rintro e w2 ⟨rfl, hw2⟩; replace hk := keepD hw2 hk)
        | (go_at_call 28; refine (dfloor_any _ _ hx hn _).mono ?_; rintro e w3 ⟨rfl, hw3⟩; replace hk := keepD hw3 hk))
      go_region_held3 (fun w' => w.heap.size < w'.heap.size ∧ w'.cell? ⟨w.heap.size, 0, none⟩ = some (.int .i64 (dLo x)) ∧ w'.cell? ⟨w.heap.size, 1, none⟩ = some (.int .i64 (dHi x))) (first | assumption | exact keepD (by assumption) (by assumption))
        (first
          | (go_at_call 20; refine (dumul_any _ _ _).mono ?_; rintro e w1 ⟨rfl, hw1⟩)
          | (go_at_call 14; refine (add_un _ _ (by assumption) _).mono ?_; rintro e w1 ⟨rfl, hw1⟩)
          | (go_at_call 32; refine (ult_any _ _ _).mono ?_; rintro e w1 ⟨rfl, rfl⟩))
      go_wp2
      go_region_held3 (fun w' => w.heap.size < w'.heap.size ∧ w'.cell? ⟨w.heap.size, 0, none⟩ = some (.int .i64 (dLo x)) ∧ w'.cell? ⟨w.heap.size, 1, none⟩ = some (.int .i64 (dHi x))) (first | assumption | exact keepD (by assumption) (by assumption))
        (first
          | (go_at_call 22; refine (dmul_any _ _ (by assumption) (by assumption) _).mono ?_; rintro e w1 ⟨rfl, hw1⟩)
          | (go_at_call 12; refine (dof_any _ (by assumption) _).mono ?_; rintro e w1 ⟨rfl, hw1⟩)
          | (go_at_call 14; refine (dadd_any _ _ _).mono ?_; rintro e w1 ⟨rfl, hw1⟩))
      go_wp2
      go_ret
      refine ⟨rfl, ?_⟩
      repeat (with_reducible first | exact Grown.refl _ | refine grown_trans ?_ (by assumption) | apply Grown.alloc | apply grown_drewN'' | apply Grown.drew)
  · rcases a7 with a7 | ⟨a7, a8⟩ <;> rcases b7 with b7 | ⟨b7, b8⟩
    all_goals
      go_enter Try.func5, Try.ntmps5
      go_wp2_with (first
        | (go_at_call 11; refine (dawake_any _).mono ?_; rintro e w0 ⟨rfl, hw0⟩; have hk := keepD hw0 (B := w.heap.size) ⟨by simp, by simp [go_sem]; rfl, by simp [go_sem]; rfl⟩)
        | (go_at_call 24; refine (dumod_any _ _ hn _).mono ?_; rintro e w1 ⟨rfl, hw1⟩; replace hk := keepD hw1 hk)
        | (go_at_call 26; refine (dsymm_any _ _ hx hn _).mono ?_; rintro e w2 ⟨rfl, hw2⟩; replace hk := keepD hw2 hk)
        | (go_at_call 28; refine (dfloor_any _ _ hx hn _).mono ?_; rintro e w3 ⟨rfl, hw3⟩; replace hk := keepD hw3 hk))
      go_quiet (fail)
      go_wp2
      go_region_held3 (fun w' => w.heap.size < w'.heap.size ∧ w'.cell? ⟨w.heap.size, 0, none⟩ = some (.int .i64 (dLo x)) ∧ w'.cell? ⟨w.heap.size, 1, none⟩ = some (.int .i64 (dHi x))) (first | assumption | exact keepD (by assumption) (by assumption))
        (first
          | (go_at_call 22; refine (dmul_any _ _ (by assumption) (by assumption) _).mono ?_; rintro e w1 ⟨rfl, hw1⟩)
          | (go_at_call 12; refine (dof_any _ (by assumption) _).mono ?_; rintro e w1 ⟨rfl, hw1⟩)
          | (go_at_call 14; refine (dadd_any _ _ _).mono ?_; rintro e w1 ⟨rfl, hw1⟩))
      go_wp2
      go_ret
      refine ⟨rfl, ?_⟩
      repeat (with_reducible first | exact Grown.refl _ | refine grown_trans ?_ (by assumption) | apply Grown.alloc | apply grown_drewN'' | apply Grown.drew)
end Go.Proofs.Ytjgliemnenhloaa
