/-
  What the document calls Symm, Floor and Scale of layer 2, and: the call of the statement DblDivides answers true at every double and all cells; of what was there nothing changes.
-/
import Derived.Test.YtjgliemnenhloaaRef02Floor
import Derived.Test.YtjgliemnenhloaaRef02Mul
import Derived.Test.YtjgliemnenhloaaDblAwake
namespace Go.Proofs.Ytjgliemnenhloaa
open Go.RowKit
set_option maxHeartbeats 400000 in
theorem rsymm_0 (x : Int) (w : World) :
    Calls Try.prog 27 #[.agg #[.int .i64 (dLo x), .int .i64 (dHi x)], .int .i64 0] w fun e w' => e = .returned (.tuple #[.int .i64 (sR x 0), .int .i64 (sQ x 0), .int .i64 (sE x 0)]) ∧ Keeps w w' := by
  have HZ := Lib.hid (symm_zero x)
  go_enter Try.func27, Try.ntmps27
  go_wp2
  go_ret3
  exact ⟨by rw [HZ.out.1, HZ.out.2.1, HZ.out.2.2]; rfl, (Keeps.refl _).alloc _⟩
set_option maxHeartbeats 400000 in
theorem rfloor_0 (x : Int) (w : World) :
    Calls Try.prog 29 #[.agg #[.int .i64 (dLo x), .int .i64 (dHi x)], .int .i64 0] w fun e w' => e = .returned (.tuple #[.int .i64 (fR x 0), .int .i64 (fQ x 0), .int .i64 (fE x 0)]) ∧ Keeps w w' := by
  have HZ := Lib.hid (floor_zero x)
  go_enter Try.func29, Try.ntmps29
  go_wp2
  go_ret3
  exact ⟨by rw [HZ.out.1, HZ.out.2.1, HZ.out.2.2]; rfl, (Keeps.refl _).alloc _⟩
theorem rsymm2_any (x n : Int) (hx : InD x) (hn : InC n) (w : World) :
    Calls Try.prog 27 #[.agg #[.int .i64 (dLo x), .int .i64 (dHi x)], .int .i64 n] w fun e w' => e = .returned (.tuple #[.int .i64 (sR x n), .int .i64 (sQ x n), .int .i64 (sE x n)]) ∧ Keeps w w' := by
  by_cases h0 : n = 0
  · subst h0; exact rsymm_0 x w
  · have hh : decide (dHi x < 0) = decide (x < 0) := by simp [dHi_neg hx]
    cases hs : decide (x < 0) <;> cases ht : decide (n < 0)
    all_goals
      rw [hs] at hh
      obtain ⟨N, R, S⟩ := signs_of hx hn h0 _ _ hs ht
    · exact rsymm_ff x n N R hn h0 hh ht S w
    · exact rsymm_ft x n N R hn h0 hh ht S w
    · exact rsymm_tf x n N R hn h0 hh ht S w
    · exact rsymm_tt x n N R hn h0 hh ht S w
theorem rfloor2_any (x n : Int) (hx : InD x) (hn : InC n) (w : World) :
    Calls Try.prog 29 #[.agg #[.int .i64 (dLo x), .int .i64 (dHi x)], .int .i64 n] w fun e w' => e = .returned (.tuple #[.int .i64 (fR x n), .int .i64 (fQ x n), .int .i64 (fE x n)]) ∧ Keeps w w' := by
  by_cases h0 : n = 0
  · subst h0; exact rfloor_0 x w
  · have hh : decide (dHi x < 0) = decide (x < 0) := by simp [dHi_neg hx]
    cases hs : decide (x < 0) <;> cases ht : decide (n < 0)
    all_goals
      rw [hs] at hh
      obtain ⟨N, R, S⟩ := signs_of hx hn h0 _ _ hs ht
    · exact rfloor_ff x n N R hn h0 hh ht S w
    · exact rfloor_ft x n N R hn h0 hh ht S w
    · exact rfloor_tf x n N R hn h0 hh ht S w
    · exact rfloor_tt x n N R hn h0 hh ht S w
set_option maxHeartbeats 400000 in
theorem rscale_any (a b c : Int) (ha : InC a) (hb : InC b) (hc : InC c) (w : World) :
    Calls Try.prog 31 #[.int .i64 a, .int .i64 b, .int .i64 c] w fun e w' => e = .returned (.tuple #[.int .i64 (fR (a * b) c), .int .i64 (fQ (a * b) c), .int .i64 (fE (a * b) c)]) ∧ Keeps w w' := by
  have hx := inD_mul ha hb
  go_enter Try.func31, Try.ntmps31
  go_wp2_with (first
    | (go_at_call 23; refine (rmul_any _ _ ha hb _).mono ?_; rintro e w1 ⟨rfl, hw1⟩)
    | (go_at_call 29; refine (rfloor2_any _ _ hx hc _).mono ?_; rintro e w2 ⟨rfl, hw2⟩))
  go_ret3
  exact ⟨rfl, hw1.trans hw2⟩
set_option maxRecDepth 100000 in
set_option maxHeartbeats 2000000 in
theorem dblDivides_walk (x n a b : Int) (hx : InD x) (hn : InC n) (ha : InC a) (hb : InC b) (w : World) :
    Calls Try.prog 4 #[.agg #[.int .i64 (dLo x), .int .i64 (dHi x)], .int .i64 n, .int .i64 a, .int .i64 b] w fun e w' => e = .returned (.bool true) ∧ Keeps w w' := by
  go_enter Try.func4, Try.ntmps4
  go_wp2_with (first
    | (go_at_call 11; refine (dawake_any _).mono ?_; rintro e w0 ⟨rfl, hw0⟩; replace hw0 := Keeps.of_grown hw0; have hk := keepK (B := w.heap.size) hw0 ⟨by simp, by simp [go_sem]; rfl, by simp [go_sem]; rfl⟩)
    | (go_at_call 24; refine (dumod_any _ _ hn _).mono ?_; rintro e w1 ⟨rfl, hw1⟩; replace hw1 := Keeps.of_grown hw1; replace hk := keepK hw1 hk)
    | (go_at_call 25; refine (rumod_any _ _ hn _).mono ?_; rintro e w1 ⟨rfl, hw1⟩; replace hk := keepK hw1 hk)
    | (go_at_call 26; refine (dsymm_any _ _ hx hn _).mono ?_; rintro e w1 ⟨rfl, hw1⟩; replace hw1 := Keeps.of_grown hw1; replace hk := keepK hw1 hk)
    | (go_at_call 27; refine (rsymm2_any _ _ hx hn _).mono ?_; rintro e w1 ⟨rfl, hw1⟩; replace hk := keepK hw1 hk)
    | (go_at_call 28; refine (dfloor_any _ _ hx hn _).mono ?_; rintro e w1 ⟨rfl, hw1⟩; replace hw1 := Keeps.of_grown hw1; replace hk := keepK hw1 hk)
    | (go_at_call 29; refine (rfloor2_any _ _ hx hn _).mono ?_; rintro e w1 ⟨rfl, hw1⟩; replace hk := keepK hw1 hk)
    | (go_at_call 30; refine (dscale_any _ _ _ ha hb hn _).mono ?_; rintro e w1 ⟨rfl, hw1⟩; replace hw1 := Keeps.of_grown hw1; replace hk := keepK hw1 hk)
    | (go_at_call 31; refine (rscale_any _ _ _ ha hb hn _).mono ?_; rintro e w1 ⟨rfl, hw1⟩; replace hk := keepK hw1 hk))
  go_ret
  refine ⟨rfl, ?_⟩
  repeat (with_reducible first | exact Keeps.refl _ | refine Keeps.trans ?_ (by assumption) | apply Keeps.alloc | apply Keeps.drew)
end Go.Proofs.Ytjgliemnenhloaa
