/-
  The call of the statement DblProducts answers true at all cells; the world has new blocks alone.
-/
import Derived.Test.YtjgliemnenhloaaDblKeep
import Derived.Test.YtjgliemnenhloaaDblLaws
namespace Go.Proofs.Ytjgliemnenhloaa
open Go.RowKit
theorem run_lo (x y : Int) (w : World) : (Instr.field 23 (.agg #[.int .i64 x, .int .i64 y]) 0).run Try.prog w = .ok (.int .i64 x) w := by kernel_rfl
set_option maxRecDepth 100000 in
set_option maxHeartbeats 2000000 in
theorem dblProducts_walk (a b c : Int) (ha : InC a) (hb : InC b) (hc : InC c) (w : World) :
    Calls Try.prog 7 #[.int .i64 a, .int .i64 b, .int .i64 c] w fun e w' => e = .returned (.bool true) ∧ Grown w w' := by
  have hf := run_lo
  have h1 : b * a = a * b := Int.mul_comm _ _
  have h2 := uProd_comm a b
  have h3 : (dLo (a * b) != wrap64 (a * b)) = false := by simp [dLo]
  have h4 : (dLo (uProd a b) != wrap64 (a * b)) = false := by rw [mul_lo]; simp [dLo]
  have h5 : (a / 4 + b / 4) * c = a / 4 * c + b / 4 * c := Int.add_mul _ _ _
  have i1 : InC (a / 4) := by unfold InC at *; omega
  have i2 : InC (b / 4) := by unfold InC at *; omega
  have i3 : InC (a / 4 + b / 4) := by unfold InC at *; omega
  have i4 : InC (-1) := by unfold InC; omega
  have h6 : wrap64 (a / 4 + b / 4) = a / 4 + b / 4 := wrap64_id i3
  have i5 := inD_mul ha hb
  have h7 : -1 * c = -c := by omega
  by_cases h0 : b = 0
  · have z0 : (b == 0) = true := by simpa using h0
    clear h0
    go_enter Try.func7, Try.ntmps7
    go_wp2_with (first
      | (go_at_call 11; refine (dawake_any _).mono ?_; rintro e w0 ⟨rfl, hw0⟩)
      | (go_at_call 22; refine (dmul_any _ _ (by assumption) (by assumption) _).mono ?_; rintro e w1 ⟨rfl, hw1⟩)
      | (go_at_call 20; refine (dumul_any _ _ _).mono ?_; rintro e w1 ⟨rfl, hw1⟩)
      | (go_at_call 26; refine (dsymm_any _ _ (by assumption) (by assumption) _).mono ?_; rintro e w1 ⟨rfl, hw1⟩)
      | (go_at_call 24; refine (dumod_any _ _ (by assumption) _).mono ?_; rintro e w1 ⟨rfl, hw1⟩)
      | (go_at_call 14; refine (dadd_any _ _ _).mono ?_; rintro e w1 ⟨rfl, hw1⟩)
      | (go_at_call 12; refine (dof_any _ (by assumption) _).mono ?_; rintro e w1 ⟨rfl, hw1⟩)
      | (go_at_call 16; refine (dneg_any _ _).mono ?_; rintro e w1 ⟨rfl, hw1⟩))
    go_ret
    refine ⟨rfl, ?_⟩
    repeat (with_reducible first | exact Grown.refl _ | refine grown_trans ?_ (by assumption) | apply Grown.alloc | apply Grown.drew)
  · have z0 : (b == 0) = false := by simpa using h0
    obtain ⟨p1, p2, p3⟩ := prod_symm ha h0
    obtain ⟨u1, u2, u3⟩ := prod_umod ha hb h0
    clear h0
    go_enter Try.func7, Try.ntmps7
    go_wp2_with (first
      | (go_at_call 11; refine (dawake_any _).mono ?_; rintro e w0 ⟨rfl, hw0⟩)
      | (go_at_call 22; refine (dmul_any _ _ (by assumption) (by assumption) _).mono ?_; rintro e w1 ⟨rfl, hw1⟩)
      | (go_at_call 20; refine (dumul_any _ _ _).mono ?_; rintro e w1 ⟨rfl, hw1⟩)
      | (go_at_call 26; refine (dsymm_any _ _ (by assumption) (by assumption) _).mono ?_; rintro e w1 ⟨rfl, hw1⟩)
      | (go_at_call 24; refine (dumod_any _ _ (by assumption) _).mono ?_; rintro e w1 ⟨rfl, hw1⟩)
      | (go_at_call 14; refine (dadd_any _ _ _).mono ?_; rintro e w1 ⟨rfl, hw1⟩)
      | (go_at_call 12; refine (dof_any _ (by assumption) _).mono ?_; rintro e w1 ⟨rfl, hw1⟩)
      | (go_at_call 16; refine (dneg_any _ _).mono ?_; rintro e w1 ⟨rfl, hw1⟩))
    go_ret
    refine ⟨rfl, ?_⟩
    repeat (with_reducible first | exact Grown.refl _ | refine grown_trans ?_ (by assumption) | apply Grown.alloc | apply Grown.drew)
end Go.Proofs.Ytjgliemnenhloaa
