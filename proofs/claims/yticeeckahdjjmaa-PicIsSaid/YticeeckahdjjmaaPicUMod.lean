/-
  What the document calls UMod of layer 2 (as XRef02Symm has it).
-/
import Derived.Test.YticeeckahdjjmaaRef02Divide
namespace Go.Proofs.Yticeeckahdjjmaa
open Go.RowKit

theorem hi_zero {N : Int} (h0 : 0 ≤ N) (h1 : N < 340282366920938463463374607431768211456) : (dHi N != 0) = decide (18446744073709551616 ≤ N) := by
  unfold dHi wrap64
  rw [Bool.eq_iff_iff]
  simp
  omega
set_option maxHeartbeats 1000000 in
theorem rumod_any (x u : Int) (hu : InC u) (w : World) :
    Calls Try.prog 50 #[.agg #[.int .i64 (dLo x), .int .i64 (dHi x)], .int .i64 u] w fun e w' => e = .returned (.tuple #[.int .i64 (uR x u), .int .i64 (uQ x u), .int .i64 (uE x u)]) ∧ Keeps w w' := by
  by_cases h0 : u = 0
  · subst h0
    have HZ := Lib.hid (umod_zero x)
    go_enter Try.func50, Try.ntmps50
    go_wp2
    go_ret3
    exact ⟨by rw [HZ.out.1, HZ.out.2.1, HZ.out.2.2]; rfl, (Keeps.refl _).alloc _⟩
  · have hU := u_pos hu h0
    have h0' : (u == 0) = false := by simpa using h0
    have q0 := Int.ediv_nonneg (show 0 ≤ x % 340282366920938463463374607431768211456 by omega) (show 0 ≤ u % 18446744073709551616 by omega)
    have q1 : x % 340282366920938463463374607431768211456 / (u % 18446744073709551616) ≤ x % 340282366920938463463374607431768211456 := Int.ediv_le_self _ (by omega)
    have hz := hi_zero q0 (by omega)
    have HD := Lib.hid (fun w => rdivide_any x u hu h0 w)
    by_cases hc : 18446744073709551616 ≤ x % 340282366920938463463374607431768211456 / (u % 18446744073709551616)
    · have e : uE x u = -11 := by unfold uE; rw [if_neg h0, if_pos hc]
      have HZ : Hid (uE x u = -11 ∧ uR x u = 0 ∧ uQ x u = 0) := ⟨e, by simp [uR, e], by simp [uQ, e]⟩
      rw [decide_eq_true hc] at hz
      generalize x % 340282366920938463463374607431768211456 / (u % 18446744073709551616) = N at *
      generalize x % 340282366920938463463374607431768211456 % (u % 18446744073709551616) = R at *
      clear hu h0 hU q0 q1 hc e
      go_enter Try.func50, Try.ntmps50
      go_wp2_with (go_at_call 60; refine (HD.out _).mono ?_; rintro e w1 ⟨rfl, hw1⟩)
      go_ret3
      exact ⟨by rw [HZ.out.1, HZ.out.2.1, HZ.out.2.2]; rfl, (((Keeps.refl _).alloc _).trans hw1).alloc _⟩
    · have e : uE x u = 0 := by unfold uE; rw [if_neg h0, if_neg hc]
      have HZ : Hid (uE x u = 0 ∧ uR x u = dLo (x % 340282366920938463463374607431768211456 % (u % 18446744073709551616)) ∧ uQ x u = dLo (x % 340282366920938463463374607431768211456 / (u % 18446744073709551616))) := ⟨e, by simp [uR, e, dLo], by simp [uQ, e, dLo]⟩
      rw [decide_eq_false hc] at hz
      generalize x % 340282366920938463463374607431768211456 / (u % 18446744073709551616) = N at *
      generalize x % 340282366920938463463374607431768211456 % (u % 18446744073709551616) = R at *
      clear hu h0 hU q0 q1 hc e
      go_enter Try.func50, Try.ntmps50
      go_wp2_with (go_at_call 60; refine (HD.out _).mono ?_; rintro e w1 ⟨rfl, hw1⟩)
      go_quiet (fail)
      go_wp2
      go_ret3
      exact ⟨by rw [HZ.out.1, HZ.out.2.1, HZ.out.2.2]; rfl, ((((Keeps.refl _).alloc _).trans hw1).alloc _).drewN _⟩
end Go.Proofs.Yticeeckahdjjmaa
