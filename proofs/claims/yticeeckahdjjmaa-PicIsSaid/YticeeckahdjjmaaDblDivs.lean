/-
  What the calls UMod, Symm, Floor and Scale of package dbl answer: what is left, the quotient and the throw, by whole numbers. The world has new blocks alone.
-/
import Derived.Test.YticeeckahdjjmaaDblDigits
import Derived.Test.YticeeckahdjjmaaDblSymm
namespace Go.Proofs.Yticeeckahdjjmaa
open Go.RowKit
set_option maxHeartbeats 400000 in
theorem dumod_any (x u : Int) (hu : InC u) (w : World) :
    Calls Try.prog 61 #[.agg #[.int .i64 (dLo x), .int .i64 (dHi x)], .int .i64 u] w fun e w' => e = .returned (.tuple #[.int .i64 (uR x u), .int .i64 (uQ x u), .int .i64 (uE x u)]) ∧ Grown w w' := by
  by_cases h0 : u = 0
  · subst h0
    have HZ := Lib.hid (umod_zero x)
    go_enter Try.func61, Try.ntmps61
    go_wp2
    go_ret3
    exact ⟨by rw [HZ.out.1, HZ.out.2.1, HZ.out.2.2]; rfl, (Grown.refl _).alloc _ _⟩
  · have h0' : (u == 0) = false := by simpa using h0
    cases h : cUlt (dHi x) u
    · have HZ := Lib.hid (umod_far hu h0 h)
      clear h0 hu
      go_enter Try.func61, Try.ntmps61
      go_wp2_with (go_at_call 63; refine (ult_any _ _ _).mono ?_; rintro e w' ⟨rfl, rfl⟩)
      go_ret3
      exact ⟨by rw [HZ.out.1, HZ.out.2.1, HZ.out.2.2]; rfl, (Grown.refl _).alloc _ _⟩
    · have HZ := Lib.hid (umod_near hu h0 h)
      clear h0 hu
      go_enter Try.func61, Try.ntmps61
      go_wp2_with (first
        | (go_at_call 63; refine (ult_any _ _ _).mono ?_; rintro e w' ⟨rfl, rfl⟩)
        | (go_at_call 73; refine (digits_any _ _ HZ.out.2.2.2.1 _).mono ?_; rintro e w1 ⟨rfl, hw1⟩))
      go_ret3
      exact ⟨by rw [HZ.out.1, HZ.out.2.1, HZ.out.2.2.1]; rfl, grown_trans ((Grown.refl _).alloc _ _) hw1⟩
/-- The ways through Symm: u is n without its sign, s and t are the signs, m is whether they are unlike. -/
def SymmWay (x n u : Int) (s m : Bool) : Prop :=
  ((uE (absZ x) u != 0) = true ∧ Hid (sE x n = uE (absZ x) u ∧ sR x n = 0 ∧ sQ x n = 0)) ∨
  ((uE (absZ x) u != 0) = false ∧ ((sgZ (uQ (absZ x) u) m != 0) = true ∧ decide (sgZ (uQ (absZ x) u) m < 0) = !m ∧ Hid (sE x n = -11 ∧ sR x n = 0 ∧ sQ x n = 0) ∨
    (sgZ (uQ (absZ x) u) m != 0) = false ∧ Hid (sE x n = 0 ∧ sR x n = sgZ (uR (absZ x) u) s ∧ sQ x n = sgZ (uQ (absZ x) u) m) ∨
    (sgZ (uQ (absZ x) u) m != 0) = true ∧ decide (sgZ (uQ (absZ x) u) m < 0) = m ∧ Hid (sE x n = 0 ∧ sR x n = sgZ (uR (absZ x) u) s ∧ sQ x n = sgZ (uQ (absZ x) u) m)))
theorem symm_way {x n : Int} (hx : InD x) (hn : InC n) (s t m : Bool) (hs : decide (x < 0) = s) (ht : decide (n < 0) = t) (hm : (s != t) = m) : SymmWay x n (sgZ n t) s m := by
  subst hs ht hm
  by_cases h : uE (absZ x) (sgZ n (decide (n < 0))) = 0
  · refine .inr ⟨by simp [h], ?_⟩
    cases h1 : (sgZ (uQ (absZ x) (sgZ n (decide (n < 0)))) (decide (x < 0) != decide (n < 0)) != 0)
    · exact .inr (.inl ⟨rfl, symm_fits hx hn h (.inl h1)⟩)
    · cases h2 : (decide (sgZ (uQ (absZ x) (sgZ n (decide (n < 0)))) (decide (x < 0) != decide (n < 0)) < 0) != (decide (x < 0) != decide (n < 0)))
      · exact .inr (.inr ⟨rfl, by simpa using h2, symm_fits hx hn h (.inr h2)⟩)
      · refine .inl ⟨rfl, ?_, symm_round hx hn h h1 h2⟩
        revert h2
        generalize decide (sgZ (uQ (absZ x) (sgZ n (decide (n < 0)))) (decide (x < 0) != decide (n < 0)) < 0) = p
        generalize (decide (x < 0) != decide (n < 0)) = m
        cases p <;> cases m <;> simp
  · exact .inl ⟨by simpa using h, symm_none hx hn h⟩
theorem inD_mul {a b : Int} (ha : InC a) (hb : InC b) : InD (a * b) := by
  have h1 : (a * b).natAbs = a.natAbs * b.natAbs := Int.natAbs_mul a b
  have h2 : a.natAbs * b.natAbs ≤ 9223372036854775808 * 9223372036854775808 := Nat.mul_le_mul (by unfold InC at ha; omega) (by unfold InC at hb; omega)
  unfold InD
  omega
end Go.Proofs.Yticeeckahdjjmaa
