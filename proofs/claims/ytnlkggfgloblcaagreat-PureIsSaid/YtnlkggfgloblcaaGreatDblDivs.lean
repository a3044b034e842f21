/-
  What the calls UMod, Symm, Floor and Scale of package dbl answer: what is left, the quotient and the throw, by whole numbers. The world has new blocks alone.
-/
import Derived.Test.YtnlkggfgloblcaaGreatDblDigits
import Derived.Test.YtnlkggfgloblcaaGreatDblSymm
namespace Go.Proofs.YtnlkggfgloblcaaGreat
open Go.RowKit
set_option maxHeartbeats 400000 in
theorem dumod_any (x u : Int) (hu : InC u) (w : World) :
    Calls Tryz.prog 140 #[.agg #[.int .i64 (dLo x), .int .i64 (dHi x)], .int .i64 u] w fun e w' => e = .returned (.tuple #[.int .i64 (uR x u), .int .i64 (uQ x u), .int .i64 (uE x u)]) ∧ Grown w w' := by
  by_cases h0 : u = 0
  · subst h0
    have HZ := Lib.hid (umod_zero x)
    go_enter Tryz.func140, Tryz.ntmps140
    go_wp2
    go_ret3
    exact ⟨by rw [HZ.out.1, HZ.out.2.1, HZ.out.2.2]; rfl, (Grown.refl _).alloc _ _⟩
  · have h0' : (u == 0) = false := by simpa using h0
    cases h : cUlt (dHi x) u
    · have HZ := Lib.hid (umod_far hu h0 h)
      clear h0 hu
      go_enter Tryz.func140, Tryz.ntmps140
      go_wp2_with (go_at_call 89; refine (ult_any _ _ _).mono ?_; rintro e w' ⟨rfl, rfl⟩)
      go_ret3
      exact ⟨by rw [HZ.out.1, HZ.out.2.1, HZ.out.2.2]; rfl, (Grown.refl _).alloc _ _⟩
    · have HZ := Lib.hid (umod_near hu h0 h)
      clear h0 hu
      go_enter Tryz.func140, Tryz.ntmps140
      go_wp2_with (first
        | (go_at_call 89; refine (ult_any _ _ _).mono ?_; rintro e w' ⟨rfl, rfl⟩)
        | (go_at_call 153; refine (digits_any _ _ HZ.out.2.2.2.1 _).mono ?_; rintro e w1 ⟨rfl, hw1⟩))
      go_ret3
      exact ⟨by rw [HZ.out.1, HZ.out.2.1, HZ.out.2.2.1]; rfl, grown_trans ((Grown.refl _).alloc _ _) hw1⟩
set_option maxHeartbeats 400000 in
theorem signed_any (n : Int) (m : Bool) (w : World) :
    Calls Tryz.prog 155 #[.int .i64 n, .bool m] w fun e w' => e = .returned (.int .i64 (sgZ n m)) ∧ w = w' := by
  cases m
  all_goals
    go_enter Tryz.func155, Tryz.ntmps155
    go_wp2
    go_ret
    exact ⟨rfl, rfl⟩
set_option maxHeartbeats 400000 in
theorem size_any (x : Int) (hx : InD x) (w : World) :
    Calls Tryz.prog 154 #[.agg #[.int .i64 (dLo x), .int .i64 (dHi x)]] w fun e w' => e = .returned (.agg #[.int .i64 (dLo (absZ x)), .int .i64 (dHi (absZ x))]) ∧ Grown w w' := by
  by_cases h : x < 0
  · have h' : dHi x < 0 := (dHi_neg hx).2 h
    have HA : Hid (absZ x = -x) := by show _ = _; unfold absZ; rw [if_pos h]
    clear h hx
    go_enter Tryz.func154, Tryz.ntmps154
    go_wp2_with (go_at_call 108; refine (dneg_any _ _).mono ?_; rintro e w1 ⟨rfl, hw1⟩; obtain ⟨c0, c1, f0, f1⟩ := resD hw1 (R := w.heap.size + 1) (by simp) ⟨by simp [go_sem]; rfl, by simp [go_sem]; rfl, by simp [go_sem], by simp [go_sem]⟩)
    refine bodyPost_ret (v := .agg #[.int .i64 (dLo (-x)), .int .i64 (dHi (-x))]) (by simp [results, Tryz.results154, go_sem, c0, c1]) rfl ⟨by rw [HA.out], ?_⟩
    exact ((grown_trans ((((Grown.refl w).alloc _ _).alloc _ _)) hw1).setCell (by simp) _).setCell (by simp) _
  · have h' : ¬ dHi x < 0 := fun e => h ((dHi_neg hx).1 e)
    have HA : Hid (absZ x = x) := by show _ = _; unfold absZ; rw [if_neg h]
    clear h hx
    go_enter Tryz.func154, Tryz.ntmps154
    go_wp2
    refine bodyPost_ret (v := .agg #[.int .i64 (dLo x), .int .i64 (dHi x)]) (by simp [results, Tryz.results154, go_sem]) rfl ⟨by rw [HA.out], ?_⟩
    exact ((Grown.refl w).alloc _ _).alloc _ _
/-- The ways through Symm: u is n without its sign, s and t are the signs, m is whether they are unlike. -/
def SymmWay (x n u : Int) (s m : Bool) : Prop :=
  ((uE (absZ x) u != 0) = true ∧ Hid (sE x n = uE (absZ x) u ∧ sR x n = 0 ∧ sQ x n = 0)) ∨
  ((uE (absZ x) u != 0) = false ∧ ((sgZ (uQ (absZ x) u) m != 0) = true ∧ decide (sgZ (uQ (absZ x) u) m < 0) = !m ∧ Hid (sE x n = -11 ∧ sR x n = 0 ∧ sQ x n = 0) ∨
    (sgZ (uQ (absZ x) u) m != 0) = false ∧ Hid (sE x n = 0 ∧ sR x n = sgZ (uR (absZ x) u) s ∧ sQ x n = sgZ (uQ (absZ x) u) m) ∨
    (sgZ (uQ (absZ x) u) m != 0) = true ∧ decide (sgZ (uQ (absZ x) u) m < 0) = m ∧ Hid (sE x n = 0 ∧ sR x n = sgZ (uR (absZ x) u) s ∧ sQ x n = sgZ (uQ (absZ x) u) m)))
theorem symm_way {x n : Int} (hx : InD x) (hn : InC n) (s t m : Bool) (hs : decide (x < 0) = s) (ht : decide (n < 0) = t) (hm : (s != t) = m) : SymmWay x n (sgZ n t) s m := by
  subst hs ht hm
  by_cases h : uE (absZ x) (sgZ n (decide (n < 0))) = 0
  · refine .inr ⟨by simp [h], ?_⟩
    cases h1 : (sgZ (uQ (absZ x) (sgZ n (decide (n < 0)))) (decide (x < 0) != decide (n < 0)) != 0)
    · exact .inr (.inl ⟨rfl, symm_fits hx hn h (.inl h1)⟩)
    · cases h2 : (decide (sgZ (uQ (absZ x) (sgZ n (decide (n < 0)))) (decide (x < 0) != decide (n < 0)) < 0) != (decide (x < 0) != decide (n < 0)))
      · exact .inr (.inr ⟨rfl, by simpa using h2, symm_fits hx hn h (.inr h2)⟩)
      · refine .inl ⟨rfl, ?_, symm_round hx hn h h1 h2⟩
        revert h2
        generalize decide (sgZ (uQ (absZ x) (sgZ n (decide (n < 0)))) (decide (x < 0) != decide (n < 0)) < 0) = p
        generalize (decide (x < 0) != decide (n < 0)) = m
        cases p <;> cases m <;> simp
  · exact .inl ⟨by simpa using h, symm_none hx hn h⟩
set_option maxRecDepth 100000 in
set_option maxHeartbeats 1000000 in
theorem dsymm_at (x n : Int) (hx : InD x) (s t m : Bool) (hu : InC (sgZ n t)) (hs : decide (dHi x < 0) = s) (ht : decide (n < 0) = t) (hm : (s != t) = m) (hw : SymmWay x n (sgZ n t) s m) (w : World) :
    Calls Tryz.prog 142 #[.agg #[.int .i64 (dLo x), .int .i64 (dHi x)], .int .i64 n] w fun e w' => e = .returned (.tuple #[.int .i64 (sR x n), .int .i64 (sQ x n), .int .i64 (sE x n)]) ∧ Grown w w' := by
  cases s <;> cases t <;> cases m
  all_goals first | exact absurd hm (by decide) | skip
  all_goals
    clear hm
    rcases hw with ⟨g1, HZ⟩ | ⟨g1, ⟨g2, g3, HZ⟩ | ⟨g2, HZ⟩ | ⟨g2, g3, HZ⟩⟩
    all_goals (try simp only [Bool.not_false, Bool.not_true] at g3)
  all_goals
    go_enter Tryz.func142, Tryz.ntmps142
    go_wp2_with (first
      | (go_at_call 154; refine (size_any _ hx _).mono ?_; rintro e w1 ⟨rfl, hw1⟩; have hsz : w.heap.size < w1.heap.size := by have := hw1.2.2; simp at this; omega)
      | (go_at_call 155; refine (signed_any _ _ _).mono ?_; rintro e w' ⟨rfl, rfl⟩)
      | (go_at_call 140; refine (dumod_any _ _ hu _).mono ?_; rintro e w2 ⟨rfl, hw2⟩; have c1 := grown_cell (grown_trans hw1 hw2) (b := w.heap.size) (o := 1) (by simp) (v := .int .i64 (dHi x)) (by simp [go_sem])))
    go_ret3
    exact ⟨by rw [HZ.out.1, HZ.out.2.1, HZ.out.2.2]; rfl, grown_trans (grown_trans ((Grown.refl _).alloc _ _) hw1) hw2⟩
theorem dsymm_any (x n : Int) (hx : InD x) (hn : InC n) (w : World) :
    Calls Tryz.prog 142 #[.agg #[.int .i64 (dLo x), .int .i64 (dHi x)], .int .i64 n] w fun e w' => e = .returned (.tuple #[.int .i64 (sR x n), .int .i64 (sQ x n), .int .i64 (sE x n)]) ∧ Grown w w' :=
  dsymm_at x n hx _ _ _ (sg_in hn _) (by simp [dHi_neg hx]) rfl rfl (symm_way hx hn (decide (x < 0)) _ _ rfl rfl rfl) w
set_option maxHeartbeats 1000000 in
theorem dfloor_any (x n : Int) (hx : InD x) (hn : InC n) (w : World) :
    Calls Tryz.prog 141 #[.agg #[.int .i64 (dLo x), .int .i64 (dHi x)], .int .i64 n] w fun e w' => e = .returned (.tuple #[.int .i64 (fR x n), .int .i64 (fQ x n), .int .i64 (fE x n)]) ∧ Grown w w' := by
  cases h1 : (sR x n == 0)
  · cases h2 : (decide (sR x n < 0) == decide (n < 0))
    · obtain ⟨e0, e1, e2⟩ := floor_less hn h1 h2
      have H0 := Lib.hid e0
      cases h3 : (sQ x n == -9223372036854775808)
      · have HZ := Lib.hid (e2 h3)
        clear e0 e1 e2
        go_enter Tryz.func141, Tryz.ntmps141
        go_wp2_with (go_at_call 142; refine (dsymm_any _ _ hx hn _).mono ?_; rintro e w1 ⟨rfl, hw1⟩)
        go_ret3
        exact ⟨by rw [HZ.out.1, HZ.out.2.1, HZ.out.2.2, ← H0.out]; rfl, grown_trans ((Grown.refl _).alloc _ _) hw1⟩
      · have HZ := Lib.hid (e1 h3)
        clear e0 e1 e2
        go_enter Tryz.func141, Tryz.ntmps141
        go_wp2_with (go_at_call 142; refine (dsymm_any _ _ hx hn _).mono ?_; rintro e w1 ⟨rfl, hw1⟩)
        go_ret3
        exact ⟨by rw [HZ.out.1, HZ.out.2.1, HZ.out.2.2]; rfl, grown_trans ((Grown.refl _).alloc _ _) hw1⟩
    · have HZ := Lib.hid (floor_same (.inr h2))
      go_enter Tryz.func141, Tryz.ntmps141
      go_wp2_with (go_at_call 142; refine (dsymm_any _ _ hx hn _).mono ?_; rintro e w1 ⟨rfl, hw1⟩)
      go_ret3
      exact ⟨by rw [HZ.out.1, HZ.out.2.1, HZ.out.2.2]; rfl, grown_trans ((Grown.refl _).alloc _ _) hw1⟩
  · have HZ := Lib.hid (floor_same (.inl h1))
    go_enter Tryz.func141, Tryz.ntmps141
    go_wp2_with (go_at_call 142; refine (dsymm_any _ _ hx hn _).mono ?_; rintro e w1 ⟨rfl, hw1⟩)
    go_ret3
    exact ⟨by rw [HZ.out.1, HZ.out.2.1, HZ.out.2.2]; rfl, grown_trans ((Grown.refl _).alloc _ _) hw1⟩
theorem inD_mul {a b : Int} (ha : InC a) (hb : InC b) : InD (a * b) := by
  have h1 : (a * b).natAbs = a.natAbs * b.natAbs := Int.natAbs_mul a b
  have h2 : a.natAbs * b.natAbs ≤ 9223372036854775808 * 9223372036854775808 := Nat.mul_le_mul (by unfold InC at ha; omega) (by unfold InC at hb; omega)
  unfold InD
  omega
set_option maxHeartbeats 400000 in
theorem dscale_any (a b c : Int) (ha : InC a) (hb : InC b) (hc : InC c) (w : World) :
    Calls Tryz.prog 136 #[.int .i64 a, .int .i64 b, .int .i64 c] w fun e w' => e = .returned (.tuple #[.int .i64 (fR (a * b) c), .int .i64 (fQ (a * b) c), .int .i64 (fE (a * b) c)]) ∧ Grown w w' := by
  have hx := inD_mul ha hb
  go_enter Tryz.func136, Tryz.ntmps136
  go_wp2_with (first
    | (go_at_call 98; refine (dmul_any _ _ ha hb _).mono ?_; rintro e w1 ⟨rfl, hw1⟩)
    | (go_at_call 141; refine (dfloor_any _ _ hx hc _).mono ?_; rintro e w2 ⟨rfl, hw2⟩))
  go_ret3
  exact ⟨rfl, grown_trans hw1 hw2⟩
end Go.Proofs.YtnlkggfgloblcaaGreat
