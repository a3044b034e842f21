/-
  DictPlaces walked: each place has its number, and each number that has a place its place.
-/
import Derived.Test.YtkpomphjicoaeaaDictAwake
namespace Go.Proofs.Ytkpomphjicoaeaa
open Go.RowKit

theorem gf2 (x y z : Bool) (h : (x || (y == z)) = true) : x = true ∨ (x = false ∧ y = z) := by
  revert h; cases x <;> simp
set_option maxHeartbeats 20000000 in
theorem places_core (t p t' p' n a b X1 X2 Y1 Y2 : Int) (ok is B1 B2 B3 B6 : Bool) (w : World)
    (HA : Hid (dP t p = a)) (HB : Hid (dP t' p' = b)) (HAM : Hid (a ≤ 9223372036854775807)) (HNM : Hid (n ≤ 9223372036854775807))
    (HOK : Hid (dOk a = ok)) (HX1 : Hid (dT a = X1)) (HX2 : Hid (dQ a = X2)) (HIS : Hid (dOk n = is)) (HY1 : Hid (dT n = Y1)) (HY2 : Hid (dQ n = Y2)) (HN : Hid (is = true → dP Y1 Y2 = n))
    (g1 : decide (t' < t) = B1) (g2 : (t == t') = B2) (g3 : decide (p' < p) = B3) (g4 : decide (0 ≤ a) = ok) (g5 : decide (a < 0) = !ok) (g6 : decide (b < a) = B6) (ge : ok = true → (X1 == t && X2 == p) = true) (gz : is = false → (Y1 == 0 && Y2 == 0) = true)
    (gn : (is || (decide (n < 0) || decide (2147483648 < n))) = true) (gf : ok = true → (decide (b < 0) || (B6 == (B1 || (B2 && B3)))) = true) :
    Calls Try.prog 6 #[.agg #[.int .i64 t, .int .i64 p], .agg #[.int .i64 t', .int .i64 p'], .int .i64 n] w fun e w' => e = .returned (.bool true) ∧ Below w.heap.size w w' := by
  have q := eqPP
  have q2 := nePP
  have HW := Lib.hid (two_new w (.cells #[.int .i64 t, .int .i64 p] 24) (.cells #[.int .i64 t', .int .i64 p'] 24))
  have PA := Lib.hid ((Pa.new w 24 t p _ rfl).keep (below_one _ (.cells #[.int .i64 t', .int .i64 p'] 24)))
  have PB := Lib.hid (Pa.new (w.alloc (.cells #[.int .i64 t, .int .i64 p] 24)) 24 t' p' (w.heap.size + 1) (by simp))
  have pa0 := trivial
  have pa1 := trivial
  have pb0 := trivial
  have pb1 := trivial
  have la := trivial
  have lb := trivial
  obtain ⟨X, hX⟩ : ∃ x, (B1 || (B2 && B3)) = x := ⟨_, rfl⟩
  rw [hX] at gf
  have h1 : (B1 = true ∧ X = true) ∨ (B1 = false ∧ B2 = false ∧ X = false) ∨ (B1 = false ∧ B2 = true ∧ B3 = true ∧ X = true) ∨ (B1 = false ∧ B2 = true ∧ B3 = false ∧ X = false) := by
    subst hX
    cases B1 <;> cases B2 <;> cases B3 <;> simp
  clear hX
  cases is
  · replace gz := gz rfl
    rw [Bool.false_or] at gn
    clear HN
    have gn2 : decide (n < 0) = true ∨ (decide (n < 0) = false ∧ decide (2147483648 < n) = true) := by
      revert gn; cases decide (n < 0) <;> cases decide (2147483648 < n) <;> simp
    clear gn
    cases ok
    · clear ge gf
      rcases h1 with ⟨rfl, rfl⟩ | ⟨rfl, rfl, rfl⟩ | ⟨rfl, rfl, rfl, rfl⟩ | ⟨rfl, rfl, rfl, rfl⟩
      all_goals rcases gn2 with g7 | ⟨g7, g8⟩
      all_goals
        go_enter Try.func6, Try.ntmps6
        go_wp2_with (first
          | (go_at_call 9; refine (awake_any _).mono ?_; rintro e w1 ⟨rfl, hb1⟩; have HW := Lib.hid (below_then HW.out hb1); have PA := Lib.hid (PA.out.keep hb1); have PB := Lib.hid (PB.out.keep hb1); clear hb1 pa0 pa1 pb0 pb1 la lb; have pa0 := PA.out.2.1; have pa1 := PA.out.2.2; have pb0 := PB.out.2.1; have pb1 := PB.out.2.2; have la := PA.out.1; have lb := PB.out.1)
          | (go_at_call 24; (with_reducible refine (addr_is t p a HA.out _).mono ?_); rintro e w2 ⟨rfl, hb2⟩; have HW := Lib.hid (below_then HW.out hb2); have PA := Lib.hid (PA.out.keep hb2); have PB := Lib.hid (PB.out.keep hb2); clear hb2 pa0 pa1 pb0 pb1 la lb; have pa0 := PA.out.2.1; have pa1 := PA.out.2.2; have pb0 := PB.out.2.1; have pb1 := PB.out.2.2; have la := PA.out.1; have lb := PB.out.1)
          | (go_at_call 24; (with_reducible refine (addr_is t' p' b HB.out _).mono ?_); rintro e w3 ⟨rfl, hb3⟩; have HW := Lib.hid (below_then HW.out hb3); have PA := Lib.hid (PA.out.keep hb3); have PB := Lib.hid (PB.out.keep hb3); clear hb3 pa0 pa1 pb0 pb1 la lb; have pa0 := PA.out.2.1; have pa1 := PA.out.2.2; have pb0 := PB.out.2.1; have pb1 := PB.out.2.2; have la := PA.out.1; have lb := PB.out.1)
          | (go_at_call 19; (with_reducible refine (at_is a X1 X2 _ HAM.out HOK.out HX1.out HX2.out _).mono ?_); rintro e w4 ⟨rfl, hb4⟩; have HW := Lib.hid (below_then HW.out hb4); have PA := Lib.hid (PA.out.keep hb4); have PB := Lib.hid (PB.out.keep hb4); clear hb4 pa0 pa1 pb0 pb1 la lb; have pa0 := PA.out.2.1; have pa1 := PA.out.2.2; have pb0 := PB.out.2.1; have pb1 := PB.out.2.2; have la := PA.out.1; have lb := PB.out.1)
          | (go_at_call 19; (with_reducible refine (at_is n Y1 Y2 _ HNM.out HIS.out HY1.out HY2.out _).mono ?_); rintro e w5 ⟨rfl, hb5⟩; have HX := Lib.hid (Pa.new w4 24 X1 X2 _ rfl); have hb6 := below_then (below_one w4 (.cells #[.int .i64 X1, .int .i64 X2] 24)) hb5; have HW := Lib.hid (below_then HW.out hb6); have PA := Lib.hid (PA.out.keep hb6); have PB := Lib.hid (PB.out.keep hb6); clear hb6 pa0 pa1 pb0 pb1 la lb; have pa0 := PA.out.2.1; have pa1 := PA.out.2.2; have pb0 := PB.out.2.1; have pb1 := PB.out.2.2; have la := PA.out.1; have lb := PB.out.1; have PX := Lib.hid (HX.out.keep hb5); clear hb5; have px0 := PX.out.2.1; have px1 := PX.out.2.2; have lx := PX.out.1))
        go_ret
        exact ⟨rfl, HW.out.trans (Joins.below_le (below_one _ _) HW.out.size)⟩
    · replace ge := ge rfl
      replace gf := gf rfl
      rcases h1 with ⟨rfl, rfl⟩ | ⟨rfl, rfl, rfl⟩ | ⟨rfl, rfl, rfl, rfl⟩ | ⟨rfl, rfl, rfl, rfl⟩
      all_goals rcases gn2 with g7 | ⟨g7, g8⟩
      all_goals obtain g9 | ⟨g9, rfl⟩ := gf2 _ _ _ gf
      all_goals
        clear gf
        go_enter Try.func6, Try.ntmps6
        go_wp2_with (first
          | (go_at_call 9; refine (awake_any _).mono ?_; rintro e w1 ⟨rfl, hb1⟩; have HW := Lib.hid (below_then HW.out hb1); have PA := Lib.hid (PA.out.keep hb1); have PB := Lib.hid (PB.out.keep hb1); clear hb1 pa0 pa1 pb0 pb1 la lb; have pa0 := PA.out.2.1; have pa1 := PA.out.2.2; have pb0 := PB.out.2.1; have pb1 := PB.out.2.2; have la := PA.out.1; have lb := PB.out.1)
          | (go_at_call 24; (with_reducible refine (addr_is t p a HA.out _).mono ?_); rintro e w2 ⟨rfl, hb2⟩; have HW := Lib.hid (below_then HW.out hb2); have PA := Lib.hid (PA.out.keep hb2); have PB := Lib.hid (PB.out.keep hb2); clear hb2 pa0 pa1 pb0 pb1 la lb; have pa0 := PA.out.2.1; have pa1 := PA.out.2.2; have pb0 := PB.out.2.1; have pb1 := PB.out.2.2; have la := PA.out.1; have lb := PB.out.1)
          | (go_at_call 24; (with_reducible refine (addr_is t' p' b HB.out _).mono ?_); rintro e w3 ⟨rfl, hb3⟩; have HW := Lib.hid (below_then HW.out hb3); have PA := Lib.hid (PA.out.keep hb3); have PB := Lib.hid (PB.out.keep hb3); clear hb3 pa0 pa1 pb0 pb1 la lb; have pa0 := PA.out.2.1; have pa1 := PA.out.2.2; have pb0 := PB.out.2.1; have pb1 := PB.out.2.2; have la := PA.out.1; have lb := PB.out.1)
          | (go_at_call 19; (with_reducible refine (at_is a X1 X2 _ HAM.out HOK.out HX1.out HX2.out _).mono ?_); rintro e w4 ⟨rfl, hb4⟩; have HW := Lib.hid (below_then HW.out hb4); have PA := Lib.hid (PA.out.keep hb4); have PB := Lib.hid (PB.out.keep hb4); clear hb4 pa0 pa1 pb0 pb1 la lb; have pa0 := PA.out.2.1; have pa1 := PA.out.2.2; have pb0 := PB.out.2.1; have pb1 := PB.out.2.2; have la := PA.out.1; have lb := PB.out.1)
          | (go_at_call 19; (with_reducible refine (at_is n Y1 Y2 _ HNM.out HIS.out HY1.out HY2.out _).mono ?_); rintro e w5 ⟨rfl, hb5⟩; have HX := Lib.hid (Pa.new w4 24 X1 X2 _ rfl); have hb6 := below_then (below_one w4 (.cells #[.int .i64 X1, .int .i64 X2] 24)) hb5; have HW := Lib.hid (below_then HW.out hb6); have PA := Lib.hid (PA.out.keep hb6); have PB := Lib.hid (PB.out.keep hb6); clear hb6 pa0 pa1 pb0 pb1 la lb; have pa0 := PA.out.2.1; have pa1 := PA.out.2.2; have pb0 := PB.out.2.1; have pb1 := PB.out.2.2; have la := PA.out.1; have lb := PB.out.1; have PX := Lib.hid (HX.out.keep hb5); clear hb5; have px0 := PX.out.2.1; have px1 := PX.out.2.2; have lx := PX.out.1))
        go_ret
        exact ⟨rfl, HW.out.trans (Joins.below_le (below_one _ _) HW.out.size)⟩
  · clear gz gn
    have HN2 := Lib.hid (HN.out rfl)
    clear HN
    cases ok
    · clear ge gf
      rcases h1 with ⟨rfl, rfl⟩ | ⟨rfl, rfl, rfl⟩ | ⟨rfl, rfl, rfl, rfl⟩ | ⟨rfl, rfl, rfl, rfl⟩
      all_goals
        go_enter Try.func6, Try.ntmps6
        go_wp2_with (first
          | (go_at_call 9; refine (awake_any _).mono ?_; rintro e w1 ⟨rfl, hb1⟩; have HW := Lib.hid (below_then HW.out hb1); have PA := Lib.hid (PA.out.keep hb1); have PB := Lib.hid (PB.out.keep hb1); clear hb1 pa0 pa1 pb0 pb1 la lb; have pa0 := PA.out.2.1; have pa1 := PA.out.2.2; have pb0 := PB.out.2.1; have pb1 := PB.out.2.2; have la := PA.out.1; have lb := PB.out.1)
          | (go_at_call 24; (with_reducible refine (addr_is t p a HA.out _).mono ?_); rintro e w2 ⟨rfl, hb2⟩; have HW := Lib.hid (below_then HW.out hb2); have PA := Lib.hid (PA.out.keep hb2); have PB := Lib.hid (PB.out.keep hb2); clear hb2 pa0 pa1 pb0 pb1 la lb; have pa0 := PA.out.2.1; have pa1 := PA.out.2.2; have pb0 := PB.out.2.1; have pb1 := PB.out.2.2; have la := PA.out.1; have lb := PB.out.1)
          | (go_at_call 24; (with_reducible refine (addr_is t' p' b HB.out _).mono ?_); rintro e w3 ⟨rfl, hb3⟩; have HW := Lib.hid (below_then HW.out hb3); have PA := Lib.hid (PA.out.keep hb3); have PB := Lib.hid (PB.out.keep hb3); clear hb3 pa0 pa1 pb0 pb1 la lb; have pa0 := PA.out.2.1; have pa1 := PA.out.2.2; have pb0 := PB.out.2.1; have pb1 := PB.out.2.2; have la := PA.out.1; have lb := PB.out.1)
          | (go_at_call 19; (with_reducible refine (at_is a X1 X2 _ HAM.out HOK.out HX1.out HX2.out _).mono ?_); rintro e w4 ⟨rfl, hb4⟩; have HW := Lib.hid (below_then HW.out hb4); have PA := Lib.hid (PA.out.keep hb4); have PB := Lib.hid (PB.out.keep hb4); clear hb4 pa0 pa1 pb0 pb1 la lb; have pa0 := PA.out.2.1; have pa1 := PA.out.2.2; have pb0 := PB.out.2.1; have pb1 := PB.out.2.2; have la := PA.out.1; have lb := PB.out.1)
          | (go_at_call 19; (with_reducible refine (at_is n Y1 Y2 _ HNM.out HIS.out HY1.out HY2.out _).mono ?_); rintro e w5 ⟨rfl, hb5⟩; have HX := Lib.hid (Pa.new w4 24 X1 X2 _ rfl); have hb6 := below_then (below_one w4 (.cells #[.int .i64 X1, .int .i64 X2] 24)) hb5; have HW := Lib.hid (below_then HW.out hb6); have PA := Lib.hid (PA.out.keep hb6); have PB := Lib.hid (PB.out.keep hb6); clear hb6 pa0 pa1 pb0 pb1 la lb; have pa0 := PA.out.2.1; have pa1 := PA.out.2.2; have pb0 := PB.out.2.1; have pb1 := PB.out.2.2; have la := PA.out.1; have lb := PB.out.1; have PX := Lib.hid (HX.out.keep hb5); clear hb5; have px0 := PX.out.2.1; have px1 := PX.out.2.2; have lx := PX.out.1)
          | (go_at_call 24; (with_reducible refine (addr_is Y1 Y2 n HN2.out _).mono ?_); rintro e w6 ⟨rfl, hb6⟩; have hb7 := below_then (below_one w5 (.cells #[.int .i64 Y1, .int .i64 Y2] 24)) hb6; have HW := Lib.hid (below_then HW.out hb7); have PA := Lib.hid (PA.out.keep hb7); have PB := Lib.hid (PB.out.keep hb7); clear hb7 pa0 pa1 pb0 pb1 la lb; have pa0 := PA.out.2.1; have pa1 := PA.out.2.2; have pb0 := PB.out.2.1; have pb1 := PB.out.2.2; have la := PA.out.1; have lb := PB.out.1))
        go_ret
        exact ⟨rfl, HW.out⟩
    · replace ge := ge rfl
      replace gf := gf rfl
      rcases h1 with ⟨rfl, rfl⟩ | ⟨rfl, rfl, rfl⟩ | ⟨rfl, rfl, rfl, rfl⟩ | ⟨rfl, rfl, rfl, rfl⟩
      all_goals obtain g9 | ⟨g9, rfl⟩ := gf2 _ _ _ gf
      all_goals
        clear gf
        go_enter Try.func6, Try.ntmps6
        go_wp2_with (first
          | (go_at_call 9; refine (awake_any _).mono ?_; rintro e w1 ⟨rfl, hb1⟩; have HW := Lib.hid (below_then HW.out hb1); have PA := Lib.hid (PA.out.keep hb1); have PB := Lib.hid (PB.out.keep hb1); clear hb1 pa0 pa1 pb0 pb1 la lb; have pa0 := PA.out.2.1; have pa1 := PA.out.2.2; have pb0 := PB.out.2.1; have pb1 := PB.out.2.2; have la := PA.out.1; have lb := PB.out.1)
          | (go_at_call 24; (with_reducible refine (addr_is t p a HA.out _).mono ?_); rintro e w2 ⟨rfl, hb2⟩; have HW := Lib.hid (below_then HW.out hb2); have PA := Lib.hid (PA.out.keep hb2); have PB := Lib.hid (PB.out.keep hb2); clear hb2 pa0 pa1 pb0 pb1 la lb; have pa0 := PA.out.2.1; have pa1 := PA.out.2.2; have pb0 := PB.out.2.1; have pb1 := PB.out.2.2; have la := PA.out.1; have lb := PB.out.1)
          | (go_at_call 24; (with_reducible refine (addr_is t' p' b HB.out _).mono ?_); rintro e w3 ⟨rfl, hb3⟩; have HW := Lib.hid (below_then HW.out hb3); have PA := Lib.hid (PA.out.keep hb3); have PB := Lib.hid (PB.out.keep hb3); clear hb3 pa0 pa1 pb0 pb1 la lb; have pa0 := PA.out.2.1; have pa1 := PA.out.2.2; have pb0 := PB.out.2.1; have pb1 := PB.out.2.2; have la := PA.out.1; have lb := PB.out.1)
          | (go_at_call 19; (with_reducible refine (at_is a X1 X2 _ HAM.out HOK.out HX1.out HX2.out _).mono ?_); rintro e w4 ⟨rfl, hb4⟩; have HW := Lib.hid (below_then HW.out hb4); have PA := Lib.hid (PA.out.keep hb4); have PB := Lib.hid (PB.out.keep hb4); clear hb4 pa0 pa1 pb0 pb1 la lb; have pa0 := PA.out.2.1; have pa1 := PA.out.2.2; have pb0 := PB.out.2.1; have pb1 := PB.out.2.2; have la := PA.out.1; have lb := PB.out.1)
          | (go_at_call 19; (with_reducible refine (at_is n Y1 Y2 _ HNM.out HIS.out HY1.out HY2.out _).mono ?_); rintro e w5 ⟨rfl, hb5⟩; have HX := Lib.hid (Pa.new w4 24 X1 X2 _ rfl); have hb6 := below_then (below_one w4 (.cells #[.int .i64 X1, .int .i64 X2] 24)) hb5; have HW := Lib.hid (below_then HW.out hb6); have PA := Lib.hid (PA.out.keep hb6); have PB := Lib.hid (PB.out.keep hb6); clear hb6 pa0 pa1 pb0 pb1 la lb; have pa0 := PA.out.2.1; have pa1 := PA.out.2.2; have pb0 := PB.out.2.1; have pb1 := PB.out.2.2; have la := PA.out.1; have lb := PB.out.1; have PX := Lib.hid (HX.out.keep hb5); clear hb5; have px0 := PX.out.2.1; have px1 := PX.out.2.2; have lx := PX.out.1)
          | (go_at_call 24; (with_reducible refine (addr_is Y1 Y2 n HN2.out _).mono ?_); rintro e w6 ⟨rfl, hb6⟩; have hb7 := below_then (below_one w5 (.cells #[.int .i64 Y1, .int .i64 Y2] 24)) hb6; have HW := Lib.hid (below_then HW.out hb7); have PA := Lib.hid (PA.out.keep hb7); have PB := Lib.hid (PB.out.keep hb7); clear hb7 pa0 pa1 pb0 pb1 la lb; have pa0 := PA.out.2.1; have pa1 := PA.out.2.2; have pb0 := PB.out.2.1; have pb1 := PB.out.2.2; have la := PA.out.1; have lb := PB.out.1))
        go_ret
        exact ⟨rfl, HW.out⟩
theorem places_any (t p t' p' n : Int) (w : World) (hn : n ≤ 9223372036854775807) :
    Calls Try.prog 6 #[.agg #[.int .i64 t, .int .i64 p], .agg #[.int .i64 t', .int .i64 p'], .int .i64 n] w fun e w' => e = .returned (.bool true) ∧ Below w.heap.size w w' := by
  refine places_core t p t' p' n (dP t p) (dP t' p') (dT (dP t p)) (dQ (dP t p)) (dT n) (dQ n) (decide (0 ≤ dP t p)) (dOk n) (decide (t' < t)) (t == t') (decide (p' < p)) (decide (dP t' p' < dP t p)) w
    (Lib.hid rfl) (Lib.hid rfl) (Lib.hid ?_) (Lib.hid hn) (Lib.hid (dOk_dP t p)) (Lib.hid rfl) (Lib.hid rfl) (Lib.hid rfl) (Lib.hid rfl) (Lib.hid rfl) (Lib.hid fun h => dP_dT h) rfl rfl rfl rfl ?_ rfl ?_ ?_ ?_ ?_
  · unfold dP; split <;> omega
  · by_cases h : 0 ≤ dP t p
    · rw [decide_eq_true h, decide_eq_false (by omega : ¬ dP t p < 0)]; rfl
    · rw [decide_eq_false h, decide_eq_true (by omega : dP t p < 0)]; rfl
  · intro h
    have := dT_dP (t := t) (p := p) (by simpa using h)
    rw [this.1, this.2]; simp
  · intro h
    unfold dT dQ
    rw [h]; rfl
  · cases h : dOk n
    · unfold dOk at h
      simp at h ⊢
      omega
    · rfl
  · intro h
    simp only [decide_eq_true_eq] at h
    by_cases h1 : 0 ≤ t ∧ t ≤ 1000000 ∧ 0 ≤ p ∧ p < 4096
    · by_cases h2 : 0 ≤ t' ∧ t' ≤ 1000000 ∧ 0 ≤ p' ∧ p' < 4096
      · rw [dP_yes h1, dP_yes h2]
        by_cases h3 : t' < t
        · rw [decide_eq_true h3, decide_eq_true (by omega : t' * 4096 + p' < t * 4096 + p)]; simp
        · by_cases h4 : t = t'
          · subst h4
            by_cases h5 : p' < p
            · rw [decide_eq_true h5, decide_eq_true (by omega : t * 4096 + p' < t * 4096 + p)]; simp
            · rw [decide_eq_false h5, decide_eq_false (by omega : ¬ t * 4096 + p' < t * 4096 + p)]; simp
          · rw [decide_eq_false h3, decide_eq_false (by omega : ¬ t' * 4096 + p' < t * 4096 + p), beq_eq_false_iff_ne.2 h4]; simp
      · rw [dP_no h2]; rfl
    · rw [dP_no h1] at h; omega
end Go.Proofs.Ytkpomphjicoaeaa
