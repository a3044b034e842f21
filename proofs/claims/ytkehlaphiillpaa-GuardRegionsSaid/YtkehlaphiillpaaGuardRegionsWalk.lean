/-
  GuardRegions walked: each place is of one region, in a row; within the library the heap may be written, and nothing more.
-/
import Derived.Test.YtkehlaphiillpaaGuardCalls
namespace Go.Proofs.Ytkehlaphiillpaa
open Go.RowKit

set_option maxHeartbeats 4000000 in
theorem regions_core (a task s p k t x y : Int) (q1 q2 q3 : Bool) (w : World) (ha : InC a) (hpi : InC p) (hs : bits .and .i64 task 7 = s) (hp : wrap64 (a + 1) = p)
    (HK : Hid (gK a = k)) (HT : Hid (gT a = t)) (HX : Hid (gK p = x)) (HY : Hid (gT p = y)) (H1 : Hid (gM s false a 1 true = q1)) (H2 : Hid (gM s true a 1 true = q2)) (H3 : Hid (gM s false a 1 false = q3))
    (hc : (a < 0 ∧ k = -1 ∧ t = -1 ∧ q1 = false ∧ q2 = false ∧ q3 = false) ∨ (¬ a < 0 ∧ 5120 ≤ a ∧ k = -1 ∧ t = -1 ∧ q1 = false ∧ q2 = false ∧ q3 = false) ∨
      (0 ≤ a ∧ a < 5119 ∧ a + 1 = p ∧ k = 0 ∧ t = -1 ∧ q1 = false ∧ q2 = false ∧ q3 = true ∧ ¬ x < 0) ∨ (0 ≤ a ∧ a < 5119 ∧ a + 1 = p ∧ k = 1 ∧ t = -1 ∧ q1 = false ∧ q2 = true ∧ q3 = false ∧ ¬ x < 1) ∨
      (0 ≤ a ∧ a < 5119 ∧ a + 1 = p ∧ k = 2 ∧ (t == s) = q1 ∧ q2 = q1 ∧ q3 = q1 ∧ ¬ x < 2 ∧ ¬ y < t) ∨ (0 ≤ a ∧ a < 5120 ∧ a + 1 = p ∧ 5120 ≤ p ∧ k = 2 ∧ (t == s) = q1 ∧ q2 = q1 ∧ q3 = q1)) :
    Calls Try.prog 8 #[.int .i64 a, .int .i64 task] w fun e w' => e = .returned (.bool true) ∧ Below w.heap.size w w' := by
  have ha2 : a ≤ 9223372036854775807 := ha.2
  rcases hc with ⟨h1, rfl, rfl, rfl, rfl, rfl⟩ | ⟨h1, h2, rfl, rfl, rfl, rfl, rfl⟩ | ⟨h1, h2, hp2, rfl, rfl, rfl, rfl, rfl, h3⟩ | ⟨h1, h2, hp2, rfl, rfl, rfl, rfl, rfl, h3⟩ | ⟨h1, h2, hp2, rfl, h0, rfl, rfl, h3, h4⟩ | ⟨h1, h2, hp2, hp3, rfl, h0, rfl, rfl⟩
  case' inr.inr.inr.inr.inl => cases q3
  case' inr.inr.inr.inr.inr => cases q3
  all_goals
    go_enter Try.func8, Try.ntmps8
    go_upto_region 6 with (first
      | (go_at_call 9; refine (awake_any _).mono ?_; rintro e w1 ⟨rfl, hb1⟩; have HB := Lib.hid hb1; clear hb1)
      | (go_at_call 12; (with_reducible refine (region_is a _ _ ha HK.out HT.out _).mono ?_); rintro e w2 ⟨rfl, hb2⟩; have HB2 := Lib.hid (below_then HB.out hb2); clear hb2)
      | (go_at_call 12; (with_reducible refine (region_is p _ _ hpi HX.out HY.out _).mono ?_); rintro e w3 ⟨rfl, hb3⟩; have HB3 := Lib.hid (below_then HB2.out hb3); clear hb3))
    have XV := Lib.hid ((Wh.new w3 33 s false).keep (below_one _ (.cells #[.int .i64 s, .bool true] 33)))
    have XL := Lib.hid (Wh.new (w3.alloc (.cells #[.int .i64 s, .bool false] 33)) 33 s true)
    have HB4 := Lib.hid (below_then HB3.out (two_new w3 (.cells #[.int .i64 s, .bool false] 33) (.cells #[.int .i64 s, .bool true] 33)))
    rw [World.size_alloc] at XL
    generalize (w3.alloc (.cells #[.int .i64 s, .bool false] 33)).alloc (.cells #[.int .i64 s, .bool true] 33) = w4 at *
    have c0 := XV.out.c0
    have c1 := XV.out.c1
    have lc := XV.out.lt
    have d0 := XL.out.c0
    have d1 := XL.out.c1
    have ld := XL.out.lt
    go_wp2_with (first
      | (go_at_call 19; (with_reducible refine (may_is s false a 1 true _ ha2 H1.out _).mono ?_); rintro e w5 ⟨rfl, hb5⟩; have HB5 := Lib.hid (below_then HB4.out hb5); have XV := Lib.hid (XV.out.keep hb5); have XL := Lib.hid (XL.out.keep hb5); clear hb5 c0 c1 lc d0 d1 ld; have c0 := XV.out.c0; have c1 := XV.out.c1; have lc := XV.out.lt; have d0 := XL.out.c0; have d1 := XL.out.c1; have ld := XL.out.lt)
      | (go_at_call 19; (with_reducible refine (may_is s true a 1 true _ ha2 H2.out _).mono ?_); rintro e w6 ⟨rfl, hb6⟩; have HB6 := Lib.hid (below_then HB5.out hb6); have XV := Lib.hid (XV.out.keep hb6); have XL := Lib.hid (XL.out.keep hb6); clear hb6 c0 c1 lc d0 d1 ld; have c0 := XV.out.c0; have c1 := XV.out.c1; have lc := XV.out.lt; have d0 := XL.out.c0; have d1 := XL.out.c1; have ld := XL.out.lt)
      | (go_at_call 19; (with_reducible refine (may_is s false a 1 false _ ha2 H3.out _).mono ?_); rintro e w7 ⟨rfl, hb7⟩; have HB7 := Lib.hid (below_then HB6.out hb7); clear hb7 c0 c1 lc d0 d1 ld))
    go_ret
    exact ⟨rfl, HB7.out⟩
theorem guardRegions_any (a task : Int) (w : World) (ha : InC a) :
    Calls Try.prog 8 #[.int .i64 a, .int .i64 task] w fun e w' => e = .returned (.bool true) ∧ Below w.heap.size w w' := by
  obtain ⟨s, hs⟩ : ∃ s, bits .and .i64 task 7 = s := ⟨_, rfl⟩
  obtain ⟨p, hp⟩ : ∃ p, wrap64 (a + 1) = p := ⟨_, rfl⟩
  have hsi : 0 ≤ s ∧ s < 8 := by rw [← hs, and7]; omega
  have hsb : (s == -1) = false := by rw [beq_eq_false_iff_ne]; omega
  refine regions_core a task s p _ _ _ _ _ _ _ w ha (hp ▸ wrap64_in _) hs hp (Lib.hid rfl) (Lib.hid rfl) (Lib.hid rfl) (Lib.hid rfl) (Lib.hid rfl) (Lib.hid rfl) (Lib.hid rfl) ?_
  unfold InC at ha
  rcases gK_cases a with ⟨e1, e2, h⟩ | ⟨e1, e2, h1, h2⟩ | ⟨e1, e2, h1, h2⟩ | ⟨e1, e2, h1, h2⟩
  · have hno : ¬ (0 ≤ a ∧ a < 5120) := by omega
    rw [e1, e2, gM_out hno, gM_out hno, gM_out hno]
    by_cases h0 : a < 0
    · exact .inl ⟨h0, rfl, rfl, rfl, rfl, rfl⟩
    · exact .inr (.inl ⟨h0, by omega, rfl, rfl, rfl, rfl, rfl⟩)
  · have hp2 : a + 1 = p := by rw [← hp]; unfold wrap64; omega
    rw [e1, e2, gM_one _ _ _ _ (by omega), gM_one _ _ _ _ (by omega), gM_one _ _ _ _ (by omega), gB_data h1 h2, gB_data h1 h2, gB_data h1 h2, hsb]
    refine .inr (.inr (.inl ⟨h1, by omega, hp2, rfl, rfl, rfl, rfl, rfl, ?_⟩))
    rcases gK_cases p with ⟨f1, f2, g⟩ | ⟨f1, f2, g1, g2⟩ | ⟨f1, f2, g1, g2⟩ | ⟨f1, f2, g1, g2⟩ <;> omega
  · have hp2 : a + 1 = p := by rw [← hp]; unfold wrap64; omega
    rw [e1, e2, gM_one _ _ _ _ (by omega), gM_one _ _ _ _ (by omega), gM_one _ _ _ _ (by omega), gB_heap h1 h2, gB_heap h1 h2, gB_heap h1 h2, hsb]
    refine .inr (.inr (.inr (.inl ⟨by omega, by omega, hp2, rfl, rfl, rfl, rfl, rfl, ?_⟩)))
    rcases gK_cases p with ⟨f1, f2, g⟩ | ⟨f1, f2, g1, g2⟩ | ⟨f1, f2, g1, g2⟩ | ⟨f1, f2, g1, g2⟩ <;> omega
  · have hp2 : a + 1 = p := by rw [← hp]; unfold wrap64; omega
    rw [e1, e2, gM_one _ _ _ _ (by omega), gM_one _ _ _ _ (by omega), gM_one _ _ _ _ (by omega), gB_user h1 h2, gB_user h1 h2, gB_user h1 h2, hsb, Bool.false_or]
    by_cases h9 : a < 5119
    · refine .inr (.inr (.inr (.inr (.inl ⟨by omega, h9, hp2, rfl, rfl, rfl, rfl, ?_, ?_⟩))))
      · rcases gK_cases p with ⟨f1, f2, g⟩ | ⟨f1, f2, g1, g2⟩ | ⟨f1, f2, g1, g2⟩ | ⟨f1, f2, g1, g2⟩ <;> omega
      · rcases gK_cases p with ⟨f1, f2, g⟩ | ⟨f1, f2, g1, g2⟩ | ⟨f1, f2, g1, g2⟩ | ⟨f1, f2, g1, g2⟩ <;> omega
    · exact .inr (.inr (.inr (.inr (.inr ⟨by omega, by omega, hp2, by omega, rfl, rfl, rfl, rfl⟩))))
end Go.Proofs.Ytkehlaphiillpaa
