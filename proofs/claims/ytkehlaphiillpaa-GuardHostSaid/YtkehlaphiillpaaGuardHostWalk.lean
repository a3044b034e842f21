/-
  GuardHost walked: the host may all that is there; whoever may not read may not write.
-/
import Derived.Test.YtkehlaphiillpaaGuardCalls
namespace Go.Proofs.Ytkehlaphiillpaa
open Go.RowKit

theorem gM_host (lib : Bool) (a n : Int) (wr : Bool) : gM (-1) lib a n wr = gIn a n := by unfold gM; simp
set_option maxHeartbeats 4000000 in
theorem host_core (a n t : Int) (lib q1 q2 i : Bool) (w : World) (ab : a ≤ 9223372036854775807) (H1 : Hid (gM t lib a n false = q1)) (H2 : Hid (gM t lib a n true = q2)) (H3 : Hid (gM (-1) false a n true = i)) (H4 : Hid (gM (-1) false a n false = i))
    (hi : (i = true ∧ 0 ≤ n ∧ 0 ≤ a ∧ a ≤ 5120 ∧ n ≤ 5120 - a) ∨ (i = false ∧ q1 = false ∧ q2 = false ∧ n < 0) ∨ (i = false ∧ q1 = false ∧ q2 = false ∧ 0 ≤ n ∧ a < 0) ∨ (i = false ∧ q1 = false ∧ q2 = false ∧ 0 ≤ n ∧ 0 ≤ a ∧ 5120 < a) ∨ (i = false ∧ q1 = false ∧ q2 = false ∧ 0 ≤ n ∧ 0 ≤ a ∧ a ≤ 5120 ∧ ¬ n ≤ 5120 - a))
    (hq : q1 = true ∨ q2 = false) :
    Calls Try.prog 7 #[.int .i64 a, .int .i64 n, .agg #[.int .i64 t, .bool lib]] w fun e w' => e = .returned (.bool true) ∧ Below w.heap.size w w' := by
  have HX := Lib.hid (Wh.new w 24 t lib)
  have HB := Lib.hid (below_one w (.cells #[.int .i64 t, .bool lib] 24))
  have c0 := HX.out.c0
  have c1 := HX.out.c1
  have lt := HX.out.lt
  rcases hi with ⟨rfl, g1, g2, g3, g4⟩ | ⟨rfl, rfl, rfl, g1⟩ | ⟨rfl, rfl, rfl, g1, g2⟩ | ⟨rfl, rfl, rfl, g1, g2, g3⟩ | ⟨rfl, rfl, rfl, g1, g2, g3, g4⟩
  case' inl => rcases hq with rfl | rfl
  case' inl.inl => cases q2
  case' inl.inr => cases q1
  all_goals
    first
      | (have hw1 : wrap64 (5120 - a) = 5120 - a := by unfold wrap64; omega)
      | skip
    first
      | (have hd1 : decide (n ≤ 5120 - a) = false := decide_eq_false (by omega))
      | skip
    go_enter Try.func7, Try.ntmps7
    go_upto_region 3 with (first
      | (go_at_call 9; (with_reducible refine (awake_any _).mono ?_); rintro e we ⟨rfl, hb⟩; have HX := Lib.hid (HX.out.keep hb); have HB := Lib.hid (below_then HB.out hb); clear hb; clear c0 c1 lt; have c0 := HX.out.c0; have c1 := HX.out.c1; have lt := HX.out.lt))
    have HY := Lib.hid (Wh.new we 33 (-1) false)
    have HX := Lib.hid (HX.out.keep (below_one we (.cells #[.int .i64 (-1), .bool false] 33)))
    have HB := Lib.hid (below_then HB.out (below_one we (.cells #[.int .i64 (-1), .bool false] 33)))
    clear c0 c1 lt
    have c0 := HX.out.c0
    have c1 := HX.out.c1
    have lt := HX.out.lt
    have d0 := HY.out.c0
    have d1 := HY.out.c1
    have ld := HY.out.lt
    go_wp2_with (first
      | (go_at_call 15; (with_reducible refine (ours_is _ _ _).mono ?_); rintro e we ⟨rfl, hb⟩; have HX := Lib.hid (HX.out.keep hb); have HY := Lib.hid (HY.out.keep hb); have HB := Lib.hid (below_then HB.out hb); clear hb; clear c0 c1 lt d0 d1 ld; have c0 := HX.out.c0; have c1 := HX.out.c1; have lt := HX.out.lt; have d0 := HY.out.c0; have d1 := HY.out.c1; have ld := HY.out.lt)
      | (go_at_call 19; (with_reducible refine (may_is t lib a n false _ ab H1.out _).mono ?_); rintro e we ⟨rfl, hb⟩; have HX := Lib.hid (HX.out.keep hb); have HY := Lib.hid (HY.out.keep hb); have HB := Lib.hid (below_then HB.out hb); clear hb; clear c0 c1 lt d0 d1 ld; have c0 := HX.out.c0; have c1 := HX.out.c1; have lt := HX.out.lt; have d0 := HY.out.c0; have d1 := HY.out.c1; have ld := HY.out.lt)
      | (go_at_call 19; (with_reducible refine (may_is t lib a n true _ ab H2.out _).mono ?_); rintro e we ⟨rfl, hb⟩; have HX := Lib.hid (HX.out.keep hb); have HY := Lib.hid (HY.out.keep hb); have HB := Lib.hid (below_then HB.out hb); clear hb; clear c0 c1 lt d0 d1 ld; have c0 := HX.out.c0; have c1 := HX.out.c1; have lt := HX.out.lt; have d0 := HY.out.c0; have d1 := HY.out.c1; have ld := HY.out.lt)
      | (go_at_call 19; (with_reducible refine (may_is (-1) false a n true _ ab H3.out _).mono ?_); rintro e we ⟨rfl, hb⟩; have HX := Lib.hid (HX.out.keep hb); have HY := Lib.hid (HY.out.keep hb); have HB := Lib.hid (below_then HB.out hb); clear hb; clear c0 c1 lt d0 d1 ld; have c0 := HX.out.c0; have c1 := HX.out.c1; have lt := HX.out.lt; have d0 := HY.out.c0; have d1 := HY.out.c1; have ld := HY.out.lt)
      | (go_at_call 19; (with_reducible refine (may_is (-1) false a n false _ ab H4.out _).mono ?_); rintro e we ⟨rfl, hb⟩; have HX := Lib.hid (HX.out.keep hb); have HY := Lib.hid (HY.out.keep hb); have HB := Lib.hid (below_then HB.out hb); clear hb; clear c0 c1 lt d0 d1 ld; have c0 := HX.out.c0; have c1 := HX.out.c1; have lt := HX.out.lt; have d0 := HY.out.c0; have d1 := HY.out.c1; have ld := HY.out.lt))
    go_ret
    exact ⟨rfl, HB.out⟩
theorem guardHost_any (a n t : Int) (lib : Bool) (w : World) (ab : a ≤ 9223372036854775807) :
    Calls Try.prog 7 #[.int .i64 a, .int .i64 n, .agg #[.int .i64 t, .bool lib]] w fun e w' => e = .returned (.bool true) ∧ Below w.heap.size w w' := by
  refine host_core a n t lib (gM t lib a n false) (gM t lib a n true) (gIn a n) w ab (Lib.hid rfl) (Lib.hid rfl) (Lib.hid (gM_host _ _ _ _)) (Lib.hid (gM_host _ _ _ _)) ?_ ?_
  · cases hg : gIn a n
    · have hin : ¬ (0 ≤ n ∧ 0 ≤ a ∧ n ≤ 5120 - a) := by unfold gIn at hg; exact of_decide_eq_false hg
      have e1 : gM t lib a n false = false := by unfold gM; rw [hg]; rfl
      have e2 : gM t lib a n true = false := by unfold gM; rw [hg]; rfl
      rw [e1, e2]
      by_cases h1 : n < 0
      · exact .inr (.inl ⟨rfl, rfl, rfl, h1⟩)
      · by_cases h2 : a < 0
        · exact .inr (.inr (.inl ⟨rfl, rfl, rfl, by omega, h2⟩))
        · by_cases h3 : 5120 < a
          · exact .inr (.inr (.inr (.inl ⟨rfl, rfl, rfl, by omega, by omega, h3⟩)))
          · exact .inr (.inr (.inr (.inr ⟨rfl, rfl, rfl, by omega, by omega, by omega, by omega⟩)))
    · have hin : 0 ≤ n ∧ 0 ≤ a ∧ n ≤ 5120 - a := by unfold gIn at hg; exact of_decide_eq_true hg
      exact .inl ⟨rfl, by omega, by omega, by omega, by omega⟩
  · cases hg : gM t lib a n true
    · exact .inr rfl
    · exact .inl (gM_read hg)
end Go.Proofs.Ytkehlaphiillpaa
