/-
  GuardParts walked: bytes may be touched if each of them may.
-/
import Derived.Test.YtkehlaphiillpaaGuardCalls
import Derived.Test.YtkehlaphiillpaaMemMath
namespace Go.Proofs.Ytkehlaphiillpaa
open Go.RowKit

set_option maxHeartbeats 4000000 in
theorem parts_out (t a n k : Int) (lib wr : Bool) (w : World) (h : a < 0 ∨ (¬ a < 0 ∧ 6000 < a) ∨ (¬ a < 0 ∧ ¬ 6000 < a ∧ n < 0) ∨ (¬ a < 0 ∧ ¬ 6000 < a ∧ ¬ n < 0 ∧ 6000 < n) ∨ (¬ a < 0 ∧ ¬ 6000 < a ∧ t = -1 ∧ n = 0)) :
    Calls Try.prog 5 #[.agg #[.int .i64 t, .bool lib], .int .i64 a, .int .i64 n, .int .i64 k, .bool wr] w fun e w' => e = .returned (.bool true) ∧ Below w.heap.size w w' := by
  have HX := Lib.hid (Wh.new w 24 t lib)
  have HB := Lib.hid (below_one w (.cells #[.int .i64 t, .bool lib] 24))
  have c0 := HX.out.c0
  have c1 := HX.out.c1
  have lt := HX.out.lt
  rcases h with h1 | ⟨h1, h2⟩ | ⟨h1, h2, h3⟩ | ⟨h1, h2, h3, h4⟩ | ⟨h1, h2, rfl, rfl⟩
  all_goals
    go_enter Try.func5, Try.ntmps5
    go_wp2_with (go_at_call 9; (with_reducible refine (awake_any _).mono ?_); rintro e we ⟨rfl, hb⟩; have HX := Lib.hid (HX.out.keep hb); have HB := Lib.hid (below_then HB.out hb); clear hb; clear c0 c1 lt; have c0 := HX.out.c0; have c1 := HX.out.c1; have lt := HX.out.lt)
    go_ret
    exact ⟨rfl, HB.out⟩
set_option maxHeartbeats 4000000 in
theorem parts_core (t a n k i p q : Int) (lib wr fa fb fd fe : Bool) (w : World) (h1 : ¬ a < 0) (h2 : ¬ 6000 < a) (h3 : ¬ n < 0) (h4 : ¬ 6000 < n) (h5 : (t == -1) = false ∨ ((t == -1) = true ∧ (n == 0) = false))
    (hm : (bits .and .i64 k 65535).tmod (n + 1) = i) (hp : a + i = p) (hq : n - i = q) (hi : 0 ≤ i ∧ i ≤ n) (hpb : p ≤ 9223372036854775807)
    (H1 : Hid (gM t lib a i wr = fa)) (H2 : Hid (gM t lib p q wr = fb)) (H3 : Hid (gM t lib a n wr = (fa && fb))) (H4 : Hid (gM t lib a n false = fd)) (H5 : Hid (gM t true a n wr = fe))
    (hd : (fa && fb) = true → fd = true) (he : (fa && fb) = true → fe = true) :
    Calls Try.prog 5 #[.agg #[.int .i64 t, .bool lib], .int .i64 a, .int .i64 n, .int .i64 k, .bool wr] w fun e w' => e = .returned (.bool true) ∧ Below w.heap.size w w' := by
  have HX := Lib.hid (Wh.new w 24 t lib)
  have HB := Lib.hid (below_one w (.cells #[.int .i64 t, .bool lib] 24))
  have c0 := HX.out.c0
  have c1 := HX.out.c1
  have lt := HX.out.lt
  have ab : a ≤ 9223372036854775807 := by omega
  have hw1 : wrap64 (n + 1) = n + 1 := by unfold wrap64; omega
  have hz1 : (n + 1 == 0) = false := by rw [beq_eq_false_iff_ne]; omega
  have hm2 : IntKind.i64.wrap ((bits .and .i64 k 65535).tmod (n + 1)) = i := by rw [IntKind.wrap_i64, hm]; omega
  have hp1 : wrap64 (a + i) = p := by unfold wrap64; omega
  have hq1 : wrap64 (n - i) = q := by unfold wrap64; omega
  have hp2 : wrap64 p = p := by unfold wrap64; omega
  have hq2 : wrap64 q = q := by unfold wrap64; omega
  have HI := Lib.hid hi
  clear hi
  have H3a := H3.out
  clear H3
  cases fa
  case' false => cases fb
  case' true => cases fb
  case' true.true => obtain rfl := hd rfl; obtain rfl := he rfl
  all_goals
    have H3 := Lib.hid H3a
    clear H3a
    rcases h5 with h5 | ⟨h5, h6⟩
    all_goals
      cases lib
      all_goals
        go_enter Try.func5, Try.ntmps5
        go_wp2_with (first
          | (go_at_call 9; (with_reducible refine (awake_any _).mono ?_); rintro e we ⟨rfl, hb⟩; have HX := Lib.hid (HX.out.keep hb); have HB := Lib.hid (below_then HB.out hb); clear hb; clear c0 c1 lt; have c0 := HX.out.c0; have c1 := HX.out.c1; have lt := HX.out.lt)
          | (go_at_call 15; (with_reducible refine (ours_is _ _ _).mono ?_); rintro e we ⟨rfl, hb⟩; have HX := Lib.hid (HX.out.keep hb); have HB := Lib.hid (below_then HB.out hb); clear hb; clear c0 c1 lt; have c0 := HX.out.c0; have c1 := HX.out.c1; have lt := HX.out.lt)
          | (go_at_call 19; (with_reducible refine (may_is t _ a i wr _ ab H1.out _).mono ?_); rintro e we ⟨rfl, hb⟩; have HX := Lib.hid (HX.out.keep hb); have HB := Lib.hid (below_then HB.out hb); clear hb; clear c0 c1 lt; have c0 := HX.out.c0; have c1 := HX.out.c1; have lt := HX.out.lt)
          | (go_at_call 19; (with_reducible refine (may_is t _ p q wr _ hpb H2.out _).mono ?_); rintro e we ⟨rfl, hb⟩; have HX := Lib.hid (HX.out.keep hb); have HB := Lib.hid (below_then HB.out hb); clear hb; clear c0 c1 lt; have c0 := HX.out.c0; have c1 := HX.out.c1; have lt := HX.out.lt)
          | (go_at_call 19; (with_reducible refine (may_is t _ a n wr _ ab H3.out _).mono ?_); rintro e we ⟨rfl, hb⟩; have HX := Lib.hid (HX.out.keep hb); have HB := Lib.hid (below_then HB.out hb); clear hb; clear c0 c1 lt; have c0 := HX.out.c0; have c1 := HX.out.c1; have lt := HX.out.lt)
          | (go_at_call 19; (with_reducible refine (may_is t _ a n false _ ab H4.out _).mono ?_); rintro e we ⟨rfl, hb⟩; have HX := Lib.hid (HX.out.keep hb); have HB := Lib.hid (below_then HB.out hb); clear hb; clear c0 c1 lt; have c0 := HX.out.c0; have c1 := HX.out.c1; have lt := HX.out.lt)
          | (go_at_call 19; (with_reducible refine (may_is t true a n wr _ ab H5.out _).mono ?_); rintro e we ⟨rfl, hb⟩; have HX := Lib.hid (HX.out.keep hb); have HB := Lib.hid (below_then HB.out hb); clear hb; clear c0 c1 lt; have c0 := HX.out.c0; have c1 := HX.out.c1; have lt := HX.out.lt))
        go_ret
        exact ⟨rfl, HB.out⟩
theorem guardParts_any (t a n k : Int) (lib wr : Bool) (w : World) :
    Calls Try.prog 5 #[.agg #[.int .i64 t, .bool lib], .int .i64 a, .int .i64 n, .int .i64 k, .bool wr] w fun e w' => e = .returned (.bool true) ∧ Below w.heap.size w w' := by
  by_cases h1 : a < 0
  · exact parts_out t a n k lib wr w (.inl h1)
  by_cases h2 : 6000 < a
  · exact parts_out t a n k lib wr w (.inr (.inl ⟨h1, h2⟩))
  by_cases h3 : n < 0
  · exact parts_out t a n k lib wr w (.inr (.inr (.inl ⟨h1, h2, h3⟩)))
  by_cases h4 : 6000 < n
  · exact parts_out t a n k lib wr w (.inr (.inr (.inr (.inl ⟨h1, h2, h3, h4⟩))))
  by_cases h5 : t = -1 ∧ n = 0
  · exact parts_out t a n k lib wr w (.inr (.inr (.inr (.inr ⟨h1, h2, h5.1, h5.2⟩))))
  have h6 : (t == -1) = false ∨ ((t == -1) = true ∧ (n == 0) = false) := by
    rw [beq_eq_false_iff_ne, beq_eq_false_iff_ne, beq_iff_eq]
    by_cases h : t = -1
    · exact .inr ⟨h, fun g => h5 ⟨h, g⟩⟩
    · exact .inl h
  have hi : 0 ≤ (bits .and .i64 k 65535).tmod (n + 1) ∧ (bits .and .i64 k 65535).tmod (n + 1) ≤ n := by
    rw [and65535, Int.tmod_eq_emod_of_nonneg (by omega)]
    have h0 := Int.emod_nonneg (k % 65536) (b := n + 1) (by omega)
    have h1 := Int.emod_lt_of_pos (k % 65536) (b := n + 1) (by omega)
    exact ⟨h0, by omega⟩
  obtain ⟨i, hm⟩ : ∃ i, (bits .and .i64 k 65535).tmod (n + 1) = i := ⟨_, rfl⟩
  rw [hm] at hi
  refine parts_core t a n k i (a + i) (n - i) lib wr _ _ _ _ w h1 h2 h3 h4 h6 hm rfl rfl hi (by omega) (Lib.hid rfl) (Lib.hid rfl) (Lib.hid (gM_parts t lib a n i wr hi)) (Lib.hid rfl) (Lib.hid rfl) ?_ ?_
  · intro h
    rw [← gM_parts t lib a n i wr hi] at h
    exact gM_read h
  · intro h
    rw [← gM_parts t lib a n i wr hi] at h
    cases lib
    · exact gM_lib h
    · exact h
end Go.Proofs.Ytkehlaphiillpaa
