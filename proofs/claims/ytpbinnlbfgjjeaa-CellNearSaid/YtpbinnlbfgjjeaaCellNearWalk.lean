/-
  The call of the statement CellNear answers true at both cells; the world is as it was but for draws.
-/
import Derived.Test.YtpbinnlbfgjjeaaCellAwake
namespace Go.Proofs.Ytpbinnlbfgjjeaa
open Go.RowKit

theorem ne_1 (n d : Int) (_h0 : 0 ≤ d) (_h1 : d < 16777216) : cIn n n (wrap64 (n + d)) = decide (0 < d) := by
  rw [cIn_is]; unfold wrap64; rw [decide_eq_decide]; omega
theorem ne_2 (n d : Int) : cIn (wrap64 (n + d)) n (wrap64 (n + d)) = false := by
  rw [cIn_is]; simp only [decide_eq_false_iff_not]; omega
theorem ne_3 (n d : Int) (_h0 : 0 < d) (_h1 : d < 16777216) : cIn (wrap64 (wrap64 (n + d) - 1)) n (wrap64 (n + d)) = true := by
  rw [cIn_is]; unfold wrap64; simp only [decide_eq_true_eq]; omega
theorem ne_4 (a d : Int) (_h0 : 0 ≤ d) (_h1 : d < 16777216) (_h2 : 0 ≤ a) (_h3 : a < 1099511627776) : cAl a ≤ cAl (a + d) := by
  rw [cAl_is, cAl_is]; unfold wrap64; omega
theorem ne_5 (a : Int) (_h2 : 0 ≤ a) (_h3 : a < 1099511627776) : cAl (a + 8) = cAl a + 8 := by
  rw [cAl_is, cAl_is]; unfold wrap64; omega
theorem ne_6 (a : Int) (_h2 : 0 ≤ a) (_h3 : a < 1099511627776) : 0 ≤ cAl a ∧ cAl a < 1099511627784 := by
  rw [cAl_is]; unfold wrap64; omega

set_option maxHeartbeats 400000 in
theorem cellNear_none (n by_ a : Int) (w : World) (hn : InC n) (hD : bits .and .i64 by_ 16777215 = 0) (hA : bits .and .i64 n 1099511627775 = a)
    (ha0 : 0 ≤ a) (ha1 : a < 1099511627776) (h1 : cIn n n n = false) (h5 : (cAl (a + 8) == cAl a + 8) = true) (h6 : 0 ≤ cAl a) (h7 : cAl a < 1099511627784) :
    Calls Try.prog 8 #[.int .i64 n, .int .i64 by_] w fun e w' => e = .returned (.bool true) ∧ Grown w w' := by
  obtain ⟨hn0, hn1⟩ := hn
  go_enter Try.func8, Try.ntmps8
  go_wp2_with (first
    | (go_at_call 10; refine (awake_any _).mono ?_; rintro e w' ⟨rfl, k, rfl⟩)
    | (go_at_call 25; refine (aligned_any _ _).mono ?_; rintro e w' ⟨rfl, rfl⟩)
    | (go_at_call 23; refine (within_any _ _ _ _).mono ?_; rintro e w' ⟨rfl, rfl⟩))
  go_ret
  exact ⟨rfl, grown_drewN _ _⟩
set_option maxHeartbeats 400000 in
theorem cellNear_some (n by_ a d : Int) (w : World) (hD : bits .and .i64 by_ 16777215 = d) (hA : bits .and .i64 n 1099511627775 = a)
    (ha0 : 0 ≤ a) (ha1 : a < 1099511627776) (hd0 : 0 < d) (hd1 : d < 16777216) (h1 : cIn n n (wrap64 (n + d)) = true) (h2 : cIn (wrap64 (n + d)) n (wrap64 (n + d)) = false)
    (h3 : cIn (wrap64 (wrap64 (n + d) - 1)) n (wrap64 (n + d)) = true) (h4 : cAl a ≤ cAl (a + d))
    (h5 : (cAl (a + 8) == cAl a + 8) = true) (h6 : 0 ≤ cAl a) (h7 : cAl a < 1099511627784) :
    Calls Try.prog 8 #[.int .i64 n, .int .i64 by_] w fun e w' => e = .returned (.bool true) ∧ Grown w w' := by
  go_enter Try.func8, Try.ntmps8
  go_wp2_with (first
    | (go_at_call 10; refine (awake_any _).mono ?_; rintro e w' ⟨rfl, k, rfl⟩)
    | (go_at_call 25; refine (aligned_any _ _).mono ?_; rintro e w' ⟨rfl, rfl⟩)
    | (go_at_call 23; refine (within_any _ _ _ _).mono ?_; rintro e w' ⟨rfl, rfl⟩))
  go_ret
  exact ⟨rfl, grown_drewN _ _⟩
theorem cellNear_walk (n by_ : Int) (hn : InC n) (_hb : InC by_) (w : World) :
    Calls Try.prog 8 #[.int .i64 n, .int .i64 by_] w fun e w' => e = .returned (.bool true) ∧ Grown w w' := by
  have hA := and40 n
  have hD := and24 by_
  have ha0 : 0 ≤ n % 1099511627776 := by omega
  have ha1 : n % 1099511627776 < 1099511627776 := by omega
  obtain ⟨h6, h7⟩ := ne_6 _ ha0 ha1
  have h5 := ne_5 _ ha0 ha1
  by_cases hd : by_ % 16777216 = 0
  · exact cellNear_none n by_ _ w hn (by rw [hD, hd]) hA ha0 ha1 (by rw [cIn_is]; simp) (by simpa using h5) h6 h7
  · have hd0 : 0 < by_ % 16777216 := by omega
    have hd1 : by_ % 16777216 < 16777216 := by omega
    exact cellNear_some n by_ _ _ w hD hA ha0 ha1 hd0 hd1 (by rw [ne_1 n _ (by omega) hd1]; simpa using hd0) (ne_2 _ _) (ne_3 _ _ hd0 hd1) (ne_4 _ _ (by omega) hd1 ha0 ha1) (by simpa using h5) h6 h7
end Go.Proofs.Ytpbinnlbfgjjeaa
