/-
  OpFinds answers true at all numbers and texts; of what was there nothing has changed.
-/
import Derived.Test.YtlpacdheabcpdaaOpAwake
import Derived.Test.YtlpacdheabcpdaaOpNames
import Derived.Test.YtlpacdheabcpdaaCellMath
namespace Go.Proofs.Ytlpacdheabcpdaa
open Go.RowKit

set_option maxHeartbeats 1000000 in
set_option maxRecDepth 4000 in
theorem opFinds_big (n m : Int) (S : ByteArray) (h : (200 : Int) < (S.size : Int)) (w : World) : Calls Try.prog 4 #[.int .i64 n, .int .i64 m, .string S] w fun e w' => e = .returned (.bool true) ∧ Below w.heap.size w w' := by
  go_enter Try.func4, Try.ntmps4
  go_wp2_with (first
    | (go_at_call 6; refine (awake_any _).mono ?_; rintro e w1 ⟨rfl, hb⟩; have HB := Lib.hid hb; clear hb))
  go_ret
  exact ⟨rfl, HB.out⟩
theorem low_mod (n : Int) : ∃ k : Nat, k < 111 ∧ (bits .and .i64 n 65535).tmod 111 = (k : Int) := by
  have h : bits .and .i64 n 65535 = n % 65536 := bits_and_low 16 (by decide) n
  rw [h, Int.tmod_eq_emod_of_nonneg (by omega)]
  exact ⟨(n % 65536 % 111).toNat, by omega, by omega⟩
/-- A call that answers v, and changes nothing of what was there. -/
def Says (f : FuncId) (args : Array Value) (v : Value) : Prop := ∀ w : World, Calls Try.prog f args w fun e w' => e = .returned v ∧ Below w.heap.size w w'
theorem Says.at_ {f : FuncId} {args : Array Value} {v : Value} (h : Says f args v) (w : World) : Calls Try.prog f args w fun e w' => e = .returned v ∧ Below w.heap.size w w' := h w
set_option maxHeartbeats 1000000 in
set_option maxRecDepth 4000 in
theorem opFinds_psf {n m : Int} {S A U : ByteArray} {a j : Nat}
    (hs : ¬ (200 : Int) < (S.size : Int))
    (ha : (bits .and .i64 n 65535).tmod 111 = (a : Int))
    (hb : (bits .and .i64 m 65535).tmod 111 = (a : Int))
    (h0 : (A.toList == []) = false)
    (NA : Says 11 #[.int .i64 (a : Int)] (.string A)) (HA : Says 17 #[.int .i64 (a : Int)] (.bool false)) (UA : Says 19 #[.string A] (.string A))
    (F1 : Says 7 #[.string A] (.tuple #[.int .i64 (a : Int), .bool true]))
    (F2 : Says 7 #[.string S] (.tuple #[.int .i64 (j : Int), .bool true]))
    (NJ : Says 11 #[.int .i64 (j : Int)] (.string U)) (HJ : Says 17 #[.int .i64 (j : Int)] (.bool false)) (US : Says 19 #[.string S] (.string U)) (w : World) :
    Calls Try.prog 4 #[.int .i64 n, .int .i64 m, .string S] w fun e w' => e = .returned (.bool true) ∧ Below w.heap.size w w' := by
  go_enter Try.func4, Try.ntmps4
  go_wp2_with (first
    | (go_at_call 6; refine (awake_any _).mono ?_; rintro e w1 ⟨rfl, hb⟩; have HB := Lib.hid hb; clear hb)
    | (go_at_call 7; (with_reducible refine (F1.at_ _).mono ?_); rintro e w1 ⟨rfl, hb⟩; have HB := Lib.hid (below_then HB.out hb); clear hb)
    | (go_at_call 7; (with_reducible refine (F2.at_ _).mono ?_); rintro e w1 ⟨rfl, hb⟩; have HB := Lib.hid (below_then HB.out hb); clear hb)
    | (go_at_call 11; (with_reducible refine (NA.at_ _).mono ?_); rintro e w1 ⟨rfl, hb⟩; have HB := Lib.hid (below_then HB.out hb); clear hb)
    | (go_at_call 17; (with_reducible refine (HA.at_ _).mono ?_); rintro e w1 ⟨rfl, hb⟩; have HB := Lib.hid (below_then HB.out hb); clear hb)
    | (go_at_call 19; (with_reducible refine (UA.at_ _).mono ?_); rintro e w1 ⟨rfl, hb⟩; have HB := Lib.hid (below_then HB.out hb); clear hb)
    | (go_at_call 11; (with_reducible refine (NJ.at_ _).mono ?_); rintro e w1 ⟨rfl, hb⟩; have HB := Lib.hid (below_then HB.out hb); clear hb)
    | (go_at_call 17; (with_reducible refine (HJ.at_ _).mono ?_); rintro e w1 ⟨rfl, hb⟩; have HB := Lib.hid (below_then HB.out hb); clear hb)
    | (go_at_call 19; (with_reducible refine (US.at_ _).mono ?_); rintro e w1 ⟨rfl, hb⟩; have HB := Lib.hid (below_then HB.out hb); clear hb))
  go_ret
  exact ⟨rfl, HB.out⟩
set_option maxHeartbeats 1000000 in
set_option maxRecDepth 4000 in
theorem opFinds_psn {n m : Int} {S A : ByteArray} {a : Nat}
    (hs : ¬ (200 : Int) < (S.size : Int))
    (ha : (bits .and .i64 n 65535).tmod 111 = (a : Int))
    (hb : (bits .and .i64 m 65535).tmod 111 = (a : Int))
    (h0 : (A.toList == []) = false)
    (NA : Says 11 #[.int .i64 (a : Int)] (.string A)) (HA : Says 17 #[.int .i64 (a : Int)] (.bool false)) (UA : Says 19 #[.string A] (.string A))
    (F1 : Says 7 #[.string A] (.tuple #[.int .i64 (a : Int), .bool true]))
    (F2 : Says 7 #[.string S] (.tuple #[.int .i64 0, .bool false])) (w : World) :
    Calls Try.prog 4 #[.int .i64 n, .int .i64 m, .string S] w fun e w' => e = .returned (.bool true) ∧ Below w.heap.size w w' := by
  go_enter Try.func4, Try.ntmps4
  go_wp2_with (first
    | (go_at_call 6; refine (awake_any _).mono ?_; rintro e w1 ⟨rfl, hb⟩; have HB := Lib.hid hb; clear hb)
    | (go_at_call 7; (with_reducible refine (F1.at_ _).mono ?_); rintro e w1 ⟨rfl, hb⟩; have HB := Lib.hid (below_then HB.out hb); clear hb)
    | (go_at_call 7; (with_reducible refine (F2.at_ _).mono ?_); rintro e w1 ⟨rfl, hb⟩; have HB := Lib.hid (below_then HB.out hb); clear hb)
    | (go_at_call 11; (with_reducible refine (NA.at_ _).mono ?_); rintro e w1 ⟨rfl, hb⟩; have HB := Lib.hid (below_then HB.out hb); clear hb)
    | (go_at_call 17; (with_reducible refine (HA.at_ _).mono ?_); rintro e w1 ⟨rfl, hb⟩; have HB := Lib.hid (below_then HB.out hb); clear hb)
    | (go_at_call 19; (with_reducible refine (UA.at_ _).mono ?_); rintro e w1 ⟨rfl, hb⟩; have HB := Lib.hid (below_then HB.out hb); clear hb))
  go_ret
  exact ⟨rfl, HB.out⟩
set_option maxHeartbeats 1000000 in
set_option maxRecDepth 4000 in
theorem opFinds_pof {n m : Int} {S A B U : ByteArray} {a b j : Nat}
    (hs : ¬ (200 : Int) < (S.size : Int))
    (ha : (bits .and .i64 n 65535).tmod 111 = (a : Int))
    (hb : (bits .and .i64 m 65535).tmod 111 = (b : Int))
    (h0 : (A.toList == []) = false)
    (NA : Says 11 #[.int .i64 (a : Int)] (.string A)) (HA : Says 17 #[.int .i64 (a : Int)] (.bool false)) (UA : Says 19 #[.string A] (.string A))
    (F1 : Says 7 #[.string A] (.tuple #[.int .i64 (a : Int), .bool true]))
    (F2 : Says 7 #[.string S] (.tuple #[.int .i64 (j : Int), .bool true]))
    (hab : ((a : Int) != (b : Int)) = true) (hAB : (A.toList == B.toList) = false)
    (NB : Says 11 #[.int .i64 (b : Int)] (.string B))
    (NJ : Says 11 #[.int .i64 (j : Int)] (.string U)) (HJ : Says 17 #[.int .i64 (j : Int)] (.bool false)) (US : Says 19 #[.string S] (.string U)) (w : World) :
    Calls Try.prog 4 #[.int .i64 n, .int .i64 m, .string S] w fun e w' => e = .returned (.bool true) ∧ Below w.heap.size w w' := by
  go_enter Try.func4, Try.ntmps4
  go_wp2_with (first
    | (go_at_call 6; refine (awake_any _).mono ?_; rintro e w1 ⟨rfl, hb⟩; have HB := Lib.hid hb; clear hb)
    | (go_at_call 7; (with_reducible refine (F1.at_ _).mono ?_); rintro e w1 ⟨rfl, hb⟩; have HB := Lib.hid (below_then HB.out hb); clear hb)
    | (go_at_call 7; (with_reducible refine (F2.at_ _).mono ?_); rintro e w1 ⟨rfl, hb⟩; have HB := Lib.hid (below_then HB.out hb); clear hb)
    | (go_at_call 11; (with_reducible refine (NA.at_ _).mono ?_); rintro e w1 ⟨rfl, hb⟩; have HB := Lib.hid (below_then HB.out hb); clear hb)
    | (go_at_call 17; (with_reducible refine (HA.at_ _).mono ?_); rintro e w1 ⟨rfl, hb⟩; have HB := Lib.hid (below_then HB.out hb); clear hb)
    | (go_at_call 19; (with_reducible refine (UA.at_ _).mono ?_); rintro e w1 ⟨rfl, hb⟩; have HB := Lib.hid (below_then HB.out hb); clear hb)
    | (go_at_call 11; (with_reducible refine (NB.at_ _).mono ?_); rintro e w1 ⟨rfl, hb⟩; have HB := Lib.hid (below_then HB.out hb); clear hb)
    | (go_at_call 11; (with_reducible refine (NJ.at_ _).mono ?_); rintro e w1 ⟨rfl, hb⟩; have HB := Lib.hid (below_then HB.out hb); clear hb)
    | (go_at_call 17; (with_reducible refine (HJ.at_ _).mono ?_); rintro e w1 ⟨rfl, hb⟩; have HB := Lib.hid (below_then HB.out hb); clear hb)
    | (go_at_call 19; (with_reducible refine (US.at_ _).mono ?_); rintro e w1 ⟨rfl, hb⟩; have HB := Lib.hid (below_then HB.out hb); clear hb))
  go_ret
  exact ⟨rfl, HB.out⟩
set_option maxHeartbeats 1000000 in
set_option maxRecDepth 4000 in
theorem opFinds_pon {n m : Int} {S A B : ByteArray} {a b : Nat}
    (hs : ¬ (200 : Int) < (S.size : Int))
    (ha : (bits .and .i64 n 65535).tmod 111 = (a : Int))
    (hb : (bits .and .i64 m 65535).tmod 111 = (b : Int))
    (h0 : (A.toList == []) = false)
    (NA : Says 11 #[.int .i64 (a : Int)] (.string A)) (HA : Says 17 #[.int .i64 (a : Int)] (.bool false)) (UA : Says 19 #[.string A] (.string A))
    (F1 : Says 7 #[.string A] (.tuple #[.int .i64 (a : Int), .bool true]))
    (F2 : Says 7 #[.string S] (.tuple #[.int .i64 0, .bool false]))
    (hab : ((a : Int) != (b : Int)) = true) (hAB : (A.toList == B.toList) = false)
    (NB : Says 11 #[.int .i64 (b : Int)] (.string B)) (w : World) :
    Calls Try.prog 4 #[.int .i64 n, .int .i64 m, .string S] w fun e w' => e = .returned (.bool true) ∧ Below w.heap.size w w' := by
  go_enter Try.func4, Try.ntmps4
  go_wp2_with (first
    | (go_at_call 6; refine (awake_any _).mono ?_; rintro e w1 ⟨rfl, hb⟩; have HB := Lib.hid hb; clear hb)
    | (go_at_call 7; (with_reducible refine (F1.at_ _).mono ?_); rintro e w1 ⟨rfl, hb⟩; have HB := Lib.hid (below_then HB.out hb); clear hb)
    | (go_at_call 7; (with_reducible refine (F2.at_ _).mono ?_); rintro e w1 ⟨rfl, hb⟩; have HB := Lib.hid (below_then HB.out hb); clear hb)
    | (go_at_call 11; (with_reducible refine (NA.at_ _).mono ?_); rintro e w1 ⟨rfl, hb⟩; have HB := Lib.hid (below_then HB.out hb); clear hb)
    | (go_at_call 17; (with_reducible refine (HA.at_ _).mono ?_); rintro e w1 ⟨rfl, hb⟩; have HB := Lib.hid (below_then HB.out hb); clear hb)
    | (go_at_call 19; (with_reducible refine (UA.at_ _).mono ?_); rintro e w1 ⟨rfl, hb⟩; have HB := Lib.hid (below_then HB.out hb); clear hb)
    | (go_at_call 11; (with_reducible refine (NB.at_ _).mono ?_); rintro e w1 ⟨rfl, hb⟩; have HB := Lib.hid (below_then HB.out hb); clear hb))
  go_ret
  exact ⟨rfl, HB.out⟩
set_option maxHeartbeats 1000000 in
set_option maxRecDepth 4000 in
theorem opFinds_hsf {n m : Int} {S A U : ByteArray} {a j : Nat}
    (hs : ¬ (200 : Int) < (S.size : Int))
    (ha : (bits .and .i64 n 65535).tmod 111 = (a : Int))
    (hb : (bits .and .i64 m 65535).tmod 111 = (a : Int))
    (h0 : (A.toList == []) = false)
    (NA : Says 11 #[.int .i64 (a : Int)] (.string A)) (HA : Says 17 #[.int .i64 (a : Int)] (.bool true)) (UA : Says 19 #[.string A] (.string A))
    (F1 : Says 7 #[.string A] (.tuple #[.int .i64 0, .bool false]))
    (F2 : Says 7 #[.string S] (.tuple #[.int .i64 (j : Int), .bool true]))
    (NJ : Says 11 #[.int .i64 (j : Int)] (.string U)) (HJ : Says 17 #[.int .i64 (j : Int)] (.bool false)) (US : Says 19 #[.string S] (.string U)) (w : World) :
    Calls Try.prog 4 #[.int .i64 n, .int .i64 m, .string S] w fun e w' => e = .returned (.bool true) ∧ Below w.heap.size w w' := by
  go_enter Try.func4, Try.ntmps4
  go_wp2_with (first
    | (go_at_call 6; refine (awake_any _).mono ?_; rintro e w1 ⟨rfl, hb⟩; have HB := Lib.hid hb; clear hb)
    | (go_at_call 7; (with_reducible refine (F1.at_ _).mono ?_); rintro e w1 ⟨rfl, hb⟩; have HB := Lib.hid (below_then HB.out hb); clear hb)
    | (go_at_call 7; (with_reducible refine (F2.at_ _).mono ?_); rintro e w1 ⟨rfl, hb⟩; have HB := Lib.hid (below_then HB.out hb); clear hb)
    | (go_at_call 11; (with_reducible refine (NA.at_ _).mono ?_); rintro e w1 ⟨rfl, hb⟩; have HB := Lib.hid (below_then HB.out hb); clear hb)
    | (go_at_call 17; (with_reducible refine (HA.at_ _).mono ?_); rintro e w1 ⟨rfl, hb⟩; have HB := Lib.hid (below_then HB.out hb); clear hb)
    | (go_at_call 19; (with_reducible refine (UA.at_ _).mono ?_); rintro e w1 ⟨rfl, hb⟩; have HB := Lib.hid (below_then HB.out hb); clear hb)
    | (go_at_call 11; (with_reducible refine (NJ.at_ _).mono ?_); rintro e w1 ⟨rfl, hb⟩; have HB := Lib.hid (below_then HB.out hb); clear hb)
    | (go_at_call 17; (with_reducible refine (HJ.at_ _).mono ?_); rintro e w1 ⟨rfl, hb⟩; have HB := Lib.hid (below_then HB.out hb); clear hb)
    | (go_at_call 19; (with_reducible refine (US.at_ _).mono ?_); rintro e w1 ⟨rfl, hb⟩; have HB := Lib.hid (below_then HB.out hb); clear hb))
  go_ret
  exact ⟨rfl, HB.out⟩
set_option maxHeartbeats 1000000 in
set_option maxRecDepth 4000 in
theorem opFinds_hsn {n m : Int} {S A : ByteArray} {a : Nat}
    (hs : ¬ (200 : Int) < (S.size : Int))
    (ha : (bits .and .i64 n 65535).tmod 111 = (a : Int))
    (hb : (bits .and .i64 m 65535).tmod 111 = (a : Int))
    (h0 : (A.toList == []) = false)
    (NA : Says 11 #[.int .i64 (a : Int)] (.string A)) (HA : Says 17 #[.int .i64 (a : Int)] (.bool true)) (UA : Says 19 #[.string A] (.string A))
    (F1 : Says 7 #[.string A] (.tuple #[.int .i64 0, .bool false]))
    (F2 : Says 7 #[.string S] (.tuple #[.int .i64 0, .bool false])) (w : World) :
    Calls Try.prog 4 #[.int .i64 n, .int .i64 m, .string S] w fun e w' => e = .returned (.bool true) ∧ Below w.heap.size w w' := by
  go_enter Try.func4, Try.ntmps4
  go_wp2_with (first
    | (go_at_call 6; refine (awake_any _).mono ?_; rintro e w1 ⟨rfl, hb⟩; have HB := Lib.hid hb; clear hb)
    | (go_at_call 7; (with_reducible refine (F1.at_ _).mono ?_); rintro e w1 ⟨rfl, hb⟩; have HB := Lib.hid (below_then HB.out hb); clear hb)
    | (go_at_call 7; (with_reducible refine (F2.at_ _).mono ?_); rintro e w1 ⟨rfl, hb⟩; have HB := Lib.hid (below_then HB.out hb); clear hb)
    | (go_at_call 11; (with_reducible refine (NA.at_ _).mono ?_); rintro e w1 ⟨rfl, hb⟩; have HB := Lib.hid (below_then HB.out hb); clear hb)
    | (go_at_call 17; (with_reducible refine (HA.at_ _).mono ?_); rintro e w1 ⟨rfl, hb⟩; have HB := Lib.hid (below_then HB.out hb); clear hb)
    | (go_at_call 19; (with_reducible refine (UA.at_ _).mono ?_); rintro e w1 ⟨rfl, hb⟩; have HB := Lib.hid (below_then HB.out hb); clear hb))
  go_ret
  exact ⟨rfl, HB.out⟩
set_option maxHeartbeats 1000000 in
set_option maxRecDepth 4000 in
theorem opFinds_hof {n m : Int} {S A B U : ByteArray} {a b j : Nat}
    (hs : ¬ (200 : Int) < (S.size : Int))
    (ha : (bits .and .i64 n 65535).tmod 111 = (a : Int))
    (hb : (bits .and .i64 m 65535).tmod 111 = (b : Int))
    (h0 : (A.toList == []) = false)
    (NA : Says 11 #[.int .i64 (a : Int)] (.string A)) (HA : Says 17 #[.int .i64 (a : Int)] (.bool true)) (UA : Says 19 #[.string A] (.string A))
    (F1 : Says 7 #[.string A] (.tuple #[.int .i64 0, .bool false]))
    (F2 : Says 7 #[.string S] (.tuple #[.int .i64 (j : Int), .bool true]))
    (hab : ((a : Int) != (b : Int)) = true) (hAB : (A.toList == B.toList) = false)
    (NB : Says 11 #[.int .i64 (b : Int)] (.string B))
    (NJ : Says 11 #[.int .i64 (j : Int)] (.string U)) (HJ : Says 17 #[.int .i64 (j : Int)] (.bool false)) (US : Says 19 #[.string S] (.string U)) (w : World) :
    Calls Try.prog 4 #[.int .i64 n, .int .i64 m, .string S] w fun e w' => e = .returned (.bool true) ∧ Below w.heap.size w w' := by
  go_enter Try.func4, Try.ntmps4
  go_wp2_with (first
    | (go_at_call 6; refine (awake_any _).mono ?_; rintro e w1 ⟨rfl, hb⟩; have HB := Lib.hid hb; clear hb)
    | (go_at_call 7; (with_reducible refine (F1.at_ _).mono ?_); rintro e w1 ⟨rfl, hb⟩; have HB := Lib.hid (below_then HB.out hb); clear hb)
    | (go_at_call 7; (with_reducible refine (F2.at_ _).mono ?_); rintro e w1 ⟨rfl, hb⟩; have HB := Lib.hid (below_then HB.out hb); clear hb)
    | (go_at_call 11; (with_reducible refine (NA.at_ _).mono ?_); rintro e w1 ⟨rfl, hb⟩; have HB := Lib.hid (below_then HB.out hb); clear hb)
    | (go_at_call 17; (with_reducible refine (HA.at_ _).mono ?_); rintro e w1 ⟨rfl, hb⟩; have HB := Lib.hid (below_then HB.out hb); clear hb)
    | (go_at_call 19; (with_reducible refine (UA.at_ _).mono ?_); rintro e w1 ⟨rfl, hb⟩; have HB := Lib.hid (below_then HB.out hb); clear hb)
    | (go_at_call 11; (with_reducible refine (NB.at_ _).mono ?_); rintro e w1 ⟨rfl, hb⟩; have HB := Lib.hid (below_then HB.out hb); clear hb)
    | (go_at_call 11; (with_reducible refine (NJ.at_ _).mono ?_); rintro e w1 ⟨rfl, hb⟩; have HB := Lib.hid (below_then HB.out hb); clear hb)
    | (go_at_call 17; (with_reducible refine (HJ.at_ _).mono ?_); rintro e w1 ⟨rfl, hb⟩; have HB := Lib.hid (below_then HB.out hb); clear hb)
    | (go_at_call 19; (with_reducible refine (US.at_ _).mono ?_); rintro e w1 ⟨rfl, hb⟩; have HB := Lib.hid (below_then HB.out hb); clear hb))
  go_ret
  exact ⟨rfl, HB.out⟩
set_option maxHeartbeats 1000000 in
set_option maxRecDepth 4000 in
theorem opFinds_hon {n m : Int} {S A B : ByteArray} {a b : Nat}
    (hs : ¬ (200 : Int) < (S.size : Int))
    (ha : (bits .and .i64 n 65535).tmod 111 = (a : Int))
    (hb : (bits .and .i64 m 65535).tmod 111 = (b : Int))
    (h0 : (A.toList == []) = false)
    (NA : Says 11 #[.int .i64 (a : Int)] (.string A)) (HA : Says 17 #[.int .i64 (a : Int)] (.bool true)) (UA : Says 19 #[.string A] (.string A))
    (F1 : Says 7 #[.string A] (.tuple #[.int .i64 0, .bool false]))
    (F2 : Says 7 #[.string S] (.tuple #[.int .i64 0, .bool false]))
    (hab : ((a : Int) != (b : Int)) = true) (hAB : (A.toList == B.toList) = false)
    (NB : Says 11 #[.int .i64 (b : Int)] (.string B)) (w : World) :
    Calls Try.prog 4 #[.int .i64 n, .int .i64 m, .string S] w fun e w' => e = .returned (.bool true) ∧ Below w.heap.size w w' := by
  go_enter Try.func4, Try.ntmps4
  go_wp2_with (first
    | (go_at_call 6; refine (awake_any _).mono ?_; rintro e w1 ⟨rfl, hb⟩; have HB := Lib.hid hb; clear hb)
    | (go_at_call 7; (with_reducible refine (F1.at_ _).mono ?_); rintro e w1 ⟨rfl, hb⟩; have HB := Lib.hid (below_then HB.out hb); clear hb)
    | (go_at_call 7; (with_reducible refine (F2.at_ _).mono ?_); rintro e w1 ⟨rfl, hb⟩; have HB := Lib.hid (below_then HB.out hb); clear hb)
    | (go_at_call 11; (with_reducible refine (NA.at_ _).mono ?_); rintro e w1 ⟨rfl, hb⟩; have HB := Lib.hid (below_then HB.out hb); clear hb)
    | (go_at_call 17; (with_reducible refine (HA.at_ _).mono ?_); rintro e w1 ⟨rfl, hb⟩; have HB := Lib.hid (below_then HB.out hb); clear hb)
    | (go_at_call 19; (with_reducible refine (UA.at_ _).mono ?_); rintro e w1 ⟨rfl, hb⟩; have HB := Lib.hid (below_then HB.out hb); clear hb)
    | (go_at_call 11; (with_reducible refine (NB.at_ _).mono ?_); rintro e w1 ⟨rfl, hb⟩; have HB := Lib.hid (below_then HB.out hb); clear hb))
  go_ret
  exact ⟨rfl, HB.out⟩
theorem opFinds_any (n m : Int) (l : List UInt8) (w : World) : Calls Try.prog 4 #[.int .i64 n, .int .i64 m, .string ⟨l.toArray⟩] w fun e w' => e = .returned (.bool true) ∧ Below w.heap.size w w' := by
  by_cases hbig : (200 : Int) < ((⟨l.toArray⟩ : ByteArray).size : Int)
  · exact opFinds_big n m _ hbig w
  have hl : l.length ≤ 200 := by rw [size_mk] at hbig; omega
  obtain ⟨a, ha, ea⟩ := low_mod n
  obtain ⟨b, hb, eb⟩ := low_mod m
  have h0 : ((⟨(opR (a : Int)).1.toArray⟩ : ByteArray).toList == []) = false := by
    rw [ByteArray.toList_mk]; simpa using opR_some a ha
  have NA : Says 11 #[.int .i64 (a : Int)] (.string ⟨(opR (a : Int)).1.toArray⟩) := name_is (a : Int) _ rfl
  have UA : Says 19 #[.string ⟨(opR (a : Int)).1.toArray⟩] (.string ⟨(opR (a : Int)).1.toArray⟩) := upper_is _ _ _ rfl (by have := opR_len (a : Int); omega) (by rw [opR_upper a ha])
  have F1 := fun v b h => find_is (opR (a : Int)).1 _ rfl (by have := opR_len (a : Int); omega) v b h
  rw [opR_upper a ha, opF_own a ha] at F1
  have hab : a = b ∨ (((a : Int) != (b : Int)) = true ∧ ((⟨(opR (a : Int)).1.toArray⟩ : ByteArray).toList == (⟨(opR (b : Int)).1.toArray⟩ : ByteArray).toList) = false) := by
    by_cases e : a = b
    · exact .inl e
    · exact .inr ⟨by rw [bne_iff_ne]; omega, mk_ne rfl rfl fun h => e (opR_inj a b ha hb h)⟩
  have NB : Says 11 #[.int .i64 (b : Int)] (.string ⟨(opR (b : Int)).1.toArray⟩) := name_is (b : Int) _ rfl
  have US : Says 19 #[.string ⟨l.toArray⟩] (.string ⟨(l.map scU).toArray⟩) := upper_is l _ _ rfl (by omega) rfl
  have hfound : (∃ j : Nat, opF (l.map scU) = ((j : Int), true) ∧ (opR (j : Int)).1 = l.map scU ∧ opH (opR (j : Int)).1 = false) ∨ opF (l.map scU) = (0, false) := by
    rcases hf : opF (l.map scU) with ⟨v, c⟩
    cases c with
    | true =>
      obtain ⟨j, _, rfl, h1, h2⟩ := opF_has _ _ hf
      exact .inl ⟨j, rfl, h1, h2⟩
    | false =>
      refine .inr ?_
      unfold opF at hf
      split at hf
      · simp at hf
      · rw [← hf]
  cases hh : opH (opR (a : Int)).1 with
  | false =>
    have HA : Says 17 #[.int .i64 (a : Int)] (.bool false) := hidden_is (a : Int) false hh
    have F1' : Says 7 #[.string ⟨(opR (a : Int)).1.toArray⟩] (.tuple #[.int .i64 (a : Int), .bool true]) := F1 _ _ (by rw [hh]; rfl)
    rcases hfound with ⟨j, hj, hn, hd⟩ | hf
    · have F2 : Says 7 #[.string ⟨l.toArray⟩] (.tuple #[.int .i64 (j : Int), .bool true]) := find_is l _ rfl (by omega) _ _ hj
      have NJ : Says 11 #[.int .i64 (j : Int)] (.string ⟨(l.map scU).toArray⟩) := name_is (j : Int) _ (by rw [hn])
      have HJ : Says 17 #[.int .i64 (j : Int)] (.bool false) := hidden_is (j : Int) false hd
      rcases hab with rfl | ⟨h1, h2⟩
      · exact opFinds_psf hbig ea eb h0 NA HA UA F1' F2 NJ HJ US w
      · exact opFinds_pof hbig ea eb h0 NA HA UA F1' F2 h1 h2 NB NJ HJ US w
    · have F2 : Says 7 #[.string ⟨l.toArray⟩] (.tuple #[.int .i64 0, .bool false]) := find_is l _ rfl (by omega) _ _ hf
      rcases hab with rfl | ⟨h1, h2⟩
      · exact opFinds_psn hbig ea eb h0 NA HA UA F1' F2 w
      · exact opFinds_pon hbig ea eb h0 NA HA UA F1' F2 h1 h2 NB w
  | true =>
    have HA : Says 17 #[.int .i64 (a : Int)] (.bool true) := hidden_is (a : Int) true hh
    have F1' : Says 7 #[.string ⟨(opR (a : Int)).1.toArray⟩] (.tuple #[.int .i64 0, .bool false]) := F1 _ _ (by rw [hh]; rfl)
    rcases hfound with ⟨j, hj, hn, hd⟩ | hf
    · have F2 : Says 7 #[.string ⟨l.toArray⟩] (.tuple #[.int .i64 (j : Int), .bool true]) := find_is l _ rfl (by omega) _ _ hj
      have NJ : Says 11 #[.int .i64 (j : Int)] (.string ⟨(l.map scU).toArray⟩) := name_is (j : Int) _ (by rw [hn])
      have HJ : Says 17 #[.int .i64 (j : Int)] (.bool false) := hidden_is (j : Int) false hd
      rcases hab with rfl | ⟨h1, h2⟩
      · exact opFinds_hsf hbig ea eb h0 NA HA UA F1' F2 NJ HJ US w
      · exact opFinds_hof hbig ea eb h0 NA HA UA F1' F2 h1 h2 NB NJ HJ US w
    · have F2 : Says 7 #[.string ⟨l.toArray⟩] (.tuple #[.int .i64 0, .bool false]) := find_is l _ rfl (by omega) _ _ hf
      rcases hab with rfl | ⟨h1, h2⟩
      · exact opFinds_hsn hbig ea eb h0 NA HA UA F1' F2 w
      · exact opFinds_hon hbig ea eb h0 NA HA UA F1' F2 h1 h2 NB w
end Go.Proofs.Ytlpacdheabcpdaa
