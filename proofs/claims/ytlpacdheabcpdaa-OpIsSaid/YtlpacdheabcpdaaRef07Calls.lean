/-
  What the document's own calls of layer 7 answer (tenterhookref07): the same as the calls of package op, in the words of the plain facts (XOpMath).
-/
import Derived.Test.YtlpacdheabcpdaaRef06Calls
import Derived.Test.YtlpacdheabcpdaaRef07Math
import Derived.Test.YtlpacdheabcpdaaOpFind
namespace Go.Proofs.Ytlpacdheabcpdaa
open Go.RowKit

set_option maxRecDepth 10000 in
theorem rnames_is (S : ByteArray) (hS : S = ⟨opNames.toArray⟩) (w : World) : Calls Try.prog 21 #[] w fun e w' => e = .returned (.string S) ∧ w = w' := by
  go_enter Try.func21, Try.ntmps21
  go_wp2
  go_ret
  exact ⟨by rw [hS]; kernel_rfl, rfl⟩
set_option maxRecDepth 10000 in
theorem rneedsS_is (S : ByteArray) (hS : S = ⟨opNeeds.toArray⟩) (w : World) : Calls Try.prog 26 #[] w fun e w' => e = .returned (.string S) ∧ w = w' := by
  go_enter Try.func26, Try.ntmps26
  go_wp2
  go_ret
  exact ⟨by rw [hS]; kernel_rfl, rfl⟩
set_option maxRecDepth 10000 in
theorem rleavesS_is (S : ByteArray) (hS : S = ⟨opLeaves.toArray⟩) (w : World) : Calls Try.prog 25 #[] w fun e w' => e = .returned (.string S) ∧ w = w' := by
  go_enter Try.func25, Try.ntmps25
  go_wp2
  go_ret
  exact ⟨by rw [hS]; kernel_rfl, rfl⟩
set_option maxRecDepth 10000 in
theorem rgroupsS_is (S : ByteArray) (hS : S = ⟨opGroups.toArray⟩) (w : World) : Calls Try.prog 27 #[] w fun e w' => e = .returned (.string S) ∧ w = w' := by
  go_enter Try.func27, Try.ntmps27
  go_wp2
  go_ret
  exact ⟨by rw [hS]; kernel_rfl, rfl⟩
set_option maxHeartbeats 400000 in
theorem rin_is (n : Int) (b : Bool) (h : decide (0 ≤ n ∧ n < 111) = b) (w : World) : Calls Try.prog 24 #[.int .i64 n] w fun e w' => e = .returned (.bool b) ∧ w = w' := by
  by_cases h1 : 0 ≤ n
  · by_cases h2 : n < 111
    · obtain rfl : b = true := by rw [← h]; simp [h1, h2]
      clear h
      go_enter Try.func24, Try.ntmps24
      go_wp2
      go_ret
      exact ⟨rfl, rfl⟩
    · obtain rfl : b = false := by rw [← h]; simp; omega
      clear h
      go_enter Try.func24, Try.ntmps24
      go_wp2
      go_ret
      exact ⟨rfl, rfl⟩
  · obtain rfl : b = false := by rw [← h]; simp; omega
    clear h
    go_enter Try.func24, Try.ntmps24
    go_wp2
    go_ret
    exact ⟨rfl, rfl⟩
theorem sign_at {l : List UInt8} {S : ByteArray} (hS : S = ⟨l.toArray⟩) {k : Nat} {c : UInt8} (h : l[k]? = some c) : k < S.size ∧ ∀ hk : k < S.size, S[k]'hk = c := by
  subst hS
  obtain ⟨hk, e⟩ := List.getElem?_eq_some_iff.1 h
  exact ⟨by rw [size_mk]; exact hk, fun _ => e⟩
set_option maxHeartbeats 400000 in
theorem rneeds_is (n v : Int) (h : (opR n).2.1 = v) (w : World) : Calls Try.prog 14 #[.int .i64 n] w fun e w' => e = .returned (.int .i64 v) ∧ w = w' := by
  by_cases hn : 0 ≤ n ∧ n < 111
  · obtain ⟨k, rfl⟩ : ∃ k : Nat, n = (k : Int) := ⟨n.toNat, by omega⟩
    obtain ⟨c, hc, hv⟩ := signs_needs k (by omega)
    rw [h] at hv
    subst hv
    obtain ⟨S, hS⟩ : ∃ S : ByteArray, S = ⟨opNeeds.toArray⟩ := ⟨_, rfl⟩
    obtain ⟨hk, he⟩ := sign_at hS hc
    have HN := Lib.hid (rneedsS_is S hS)
    have HI := Lib.hid (rin_is (k : Int) true (by simpa using hn))
    have hc8 : (0 : Int) ≤ (c.toNat : Int) ∧ (c.toNat : Int) ≤ 255 := by have := c.toNat_lt; omega
    clear h hn hc hS
    go_enter Try.func14, Try.ntmps14
    go_wp2_with (first
      | (go_at_call 24; refine (HI.out _).mono ?_; rintro e w1 ⟨rfl, rfl⟩)
      | (go_at_call 26; refine (HN.out _).mono ?_; rintro e w1 ⟨rfl, rfl⟩))
    go_ret
    exact ⟨rfl, rfl⟩
  · have HI := Lib.hid (rin_is n false (by simpa using hn))
    rw [opR_out n (by omega)] at h
    obtain rfl : v = 0 := h.symm
    clear h hn
    go_enter Try.func14, Try.ntmps14
    go_wp2_with (first
      | (go_at_call 24; refine (HI.out _).mono ?_; rintro e w1 ⟨rfl, rfl⟩))
    go_ret
    exact ⟨rfl, rfl⟩
set_option maxHeartbeats 400000 in
theorem rgroup_is (n v : Int) (h : (opR n).2.2.2 = v) (w : World) : Calls Try.prog 16 #[.int .i64 n] w fun e w' => e = .returned (.int .i64 v) ∧ w = w' := by
  by_cases hn : 0 ≤ n ∧ n < 111
  · obtain ⟨k, rfl⟩ : ∃ k : Nat, n = (k : Int) := ⟨n.toNat, by omega⟩
    obtain ⟨c, hc, hv⟩ := signs_groups k (by omega)
    rw [h] at hv
    subst hv
    obtain ⟨S, hS⟩ : ∃ S : ByteArray, S = ⟨opGroups.toArray⟩ := ⟨_, rfl⟩
    obtain ⟨hk, he⟩ := sign_at hS hc
    have HN := Lib.hid (rgroupsS_is S hS)
    have HI := Lib.hid (rin_is (k : Int) true (by simpa using hn))
    have hc8 : (0 : Int) ≤ (c.toNat : Int) ∧ (c.toNat : Int) ≤ 255 := by have := c.toNat_lt; omega
    clear h hn hc hS
    go_enter Try.func16, Try.ntmps16
    go_wp2_with (first
      | (go_at_call 24; refine (HI.out _).mono ?_; rintro e w1 ⟨rfl, rfl⟩)
      | (go_at_call 27; refine (HN.out _).mono ?_; rintro e w1 ⟨rfl, rfl⟩))
    go_ret
    exact ⟨rfl, rfl⟩
  · have HI := Lib.hid (rin_is n false (by simpa using hn))
    rw [opR_out n (by omega)] at h
    obtain rfl : v = (-1) := h.symm
    clear h hn
    go_enter Try.func16, Try.ntmps16
    go_wp2_with (first
      | (go_at_call 24; refine (HI.out _).mono ?_; rintro e w1 ⟨rfl, rfl⟩))
    go_ret
    exact ⟨rfl, rfl⟩
set_option maxHeartbeats 400000 in
theorem rleaves_is (n v : Int) (b : Bool) (h : opL n = (v, b)) (w : World) : Calls Try.prog 10 #[.int .i64 n] w fun e w' => e = .returned (.tuple #[.int .i64 v, .bool b]) ∧ w = w' := by
  by_cases hn : 0 ≤ n ∧ n < 111
  · obtain ⟨k, rfl⟩ : ∃ k : Nat, n = (k : Int) := ⟨n.toNat, by omega⟩
    obtain ⟨c, hc, hv⟩ := signs_leaves k (by omega)
    obtain ⟨S, hS⟩ : ∃ S : ByteArray, S = ⟨opLeaves.toArray⟩ := ⟨_, rfl⟩
    obtain ⟨hk, he⟩ := sign_at hS hc
    have HN := Lib.hid (rleavesS_is S hS)
    have HI := Lib.hid (rin_is (k : Int) true (by simpa using hn))
    have hc8 : (0 : Int) ≤ (c.toNat : Int) ∧ (c.toNat : Int) ≤ 255 := by have := c.toNat_lt; omega
    unfold opL at h
    rcases hv with ⟨h1, rfl⟩ | ⟨h1, h2, h3⟩
    · rw [if_pos h1] at h
      simp only [Prod.mk.injEq] at h
      obtain ⟨rfl, rfl⟩ := h
      clear h1 hn hc hS
      go_enter Try.func10, Try.ntmps10
      go_wp2_with (first
        | (go_at_call 24; refine (HI.out _).mono ?_; rintro e w1 ⟨rfl, rfl⟩)
        | (go_at_call 25; refine (HN.out _).mono ?_; rintro e w1 ⟨rfl, rfl⟩))
      go_ret2
      exact ⟨rfl, rfl⟩
    · rw [if_neg h1] at h
      simp only [Prod.mk.injEq] at h
      obtain ⟨rfl, rfl⟩ := h
      rw [← h3]
      have h4 : ((c.toNat : Int) == 63) = false := by
        have : c.toNat ≠ 63 := fun e => h2 (UInt8.toNat_inj.1 e)
        simp; omega
      clear h1 h2 h3 hn hc hS
      go_enter Try.func10, Try.ntmps10
      go_wp2_with (first
        | (go_at_call 24; refine (HI.out _).mono ?_; rintro e w1 ⟨rfl, rfl⟩)
        | (go_at_call 25; refine (HN.out _).mono ?_; rintro e w1 ⟨rfl, rfl⟩))
      go_ret2
      exact ⟨rfl, rfl⟩
  · have HI := Lib.hid (rin_is n false (by simpa using hn))
    unfold opL at h
    rw [opR_out n (by omega)] at h
    simp only [opBad, if_true, Prod.mk.injEq] at h
    obtain ⟨rfl, rfl⟩ := h
    clear hn
    go_enter Try.func10, Try.ntmps10
    go_wp2_with (first
      | (go_at_call 24; refine (HI.out _).mono ?_; rintro e w1 ⟨rfl, rfl⟩))
    go_ret2
    exact ⟨rfl, rfl⟩
end Go.Proofs.Ytlpacdheabcpdaa
