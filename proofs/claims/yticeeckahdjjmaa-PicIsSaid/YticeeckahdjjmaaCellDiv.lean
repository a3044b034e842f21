/-
  Plain arithmetic of divisions of cells: what is left, and the quotients, rounded towards 0 and down.
-/
import Derived.Test.YticeeckahdjjmaaCellShift
namespace Go.Proofs.Yticeeckahdjjmaa
open Go.RowKit

theorem R_bound {a b : Int} (h : cBad a b = 0) : (0 < b → -b < cR a b ∧ cR a b < b) ∧ (b < 0 → b < cR a b ∧ cR a b < -b) := by
  obtain ⟨h0, _⟩ := bad_ok h
  rw [cR_ok h]
  have e : (a.tmod b).natAbs = a.natAbs % b.natAbs := Int.natAbs_tmod a b
  have l : a.natAbs % b.natAbs < b.natAbs := Nat.mod_lt _ (by omega)
  omega
theorem R_sign {a b : Int} (h : cBad a b = 0) : (0 ≤ a → 0 ≤ cR a b) ∧ (a ≤ 0 → cR a b ≤ 0) := by
  rw [cR_ok h]
  refine ⟨fun ha => Int.tmod_nonneg b ha, fun ha => ?_⟩
  have h3 : (-a).tmod b = -(a.tmod b) := Int.neg_tmod a b
  have := Int.tmod_nonneg (a := -a) b (by omega)
  omega
theorem QR_sum {a b : Int} (h : cBad a b = 0) : cQ a b * b + cR a b = a := by
  rw [cQ_ok h, cR_ok h]; exact Int.tdiv_mul_add_tmod a b
theorem bad_sym (a b : Int) : cBad a b = 0 ∨ (cBad a b = -10 ∧ b = 0) ∨ (cBad a b = -11 ∧ a = -9223372036854775808 ∧ b = -1) := by
  unfold cBad
  by_cases h0 : b = 0
  · simp [h0]
  · by_cases h1 : a = -9223372036854775808 ∧ b = -1
    · simp [h1]
    · simp [h0, h1]
theorem QR_bad {a b : Int} (h : cBad a b ≠ 0) : cQ a b = 0 ∧ cR a b = 0 ∧ cFq a b = 0 ∧ cFr a b = 0 := by
  have h1 : cQ a b = 0 := by simp [cQ, h]
  have h2 : cR a b = 0 := by simp [cR, h]
  refine ⟨h1, h2, ?_, ?_⟩
  · simp [cFq, cUp, h1, h2]
  · simp [cFr, cUp, h2]
/-- Rounded down: nothing turned. -/
theorem F_same {a b : Int} (hu : cUp a b = false) : cFq a b = cQ a b ∧ cFr a b = cR a b := by
  simp [cFq, cFr, hu]
/-- Rounded down: one less, and what is left goes to the other side. -/
theorem F_less {a b : Int} (hb : InC b) (h : cBad a b = 0) (hu : cUp a b = true) : cFq a b = wrap64 (cQ a b - 1) ∧ cFr a b = cR a b + b := by
  have e : cFr a b = wrap64 (cR a b + b) := by simp [cFr, hu]
  refine ⟨by simp [cFq, hu], ?_⟩
  rw [e]
  apply wrap64_id
  have := R_bound h
  unfold cUp at hu
  simp only [decide_eq_true_eq] at hu
  have hb0 := (bad_ok h).1
  unfold InC at *
  omega
theorem Up_is {a b : Int} (h : cBad a b = 0) : cUp a b = true ↔ (cR a b ≠ 0 ∧ (a < 0 ∧ 0 < b ∨ 0 < a ∧ b < 0)) := by
  have h1 := R_sign h
  have hb0 := (bad_ok h).1
  unfold cUp
  simp only [decide_eq_true_eq]
  by_cases hr : cR a b = 0
  · simp [hr]
  · omega
theorem F_bound {a b : Int} (hb : InC b) (h : cBad a b = 0) : (0 < b → 0 ≤ cFr a b ∧ cFr a b < b) ∧ (b < 0 → b < cFr a b ∧ cFr a b ≤ 0) := by
  have h1 := R_bound h
  have h2 := R_sign h
  have h3 := Up_is h
  cases hu : cUp a b
  · rw [(F_same hu).2]; rw [hu] at h3; simp at h3; omega
  · rw [(F_less hb h hu).2]; rw [hu] at h3; simp at h3; omega
theorem F_sum {a b : Int} (ha : InC a) (hb : InC b) (h : cBad a b = 0) : wrap64 (wrap64 (cFq a b * b) + cFr a b) = a := by
  have hs := QR_sum h
  cases hu : cUp a b
  · rw [(F_same hu).1, (F_same hu).2]
    refine Eq.trans (wrap64_congr ?_) (wrap64_id ha)
    rw [Int.add_emod, wrap64_emod, ← Int.add_emod, hs]
  · rw [(F_less hb h hu).1, (F_less hb h hu).2, wrap64_mul]
    refine Eq.trans (wrap64_congr ?_) (wrap64_id ha)
    rw [Int.add_emod, wrap64_emod, ← Int.add_emod, Int.sub_mul, Int.one_mul]
    rw [show cQ a b * b - b + (cR a b + b) = cQ a b * b + cR a b by omega, hs]
theorem S_sum {a b : Int} (ha : InC a) (h : cBad a b = 0) : wrap64 (wrap64 (cQ a b * b) + cR a b) = a := by
  have hs := QR_sum h
  rw [← wrap64_id ha]
  apply wrap64_congr
  rw [Int.add_emod, wrap64_emod, ← Int.add_emod, wrap64_id ha, hs]
end Go.Proofs.Yticeeckahdjjmaa
