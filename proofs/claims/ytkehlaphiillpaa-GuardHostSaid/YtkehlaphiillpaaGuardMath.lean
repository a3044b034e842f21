/-
  Who may touch what, said of whole numbers: regions, bytes, and some bytes in a row. Nothing of a translated program is imported.
-/
import Derived.Test.YtkehlaphiillpaaCellMath
namespace Go.Proofs.Ytkehlaphiillpaa
open Go.RowKit

/-- Are n bytes there from a on? -/
def gIn (a n : Int) : Bool := decide (0 ≤ n ∧ 0 ≤ a ∧ n ≤ 5120 - a)
/-- The region's kind. -/
def gK (a : Int) : Int := if a < 0 ∨ 5120 ≤ a then -1 else if a < 2048 then 0 else if a < 4096 then 1 else 2
/-- Whose it is. -/
def gT (a : Int) : Int := if a < 4096 ∨ 5120 ≤ a then -1 else (a - 4096) / 128
/-- May a byte be touched? -/
def gB (t : Int) (lib : Bool) (a : Int) (wr : Bool) : Bool := (gK a == 0 && !wr) || ((gK a == 1 && lib) || (gK a == 2 && gT a == t))
/-- May each of so many bytes? -/
def gE (t : Int) (lib : Bool) (a : Int) (wr : Bool) : Nat → Bool
  | 0 => true
  | n + 1 => gE t lib a wr n && gB t lib (a + n) wr
/-- May n bytes be touched? -/
def gM (t : Int) (lib : Bool) (a n : Int) (wr : Bool) : Bool := gIn a n && (t == -1 || gE t lib a wr n.toNat)
/-- Where a task's area begins, and whether it has one. -/
def gU (t : Int) : Int := if 0 ≤ t ∧ t < 8 then 4096 + 128 * t else 0
def gUo (t : Int) : Bool := decide (0 ≤ t ∧ t < 8)

/-- A place is of no region, of the data, the heap, or a user's area. -/
theorem gK_cases (a : Int) : (gK a = -1 ∧ gT a = -1 ∧ (a < 0 ∨ 5120 ≤ a)) ∨ (gK a = 0 ∧ gT a = -1 ∧ 0 ≤ a ∧ a < 2048) ∨ (gK a = 1 ∧ gT a = -1 ∧ 2048 ≤ a ∧ a < 4096) ∨ (gK a = 2 ∧ gT a = (a - 4096) / 128 ∧ 4096 ≤ a ∧ a < 5120) := by
  unfold gK gT
  by_cases h1 : a < 0 ∨ 5120 ≤ a
  · rw [if_pos h1, if_pos (by omega)]; exact .inl ⟨rfl, rfl, h1⟩
  · rw [if_neg h1]
    by_cases h2 : a < 2048
    · rw [if_pos h2, if_pos (by omega)]; exact .inr (.inl ⟨rfl, rfl, by omega, h2⟩)
    · rw [if_neg h2]
      by_cases h3 : a < 4096
      · rw [if_pos h3, if_pos (by omega)]; exact .inr (.inr (.inl ⟨rfl, rfl, by omega, h3⟩))
      · rw [if_neg h3, if_neg (by omega)]; exact .inr (.inr (.inr ⟨rfl, rfl, by omega, by omega⟩))
theorem gB_none {t a : Int} {lib wr : Bool} (h : a < 0 ∨ 5120 ≤ a) : gB t lib a wr = false := by
  have h1 : gK a = -1 := by unfold gK; rw [if_pos h]
  unfold gB; rw [h1]; rfl
theorem gB_data {t a : Int} {lib wr : Bool} (h : 0 ≤ a) (h2 : a < 2048) : gB t lib a wr = !wr := by
  have h1 : gK a = 0 := by unfold gK; rw [if_neg (by omega), if_pos h2]
  unfold gB; rw [h1]; simp
theorem gB_heap {t a : Int} {lib wr : Bool} (h : 2048 ≤ a) (h2 : a < 4096) : gB t lib a wr = lib := by
  have h1 : gK a = 1 := by unfold gK; rw [if_neg (by omega), if_neg (by omega), if_pos h2]
  unfold gB; rw [h1]; simp
theorem gB_user {t a : Int} {lib wr : Bool} (h : 4096 ≤ a) (h2 : a < 5120) : gB t lib a wr = ((a - 4096) / 128 == t) := by
  have h1 : gK a = 2 := by unfold gK; rw [if_neg (by omega), if_neg (by omega), if_neg (by omega)]
  have h3 : gT a = (a - 4096) / 128 := by unfold gT; rw [if_neg (by omega)]
  unfold gB; rw [h1, h3]; simp
theorem gE_iff {t : Int} {lib : Bool} {a : Int} {wr : Bool} : ∀ {n : Nat}, gE t lib a wr n = true ↔ ∀ k : Nat, k < n → gB t lib (a + k) wr = true
  | 0 => by simp [gE]
  | n + 1 => by
    rw [gE, Bool.and_eq_true, gE_iff]
    constructor
    · rintro ⟨h1, h2⟩ k hk
      rcases Nat.lt_or_ge k n with h | h
      · exact h1 k h
      · obtain rfl : k = n := by omega
        exact h2
    · exact fun h => ⟨fun k hk => h k (by omega), h n (by omega)⟩
theorem gE_not {t : Int} {lib : Bool} {a : Int} {wr : Bool} {n k : Nat} (hk : k < n) (h : gB t lib (a + k) wr = false) : gE t lib a wr n = false := by
  cases hg : gE t lib a wr n
  · rfl
  · have := gE_iff.1 hg k hk
    rw [h] at this; cases this
theorem gM_iff {t : Int} {lib : Bool} {a n : Int} {wr : Bool} : gM t lib a n wr = true ↔ (0 ≤ n ∧ 0 ≤ a ∧ n ≤ 5120 - a) ∧ (t = -1 ∨ ∀ k : Nat, (k : Int) < n → gB t lib (a + k) wr = true) := by
  unfold gM gIn
  rw [Bool.and_eq_true, decide_eq_true_eq, Bool.or_eq_true, beq_iff_eq, gE_iff]
  constructor
  · rintro ⟨h, k⟩
    exact ⟨h, k.imp id fun g j hj => g j (by omega)⟩
  · rintro ⟨h, k⟩
    exact ⟨h, k.imp id fun g j hj => g j (by omega)⟩
theorem gM_in {t : Int} {lib : Bool} {a n : Int} {wr : Bool} (h : gM t lib a n wr = true) : 0 ≤ n ∧ 0 ≤ a ∧ n ≤ 5120 - a := (gM_iff.1 h).1
/-- What may be written may be read. -/
theorem gB_read {t : Int} {lib : Bool} {a : Int} (h : gB t lib a true = true) : gB t lib a false = true := by
  unfold gB at *
  simp at *
  exact .inr h
theorem gM_read {t : Int} {lib : Bool} {a n : Int} {wr : Bool} (h : gM t lib a n wr = true) : gM t lib a n false = true := by
  cases wr
  · exact h
  · rw [gM_iff] at *
    exact ⟨h.1, h.2.imp id fun g k hk => gB_read (g k hk)⟩
/-- Whoever may without the library may within it. -/
theorem gB_lib {t : Int} {a : Int} {wr : Bool} (h : gB t false a wr = true) : gB t true a wr = true := by
  unfold gB at *
  simp at *
  rcases h with h | h
  · exact .inl h
  · exact .inr (.inr h)
theorem gM_lib {t : Int} {a n : Int} {wr : Bool} (h : gM t false a n wr = true) : gM t true a n wr = true := by
  rw [gM_iff] at *
  exact ⟨h.1, h.2.imp id fun g k hk => gB_lib (g k hk)⟩
/-- One byte. -/
theorem gM_one (t : Int) (lib : Bool) (a : Int) (wr : Bool) (h : 0 ≤ a ∧ a < 5120) : gM t lib a 1 wr = (t == -1 || gB t lib a wr) := by
  rw [Bool.eq_iff_iff, gM_iff, Bool.or_eq_true, beq_iff_eq]
  constructor
  · rintro ⟨_, k⟩
    exact k.imp id fun g => by have := g 0 (by omega); simpa using this
  · intro k
    exact ⟨by omega, k.imp id fun g j hj => by obtain rfl : j = 0 := by omega
                                               simpa using g⟩
theorem gM_out {t : Int} {lib : Bool} {a : Int} {wr : Bool} (h : ¬ (0 ≤ a ∧ a < 5120)) : gM t lib a 1 wr = false := by
  cases hg : gM t lib a 1 wr
  · rfl
  · have := gM_in hg; omega
/-- Two parts in a row. -/
theorem gM_parts (t : Int) (lib : Bool) (a n i : Int) (wr : Bool) (hi : 0 ≤ i ∧ i ≤ n) : gM t lib a n wr = (gM t lib a i wr && gM t lib (a + i) (n - i) wr) := by
  rw [Bool.eq_iff_iff, Bool.and_eq_true, gM_iff, gM_iff, gM_iff]
  constructor
  · rintro ⟨h, k⟩
    refine ⟨⟨by omega, k.imp id fun g j hj => g j (by omega)⟩, ⟨by omega, k.imp id fun g j hj => ?_⟩⟩
    have := g (i.toNat + j) (by omega)
    rwa [show a + ((i.toNat + j : Nat) : Int) = a + i + (j : Int) by omega] at this
  · rintro ⟨⟨h1, k1⟩, ⟨h2, k2⟩⟩
    refine ⟨by omega, ?_⟩
    rcases k1 with k1 | k1
    · exact .inl k1
    · rcases k2 with k2 | k2
      · exact .inl k2
      · refine .inr fun j hj => ?_
        by_cases hji : (j : Int) < i
        · exact k1 j hji
        · have := k2 (j - i.toNat) (by omega)
          rwa [show a + i + ((j - i.toNat : Nat) : Int) = a + (j : Int) by omega] at this
end Go.Proofs.Ytkehlaphiillpaa
