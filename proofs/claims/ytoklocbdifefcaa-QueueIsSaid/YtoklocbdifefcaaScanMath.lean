/-
  Plain facts on source texts: a text is a list of bytes, how far it has come is a number.
-/
import Derived.Below
import Derived.Lib.CutLaws
namespace Go.Proofs.Ytoklocbdifefcaa

/-- Where a text has come to: brought to a place that it has. -/
def scA (l : List UInt8) (i : Int) : Nat := min i.toNat l.length
/-- Is a byte a blank? -/
def scB (c : UInt8) : Bool := decide (c.toNat ≤ 32)
/-- Does a byte end what is parsed? -/
def scE (d : Int) (c : UInt8) : Bool := if d = 32 then decide (c.toNat ≤ 32) else decide ((c.toNat : Int) = d)
def scN (d : Int) (c : UInt8) : Bool := !scE d c
/-- The first place from k on that is none of p. -/
def scS (p : UInt8 → Bool) (l : List UInt8) (k : Nat) : Nat := k + ((l.drop k).takeWhile p).length
/-- The bytes from k up to j. -/
def scT (l : List UInt8) (k j : Nat) : List UInt8 := (l.drop k).take (j - k)

theorem scA_le (l : List UInt8) (i : Int) : scA l i ≤ l.length := Nat.min_le_right _ _
theorem scA_nat (l : List UInt8) (k : Nat) (h : k ≤ l.length) : scA l (k : Int) = k := by unfold scA; simp; omega
theorem scS_ge (p : UInt8 → Bool) (l : List UInt8) (k : Nat) : k ≤ scS p l k := Nat.le_add_right _ _
theorem takeWhile_le (p : UInt8 → Bool) (l : List UInt8) : (l.takeWhile p).length ≤ l.length := List.Sublist.length_le (List.takeWhile_sublist p)
theorem scS_le (p : UInt8 → Bool) (l : List UInt8) (k : Nat) (h : k ≤ l.length) : scS p l k ≤ l.length := by
  unfold scS
  have := takeWhile_le p (l.drop k)
  rw [List.length_drop] at this
  omega
theorem scS_end (p : UInt8 → Bool) (l : List UInt8) (k : Nat) (h : l.length ≤ k) : scS p l k = k := by
  unfold scS
  rw [List.drop_eq_nil_of_le h]
  rfl
theorem scS_step (p : UInt8 → Bool) (l : List UInt8) (k : Nat) (h : k < l.length) (hp : p l[k] = true) : scS p l k = scS p l (k + 1) := by
  unfold scS
  rw [List.drop_eq_getElem_cons h, List.takeWhile_cons, if_pos hp, List.length_cons]
  omega
theorem scS_here (p : UInt8 → Bool) (l : List UInt8) (k : Nat) (h : k < l.length) (hp : p l[k] = false) : scS p l k = k := by
  unfold scS
  rw [List.drop_eq_getElem_cons h, List.takeWhile_cons, if_neg (by rw [hp]; decide)]
  rfl
/-- Behind it p does not hold, or it is the end. -/
theorem scS_stop (p : UInt8 → Bool) (l : List UInt8) (k : Nat) (h : scS p l k < l.length) : p (l[scS p l k]) = false := by
  obtain ⟨n, hn⟩ : ∃ n, l.length - k = n := ⟨_, rfl⟩
  induction n generalizing k with
  | zero => have := scS_ge p l k; omega
  | succ n ih =>
    have hk : k < l.length := by have := scS_ge p l k; omega
    cases hp : p l[k] with
    | true =>
      have e := scS_step p l k hk hp
      have := ih (k + 1) (by omega) (by omega)
      simp only [e]
      exact this
    | false =>
      have e := scS_here p l k hk hp
      simp only [e]
      exact hp
theorem scS_in (p : UInt8 → Bool) (l : List UInt8) (k i : Nat) (h1 : k ≤ i) (h2 : i < scS p l k) (h3 : i < l.length) : p l[i] = true := by
  obtain ⟨n, hn⟩ : ∃ n, l.length - k = n := ⟨_, rfl⟩
  induction n generalizing k with
  | zero => omega
  | succ n ih =>
    have hk : k < l.length := by omega
    cases hp : p l[k] with
    | true =>
      rcases Nat.eq_or_lt_of_le h1 with rfl | hlt
      · exact hp
      · exact ih (k + 1) hlt (by rw [← scS_step p l k hk hp]; exact h2) (by omega)
    | false =>
      rw [scS_here p l k hk hp] at h2
      omega
theorem scT_length (l : List UInt8) (k j : Nat) (h : j ≤ l.length) : (scT l k j).length = j - k := by unfold scT; simp; omega
theorem scT_get (l : List UInt8) (k j i : Nat) (h : i < j - k) (h2 : j ≤ l.length) : (scT l k j)[i]'(by rw [scT_length l k j h2]; exact h) = l[k + i] := by
  unfold scT
  simp
theorem scT_own (l : List UInt8) (k : Nat) : scT l k l.length = l.drop k := by unfold scT; exact List.take_of_length_le (by simp)
theorem scE_blank (c : UInt8) : scE 32 c = scB c := by unfold scE scB; rw [if_pos rfl]
theorem scB_iff {c : UInt8} {b : Bool} (h : scB c = b) : decide ((c.toNat : Int) ≤ 32) = b := by
  rw [← h]; unfold scB; rw [Bool.eq_iff_iff]; simp; omega
/-- Ahead of a text there are other bytes. -/
theorem scS_ahead (p : UInt8 → Bool) (h l : List UInt8) (k : Nat) : scS p (h ++ l) (h.length + k) = h.length + scS p l k := by
  unfold scS
  rw [List.drop_append, List.drop_eq_nil_of_le (show h.length ≤ h.length + k by omega)]
  simp
  omega
theorem scS_over (p : UInt8 → Bool) (h l : List UInt8) (hp : ∀ c ∈ h, p c = true) : scS p (h ++ l) 0 = h.length + scS p l 0 := by
  unfold scS
  rw [List.drop_zero, List.drop_zero, List.takeWhile_append_of_pos hp]
  simp
theorem scT_ahead (h l : List UInt8) (k j : Nat) : scT (h ++ l) (h.length + k) (h.length + j) = scT l k j := by
  unfold scT
  rw [List.drop_append, List.drop_eq_nil_of_le (show h.length ≤ h.length + k by omega)]
  simp
  congr 1
  omega
/-- In capitals. -/
def scU (c : UInt8) : UInt8 := if 97 ≤ c.toNat ∧ c.toNat ≤ 122 then c - 32 else c
theorem scU_small (c : UInt8) (h : 97 ≤ c.toNat) (h2 : c.toNat ≤ 122) : (scU c).toNat = c.toNat - 32 := by
  unfold scU
  rw [if_pos ⟨h, h2⟩, UInt8.toNat_sub_of_le]
  · rfl
  · rw [UInt8.le_iff_toNat_le]; show 32 ≤ _; omega
theorem scU_other (c : UInt8) (h : c.toNat < 97 ∨ 122 < c.toNat) : scU c = c := by
  unfold scU
  rw [if_neg (by omega)]
theorem scU_twice (c : UInt8) : scU (scU c) = scU c := by
  by_cases h : 97 ≤ c.toNat ∧ c.toNat ≤ 122
  · have := scU_small c h.1 h.2
    exact scU_other _ (by omega)
  · rw [scU_other c (by omega), scU_other c (by omega)]
end Go.Proofs.Ytoklocbdifefcaa
