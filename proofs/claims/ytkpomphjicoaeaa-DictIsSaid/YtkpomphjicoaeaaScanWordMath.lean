/-
  Plain facts on words: what is told word by word is the text without blanks.
-/
import Derived.Test.YtkpomphjicoaeaaScanMath
namespace Go.Proofs.Ytkpomphjicoaeaa

/-- A text without its blanks. -/
def nbL (l : List UInt8) : List UInt8 := l.filter fun c => !scB c
theorem nbL_append (a b : List UInt8) : nbL (a ++ b) = nbL a ++ nbL b := List.filter_append ..
theorem nbL_blanks (a : List UInt8) (h : ∀ c ∈ a, scB c = true) : nbL a = [] := by
  unfold nbL
  rw [List.filter_eq_nil_iff]
  intro c hc
  simp [h c hc]
theorem nbL_none (a : List UInt8) (h : ∀ c ∈ a, scB c = false) : nbL a = a := by
  unfold nbL
  rw [List.filter_eq_self]
  intro c hc
  simp [h c hc]
theorem scT_mem {l : List UInt8} {k j : Nat} (hj : j ≤ l.length) {c : UInt8} (h : c ∈ scT l k j) : ∃ i, ∃ hi : i < l.length, k ≤ i ∧ i < j ∧ l[i] = c := by
  obtain ⟨m, hm, rfl⟩ := List.getElem_of_mem h
  have hl := scT_length l k j hj
  have hm' : m < j - k := by omega
  exact ⟨k + m, by omega, by omega, by omega, (scT_get l k j m hm' hj).symm⟩
theorem drop_parts (l : List UInt8) (k j : Nat) (h : k ≤ j) : l.drop k = scT l k j ++ l.drop j := by
  unfold scT
  have : l.drop j = (l.drop k).drop (j - k) := by rw [List.drop_drop]; congr 1; omega
  rw [this, List.take_append_drop]
theorem scN32 (c : UInt8) : scN 32 c = !scB c := by unfold scN; rw [scE_blank]
/-- The next word from k on, and what is left behind it. -/
theorem word_facts (l : List UInt8) (k a j n : Nat) (hk : k ≤ l.length) (ha : scS scB l k = a) (hj : scS (scN 32) l a = j) (hn : min (j + 1) l.length = n) :
    k ≤ n ∧ n ≤ l.length ∧ (k < l.length → k < n) ∧ (scT l a j ≠ [] → k < n) ∧ (∀ c ∈ scT l a j, scB c = false) ∧ nbL (l.drop k) = scT l a j ++ nbL (l.drop n) := by
  have h1 : k ≤ a := by rw [← ha]; exact scS_ge _ _ _
  have h2 : a ≤ l.length := by rw [← ha]; exact scS_le _ _ _ hk
  have h3 : a ≤ j := by rw [← hj]; exact scS_ge _ _ _
  have h4 : j ≤ l.length := by rw [← hj]; exact scS_le _ _ _ h2
  have hw : ∀ c ∈ scT l a j, scB c = false := by
    intro c hc
    obtain ⟨i, hi, hi1, hi2, rfl⟩ := scT_mem h4 hc
    have := scS_in (scN 32) l a i hi1 (by rw [hj]; exact hi2) hi
    rw [scN32] at this
    simpa using this
  refine ⟨by omega, by omega, by omega, ?_, hw, ?_⟩
  · intro h
    have hl := scT_length l a j h4
    have : (scT l a j).length ≠ 0 := fun h' => h (List.eq_nil_of_length_eq_zero h')
    omega
  · rw [drop_parts l k a h1, drop_parts l a j h3, nbL_append, nbL_append, nbL_none _ hw]
    have hb : nbL (scT l k a) = [] := by
      apply nbL_blanks
      intro c hc
      obtain ⟨i, hi, hi1, hi2, rfl⟩ := scT_mem h2 hc
      exact scS_in scB l k i hi1 (by rw [ha]; exact hi2) hi
    rw [hb, List.nil_append]
    congr 1
    by_cases hje : j < l.length
    · have hs := scS_stop (scN 32) l a (by rw [hj]; exact hje)
      simp only [hj] at hs
      rw [scN32] at hs
      have hn1 : n = j + 1 := by omega
      rw [hn1, List.drop_eq_getElem_cons hje]
      unfold nbL
      rw [List.filter_cons, if_neg (by simpa using hs)]
    · have hn1 : n = j := by omega
      rw [hn1]
/-- The first k bytes without blanks, and one more. -/
theorem nbL_next (l : List UInt8) (k : Nat) (h : k < l.length) : nbL (l.take (k + 1)) = nbL (l.take k) ++ (if scB l[k] then [] else [l[k]]) := by
  rw [List.take_succ_eq_append_getElem h, nbL_append]
  congr 1
  unfold nbL
  cases hb : scB l[k] <;> simp [hb]
theorem nbL_le (l : List UInt8) : (nbL l).length ≤ l.length := List.length_filter_le _ _
end Go.Proofs.Ytkpomphjicoaeaa
