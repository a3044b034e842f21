/-
  Plain facts on lines: the parts of a text between its bytes 10.
-/
import Derived.Test.YtdffejpbcoagfaaScanMath
import Derived.Lib.IndexMore
namespace Go.Proofs.Ytdffejpbcoagfaa

/-- The lines of a text. -/
def scL : List UInt8 → List (List UInt8)
  | [] => [[]]
  | c :: l => if c = 10 then [] :: scL l else match scL l with | [] => [[c]] | h :: t => (c :: h) :: t
theorem scL_ne (l : List UInt8) : scL l ≠ [] := by
  cases l with
  | nil => simp [scL]
  | cons c l =>
    unfold scL
    split
    · simp
    · split <;> simp
theorem scL_cons (c : UInt8) (l h : List UInt8) (t : List (List UInt8)) (hc : c ≠ 10) (hl : scL l = h :: t) : scL (c :: l) = (c :: h) :: t := by
  unfold scL
  rw [if_neg hc, hl]
theorem prefix10 (c : UInt8) (l : List UInt8) : [(10 : UInt8)].isPrefixOf (c :: l) = (10 == c) := by simp [List.isPrefixOf]
theorem scL_miss : ∀ (l : List UInt8), Lib.index l [10] = -1 → scL l = [l]
  | [], _ => rfl
  | c :: l, h => by
    unfold Lib.index at h
    rw [prefix10] at h
    by_cases hc : c = 10
    · subst hc; simp at h
    · have hb : ((10 : UInt8) == c) = false := by rw [Bool.eq_false_iff]; intro h'; exact hc (Eq.symm (by simpa using h'))
      rw [hb, if_neg (by decide)] at h
      have hi : Lib.index l [10] = -1 := by
        have := Lib.index_ge l [10]
        by_cases hi : Lib.index l [10] = -1
        · exact hi
        · rw [if_neg (by simpa using hi)] at h; omega
      exact scL_cons c l l [] hc (scL_miss l hi)
theorem scL_hit : ∀ (l : List UInt8) (i : Nat), Lib.index l [10] = (i : Int) → i < l.length ∧ scL l = l.take i :: scL (l.drop (i + 1)) ∧ l = l.take i ++ 10 :: l.drop (i + 1)
  | [], i, h => by simp [Lib.index] at h
  | c :: l, i, h => by
    unfold Lib.index at h
    rw [prefix10] at h
    by_cases hc : c = 10
    · subst hc
      simp at h
      obtain rfl : i = 0 := by omega
      refine ⟨by simp, ?_, by simp⟩
      simp [scL]
    · have hb : ((10 : UInt8) == c) = false := by rw [Bool.eq_false_iff]; intro h'; exact hc (Eq.symm (by simpa using h'))
      rw [hb, if_neg (by decide)] at h
      have := Lib.index_ge l [10]
      by_cases hi : Lib.index l [10] = -1
      · rw [if_pos (by simpa using hi)] at h; omega
      · rw [if_neg (by simpa using hi)] at h
        obtain ⟨j, rfl⟩ : ∃ j, i = j + 1 := ⟨i - 1, by omega⟩
        obtain ⟨h1, h2, h3⟩ := scL_hit l j (by omega)
        refine ⟨by simp; omega, ?_, ?_⟩
        · rw [scL_cons c l _ _ hc h2]; rfl
        · simp only [List.take_succ_cons, List.drop_succ_cons, List.cons_append]
          rw [← h3]
/-- What is cut off at the first byte 10. -/
theorem cut_lines (l : List UInt8) : (∃ h r, Lib.cut l [10] = (h, r, true) ∧ l = h ++ 10 :: r ∧ scL l = h :: scL r) ∨ (Lib.cut l [10] = (l, [], false) ∧ scL l = [l]) := by
  have hge := Lib.index_ge l [10]
  by_cases hi : Lib.index l [10] = -1
  · right
    refine ⟨?_, scL_miss l hi⟩
    unfold Lib.cut
    rw [if_neg (by omega)]
  · left
    obtain ⟨i, hi⟩ : ∃ i : Nat, Lib.index l [10] = (i : Int) := ⟨(Lib.index l [10]).toNat, by omega⟩
    obtain ⟨h1, h2, h3⟩ := scL_hit l i hi
    refine ⟨_, _, ?_, h3, h2⟩
    unfold Lib.cut
    rw [if_pos (by omega), hi]
    simp
theorem scL_length (l : List UInt8) : (scL l).length ≤ l.length + 1 := by
  induction l with
  | nil => simp [scL]
  | cons c l ih =>
    unfold scL
    split
    · simp; omega
    · split
      · simp
      · rename_i h; rw [h] at ih; simp at ih ⊢; omega
/-- No line has a byte 10. -/
theorem scL_none (l : List UInt8) : ∀ x ∈ scL l, ∀ c ∈ x, c ≠ 10 := by
  induction l with
  | nil => intro x hx c hc; simp [scL] at hx; subst hx; simp at hc
  | cons d l ih =>
    intro x hx c hc
    unfold scL at hx
    split at hx
    · rcases List.mem_cons.1 hx with rfl | hx
      · simp at hc
      · exact ih x hx c hc
    · rename_i hd
      split at hx
      · rename_i h; exact absurd h (scL_ne l)
      · rename_i h t he
        rcases List.mem_cons.1 hx with rfl | hx
        · rcases List.mem_cons.1 hc with rfl | hc
          · exact hd
          · exact ih h (by rw [he]; exact List.mem_cons_self) c hc
        · exact ih x (by rw [he]; exact List.mem_cons_of_mem _ hx) c hc
/-- Lines put together. -/
def scJ : List (List UInt8) → List UInt8
  | [] => []
  | [x] => x
  | x :: y :: t => x ++ 10 :: scJ (y :: t)
theorem scJ_cons (x : List UInt8) (L : List (List UInt8)) (h : L ≠ []) : scJ (x :: L) = x ++ 10 :: scJ L := by
  cases L with
  | nil => exact absurd rfl h
  | cons y t => rfl
theorem scJ_snoc (L : List (List UInt8)) (x : List UInt8) (h : L ≠ []) : scJ (L ++ [x]) = scJ L ++ [10] ++ x := by
  induction L with
  | nil => exact absurd rfl h
  | cons y t ih =>
    cases t with
    | nil => simp [scJ]
    | cons z t =>
      rw [List.cons_append, scJ_cons y _ (by simp), ih (by simp), scJ_cons y _ (by simp)]
      simp
theorem scJ_lines (l : List UInt8) : scJ (scL l) = l := by
  induction l with
  | nil => rfl
  | cons c l ih =>
    unfold scL
    split
    · rename_i h
      subst h
      rw [scJ_cons _ _ (scL_ne l), ih]
      rfl
    · split
      · rename_i h; exact absurd h (scL_ne l)
      · rename_i h t he
        rw [he] at ih
        cases t with
        | nil => simp [scJ] at ih ⊢; exact ih
        | cons y t => rw [scJ_cons _ _ (by simp)] at ih ⊢; rw [← ih]; rfl
/-- One byte more. -/
theorem scL_snoc (l : List UInt8) (c : UInt8) (A : List (List UInt8)) (b : List UInt8) (h : scL l = A ++ [b]) : scL (l ++ [c]) = if c = 10 then A ++ [b] ++ [[]] else A ++ [b ++ [c]] := by
  induction l generalizing A b with
  | nil =>
    have hA : A = [] ∧ b = [] := by
      cases A with
      | nil => simp [scL] at h; exact ⟨rfl, h⟩
      | cons x t => simp [scL] at h
    obtain ⟨rfl, rfl⟩ := hA
    simp [scL]
  | cons d l ih =>
    unfold scL at h
    by_cases hd : d = 10
    · subst hd
      rw [if_pos rfl] at h
      cases A with
      | nil =>
        simp at h
        exact absurd h.2 (scL_ne l)
      | cons x t =>
        simp at h
        obtain ⟨rfl, h⟩ := h
        have := ih t b h
        rw [List.cons_append]
        conv => lhs; unfold scL
        rw [if_pos rfl, this]
        split <;> simp
    · rw [if_neg hd] at h
      obtain ⟨x, t, hx⟩ : ∃ x t, scL l = x :: t := by
        cases hh : scL l with
        | nil => exact absurd hh (scL_ne l)
        | cons x t => exact ⟨x, t, rfl⟩
      rw [hx] at h
      simp only at h
      cases A with
      | nil =>
        simp at h
        obtain ⟨rfl, rfl⟩ := h
        have h2 := ih [] x hx
        rw [List.cons_append]
        by_cases hc : c = 10
        · rw [if_pos hc] at h2 ⊢
          exact scL_cons d _ x [[]] hd (by simpa using h2)
        · rw [if_neg hc] at h2 ⊢
          exact scL_cons d _ (x ++ [c]) [] hd (by simpa using h2)
      | cons y s =>
        simp at h
        obtain ⟨rfl, rfl⟩ := h
        have h2 := ih (x :: s) b hx
        rw [List.cons_append]
        by_cases hc : c = 10
        · rw [if_pos hc] at h2 ⊢
          exact scL_cons d _ x (s ++ [b] ++ [[]]) hd (by simpa using h2)
        · rw [if_neg hc] at h2 ⊢
          exact scL_cons d _ x (s ++ [b ++ [c]]) hd (by simpa using h2)
end Go.Proofs.Ytdffejpbcoagfaa
