/-
  Plain facts on the operations' names: none is twice there, all are in capitals, none is empty; who is found by a name.
-/
import Derived.Test.YtkpomphjicoaeaaOpMath
namespace Go.Proofs.Ytkpomphjicoaeaa

theorem opT_nodup : (opT.map (·.1)).Nodup := by decide +kernel
theorem opR_apart (i j : Nat) (hj : j < 111) (h : i < j) : (opR (i : Int)).1 ≠ (opR (j : Int)).1 := by
  rw [opR_nat i (by omega), opR_nat j hj]
  have := List.pairwise_iff_getElem.1 opT_nodup i j (by rw [List.length_map, opT_length]; omega) (by rw [List.length_map, opT_length]; exact hj) h
  simpa using this
theorem opR_inj (i j : Nat) (hi : i < 111) (hj : j < 111) (h : (opR (i : Int)).1 = (opR (j : Int)).1) : i = j := by
  rcases Nat.lt_trichotomy i j with e | e | e
  · exact (opR_apart i j hj e h).elim
  · exact e
  · exact (opR_apart j i hi e h.symm).elim
theorem opR_upper (k : Nat) (h : k < 111) : (opR (k : Int)).1.map scU = (opR (k : Int)).1 :=
  of_decide_eq_true (opR_each (p := fun _ r => decide (r.1.map scU = r.1)) (by decide +kernel) k h)
theorem opR_some (k : Nat) (h : k < 111) : (opR (k : Int)).1 ≠ [] :=
  of_decide_eq_true (opR_each (p := fun _ r => decide (r.1 ≠ [])) (by decide +kernel) k h)
/-- Who is found by an operation's name: itself, if it is not hidden. -/
theorem opF_own (k : Nat) (h : k < 111) : opF (opR (k : Int)).1 = if opH (opR (k : Int)).1 then (0, false) else ((k : Int), true) := by
  cases hh : opH (opR (k : Int)).1 with
  | false =>
    rw [if_neg (by decide)]
    refine opF_yes _ k h ?_ fun i hi => ?_
    · unfold opQ; rw [hh]; simp
    · unfold opQ
      rw [decide_eq_false fun e => by have := opR_inj i k (by omega) h e; omega]
      rfl
  | true =>
    rw [if_pos rfl]
    refine opF_no _ fun i hi => ?_
    unfold opQ
    by_cases e : (opR (i : Int)).1 = (opR (k : Int)).1
    · rw [e, hh]; simp
    · rw [decide_eq_false e]; rfl
/-- What is found has that name, and is not hidden. -/
theorem opF_has (u : List UInt8) (v : Int) (h : opF u = (v, true)) : ∃ j : Nat, j < 111 ∧ v = (j : Int) ∧ (opR (j : Int)).1 = u ∧ opH (opR (j : Int)).1 = false := by
  unfold opF at h
  cases hf : (List.range 111).find? (opQ u) with
  | none => rw [hf] at h; simp at h
  | some j =>
    rw [hf] at h
    simp only [Prod.mk.injEq, and_true] at h
    obtain ⟨h1, h2, _⟩ := List.find?_range_eq_some.1 hf
    unfold opQ at h1
    simp at h1 h2
    exact ⟨j, h2, h.symm, h1⟩
end Go.Proofs.Ytkpomphjicoaeaa
