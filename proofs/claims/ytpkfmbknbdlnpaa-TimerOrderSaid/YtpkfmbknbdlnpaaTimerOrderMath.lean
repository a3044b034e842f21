/-
  One more sleeps: where it lies among those that slept, and what comes of taking it out again.
-/
import Derived.Test.YtpkfmbknbdlnpaaTimerMath
namespace Go.Proofs.Ytpkfmbknbdlnpaa

section
variable {l : List Np} {d t : Int}
theorem pn_eq (h : pnB l d t = true) : pnL l d t = upL l t ++ ⟨d, t⟩ :: ovL l t := if_pos h
theorem pn_no (h : pnB l d t = false) : pnL l d t = l := if_neg (by simp [h])
theorem pn_has (h : pnB l d t = true) : hsB l d = false := by unfold pnB at h; simp at h; exact h.2
theorem pn_len (g : Gn l) (h : pnB l d t = true) : (pnL l d t).length = l.length + 1 := by
  rw [pn_eq h]
  have := congrArg List.length (up_ov (gn_times g) t)
  simp at this ⊢
  omega
theorem pn_neB (h : pnB l d t = true) : neB (pnL l d t) = true := by rw [pn_eq h]; unfold neB; simp
theorem pn_dpB (h : pnB l d t = true) : dpB (pnL l d t) d = true := by
  rw [pn_eq h]
  exact hs_yes.2 ⟨⟨d, t⟩, by simp, rfl⟩
theorem dp_none {m : List Np} (h : ∀ o ∈ m, o.d ≠ d) : dpL m d = m := List.filter_eq_self.2 fun o ho => by simp [h o ho]
theorem pn_dpL (g : Gn l) (h : pnB l d t = true) : dpL (pnL l d t) d = l := by
  have hs := hs_no.1 (pn_has h)
  rw [pn_eq h]
  have e : dpL (upL l t ++ ⟨d, t⟩ :: ovL l t) d = dpL (upL l t) d ++ dpL (ovL l t) d := by unfold dpL; simp
  have e1 : dpL (upL l t) d = upL l t := dp_none fun o ho => hs o (List.mem_filter.1 ho).1
  have e2 : dpL (ovL l t) d = ovL l t := dp_none fun o ho => hs o (List.mem_filter.1 ho).1
  rw [e, e1, e2, up_ov (gn_times g)]
/-- The earliest. -/
theorem ne_le {m : List Np} (g : m.Pairwise fun a b => a.t ≤ b.t) (j : Nat) (h : j < m.length) : neI m ≤ (m.getD j nz).t := by
  unfold neI
  rw [if_neg (by rintro rfl; simp at h), nget_lt h, nget_lt (by omega : 0 < m.length)]
  rcases Nat.eq_zero_or_pos j with rfl | h0
  · exact Int.le_refl _
  · exact List.pairwise_iff_getElem.1 g 0 j (by omega) h h0
theorem pn_earliest (g : Gn l) (h : pnB l d t = true) (j : Nat) (hj : j < (pnL l d t).length) : neI (pnL l d t) ≤ ((pnL l d t).getD j nz).t :=
  ne_le (gn_times (by rw [pn_eq h]; exact gn_put g h)) j hj
theorem pn_behind (h : pnB l d t = true) (j : Nat) (hj : j < (pnL l d t).length) (hp : (upL l t).length < j) : t < ((pnL l d t).getD j nz).t := by
  rw [nget_lt hj]
  have e : (pnL l d t)[j] = (ovL l t)[j - (upL l t).length - 1]'(by rw [pn_eq h] at hj; simp at hj; omega) := by
    have hq := pn_eq h
    simp only [hq]
    rw [List.getElem_append_right (by omega)]
    rw [List.getElem_cons]
    simp [show j - (upL l t).length ≠ 0 by omega]
  rw [e]
  have := List.getElem_mem (l := ovL l t) (n := j - (upL l t).length - 1) (by rw [pn_eq h] at hj; simp at hj; omega)
  exact of_decide_eq_true (List.mem_filter.1 this).2
theorem pn_here (h : pnB l d t = true) (j : Nat) (hj : j < (pnL l d t).length) : (((pnL l d t).getD j nz).d == d) = decide (j = (upL l t).length) := by
  have hs := hs_no.1 (pn_has h)
  have hq := pn_eq h
  rw [nget_lt hj]
  simp only [hq]
  rcases Nat.lt_trichotomy j (upL l t).length with h1 | h1 | h1
  · rw [List.getElem_append_left h1]
    have := hs _ (List.mem_filter.1 (List.getElem_mem h1)).1
    simp only [show ¬ j = (upL l t).length by omega, decide_false]
    simpa using this
  · subst h1
    simp
  · have hlt : j - (upL l t).length - 1 < (ovL l t).length := by rw [hq] at hj; simp at hj; omega
    have e : (upL l t ++ ⟨d, t⟩ :: ovL l t)[j]'(by rw [← hq]; exact hj) = (ovL l t)[j - (upL l t).length - 1]'hlt := by
      rw [List.getElem_append_right (by omega)]
      rw [List.getElem_cons]
      simp [show j - (upL l t).length ≠ 0 by omega]
    rw [e]
    have := hs _ (List.mem_filter.1 (List.getElem_mem hlt)).1
    simp only [show ¬ j = (upL l t).length by omega, decide_false]
    simpa using this
theorem pn_place (h : pnB l d t = true) : (upL l t).length < (pnL l d t).length := by rw [pn_eq h]; simp
end
end Go.Proofs.Ytpkfmbknbdlnpaa
