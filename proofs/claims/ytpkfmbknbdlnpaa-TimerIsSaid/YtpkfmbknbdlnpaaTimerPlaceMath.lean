/-
  The first place of what holds of a nap; the place of a number; what lies ahead of it and behind it.
-/
import Derived.Test.YtpkfmbknbdlnpaaTimerMath
namespace Go.Proofs.Ytpkfmbknbdlnpaa

/-- The first place of what p holds of. -/
def nfA (p : Np → Bool) : List Np → Nat
  | [] => 0
  | x :: l => if p x = true then 0 else nfA p l + 1
def nfI (p : Np → Bool) (l : List Np) : Int := if nfA p l < l.length then (nfA p l : Int) else -1
theorem nf_eq (p : Np → Bool) (l : List Np) (j : Nat) (hj : j ≤ l.length) (h : ∀ i, i < j → p (l.getD i nz) = false) (h2 : j < l.length → p (l.getD j nz) = true) : nfA p l = j := by
  induction l generalizing j with
  | nil => have : j = 0 := by simpa using hj
           subst this; rfl
  | cons x l ih =>
    unfold nfA
    cases j with
    | zero =>
      have := h2 (by simp)
      simp at this
      rw [if_pos this]
    | succ j =>
      have h0 := h 0 (by omega)
      simp at h0
      rw [if_neg (by rw [h0]; decide), ih j (by simpa using hj) (fun i hi => by simpa using h (i + 1) (by omega)) (fun hl => by simpa using h2 (by simpa using hl))]
theorem nf_yes {p : Np → Bool} {l : List Np} {j : Nat} (hj : j < l.length) (h : ∀ i, i < j → p (l.getD i nz) = false) (h2 : p (l.getD j nz) = true) : nfI p l = j := by
  unfold nfI
  rw [nf_eq p l j (by omega) h (fun _ => h2), if_pos hj]
theorem nf_none {p : Np → Bool} {l : List Np} (h : ∀ i, i < l.length → p (l.getD i nz) = false) : nfI p l = -1 := by
  unfold nfI
  rw [nf_eq p l l.length (Nat.le_refl _) h (fun hl => absurd hl (Nat.lt_irrefl _)), if_neg (Nat.lt_irrefl _)]
def ndP (d : Int) (o : Np) : Bool := o.d == d
theorem nf_any (p : Np → Bool) (l : List Np) : l.any p = decide (nfA p l < l.length) := by
  induction l with
  | nil => rfl
  | cons x l ih =>
    rw [List.any_cons, ih, nfA]
    cases hx : p x <;> simp
theorem nf_hs (d : Int) (l : List Np) : hsB l d = decide (nfA (ndP d) l < l.length) := nf_any (ndP d) l
/-- The place of a number: there is one, or it is -1. -/
theorem nf_yes_hs {d : Int} {l : List Np} (h : hsB l d = true) : ∃ k, k < l.length ∧ nfI (ndP d) l = (k : Int) ∧ nfA (ndP d) l = k := by
  rw [nf_hs, decide_eq_true_eq] at h
  exact ⟨_, h, by unfold nfI; rw [if_pos h], rfl⟩
theorem nf_no_hs {d : Int} {l : List Np} (h : hsB l d = false) : nfI (ndP d) l = -1 := by
  rw [nf_hs, decide_eq_false_iff_not] at h
  unfold nfI; rw [if_neg h]
theorem nf_ge (d : Int) (l : List Np) : hsB l d = decide (0 ≤ nfI (ndP d) l) := by
  cases h : hsB l d
  · rw [nf_no_hs h]; rfl
  · obtain ⟨k, _, h2, _⟩ := nf_yes_hs h
    rw [h2]; simp
/-- Where each has its own number: dropping one is what lies ahead of it, and what lies behind. -/
theorem dp_cut {l : List Np} {d : Int} (g : Gn l) (h : hsB l d = true) : dpL l d = l.take (nfA (ndP d) l) ++ l.drop (nfA (ndP d) l + 1) := by
  have gp := g.2
  clear g
  induction l with
  | nil => simp [hsB] at h
  | cons x l ih =>
    rw [List.pairwise_cons] at gp
    have ih2 := ih
    unfold dpL ndP at ih2
    clear ih
    unfold dpL nfA ndP
    by_cases e : x.d = d
    · have e2 : l.filter (fun o => !(o.d == d)) = l := List.filter_eq_self.2 fun o ho => by
        have := (gp.1 o ho).1
        simp only [Bool.not_eq_true', beq_eq_false_iff_ne, ne_eq]
        intro he; exact this (by rw [e, he])
      rw [List.filter_cons_of_neg (by simpa using e), e2, if_pos (by simpa using e)]
      simp
    · rw [List.filter_cons_of_pos (by simpa using e), if_neg (by simpa using e)]
      have h2 : hsB l d = true := by
        unfold hsB at h ⊢
        rw [List.any_cons] at h
        simpa [e] using h
      rw [List.take_succ_cons, List.drop_succ_cons, List.cons_append]
      exact congrArg (x :: ·) (ih2 h2 gp.2)
theorem dp_nohs {l : List Np} {d : Int} (h : hsB l d = false) : dpL l d = l := by
  unfold dpL
  exact List.filter_eq_self.2 fun o ho => by
    have := hs_no.1 h o ho
    simpa using this
/-- Where no time falls: who is due is what stands ahead, who sleeps on what stands behind. -/
theorem up_take {l : List Np} (g : Gn l) (t : Int) : l.take (upL l t).length = upL l t := by
  have h := up_ov (gn_times g) t
  have : l.take (upL l t).length = (upL l t ++ ovL l t).take (upL l t).length := by rw [h]
  rw [this, List.take_left']
  rfl
theorem ov_drop {l : List Np} (g : Gn l) (t : Int) : l.drop (upL l t).length = ovL l t := by
  have h := up_ov (gn_times g) t
  have : l.drop (upL l t).length = (upL l t ++ ovL l t).drop (upL l t).length := by rw [h]
  rw [this, List.drop_left']
  rfl
/-- The first that sleeps longer: all ahead of it are due, and none else. -/
theorem up_stop {l : List Np} (g : Gn l) (t : Int) (j : Nat) (hj : j < l.length) (h : ∀ q, q < j → (l.getD q nz).t ≤ t) (h2 : t < (l.getD j nz).t) : upL l t = l.take j := by
  have hl := up_take g t
  have e : (upL l t).length = j := by
    have hsp := up_ov (gn_times g) t
    rcases Nat.lt_trichotomy (upL l t).length j with h3 | h3 | h3
    · exfalso
      have h4 := h _ h3
      have h5 : (l.getD (upL l t).length nz) ∈ ovL l t := by
        rw [nget_lt (by omega)]
        have : l[(upL l t).length]'(by omega) ∈ l.drop (upL l t).length := List.mem_drop_iff_getElem.2 ⟨0, by omega, rfl⟩
        rw [ov_drop g t] at this
        exact this
      unfold ovL at h5
      have := of_decide_eq_true (List.mem_filter.1 h5).2
      omega
    · exact h3
    · exfalso
      have h5 : (l.getD j nz) ∈ upL l t := by
        rw [nget_lt hj, ← hl]
        exact List.mem_take_iff_getElem.2 ⟨j, by omega, rfl⟩
      unfold upL at h5
      have := of_decide_eq_true (List.mem_filter.1 h5).2
      omega
  rw [← hl, e]
theorem up_whole {l : List Np} (t : Int) (h : ∀ q, q < l.length → (l.getD q nz).t ≤ t) : upL l t = l := by
  unfold upL
  refine List.filter_eq_self.2 fun o ho => ?_
  obtain ⟨q, hq, rfl⟩ := List.mem_iff_getElem.1 ho
  have := h q hq
  rw [nget_lt hq] at this
  simpa using this
end Go.Proofs.Ytpkfmbknbdlnpaa
