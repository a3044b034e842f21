/-
  Who is in a queue, as eight marks; what becomes of them when one is put, taken or dropped. Nothing of a translated program is imported.
-/
import Derived.Test.YtoklocbdifefcaaQueueMath
namespace Go.Proofs.Ytoklocbdifefcaa

/-- Is k in the queue? -/
def inQ (l : List It) (k : Nat) : Bool := decide ((k : Int) ∈ idL l)
def inB (l : List It) : List Bool := (List.range 8).map (inQ l)
theorem inB_length (l : List It) : (inB l).length = 8 := by simp [inB]
theorem inB_get (l : List It) (k : Nat) (h : k < 8) : (inB l).getD k false = inQ l k := by
  simp [inB, List.getD, h]
theorem inB_nil : inB [] = [false, false, false, false, false, false, false, false] := by decide
theorem inB_eq {l l' : List It} {d : Nat} {v : Bool} (h : ∀ k, k < 8 → inQ l' k = if k = d then v else inQ l k) : (inB l).set d v = inB l' := by
  apply List.ext_getElem
  · simp [inB]
  · intro i h1 h2
    rw [inB_length] at h2
    rw [List.getElem_set]
    simp only [inB, List.getElem_map, List.getElem_range]
    rw [h i h2]
    by_cases e : d = i
    · rw [if_pos e, if_pos e.symm]
    · rw [if_neg e, if_neg (fun g => e g.symm)]
theorem ids_ou {n : Int} {l : List It} (g : Gd n l) (k : Nat) (h : k < l.length) (x : Int) : x ∈ idL (ouL k l) ↔ (x ∈ idL l ∧ x ≠ (l.getD k i0).d) := by
  have sp : l = l.take k ++ l[k] :: l.drop (k + 1) := by rw [← List.drop_eq_getElem_cons h, List.take_append_drop]
  have nd := nodup_ids g
  rw [getD_lt h]
  unfold idL at nd ⊢
  generalize hx : l[k] = e at *
  unfold ouL
  generalize l.take k = a at *
  generalize l.drop (k + 1) = b at *
  rw [sp] at nd ⊢
  simp only [List.map_append, List.map_cons, List.nodup_append, List.nodup_cons, List.mem_append, List.mem_cons] at nd ⊢
  obtain ⟨_, ⟨hb, _⟩, hab⟩ := nd
  constructor
  · rintro (h1 | h1)
    · exact ⟨.inl h1, fun e2 => hab x h1 e.d (.inl rfl) e2⟩
    · exact ⟨.inr (.inr h1), fun e2 => hb (e2 ▸ h1)⟩
  · rintro ⟨h1 | h1 | h1, h2⟩
    · exact .inl h1
    · exact absurd h1 h2
    · exact .inr h1
theorem ids_in' (x : It) (l : List It) (y : Int) : y ∈ idL (inL x l) ↔ (y ∈ idL l ∨ y = x.d) := by
  have sp : l = l.take (bhA x l) ++ l.drop (bhA x l) := (List.take_append_drop _ l).symm
  have e : idL l = (l.take (bhA x l)).map (·.d) ++ (l.drop (bhA x l)).map (·.d) := by rw [← List.map_append, List.take_append_drop]; rfl
  rw [e]
  unfold idL inL
  simp only [List.map_append, List.map_cons, List.mem_append, List.mem_cons]
  constructor
  · rintro (h | h | h)
    · exact .inl (.inl h)
    · exact .inr h
    · exact .inl (.inr h)
  · rintro ((h | h) | h)
    · exact .inl h
    · exact .inr (.inr h)
    · exact .inr (.inl h)
/-- The first one is taken. -/
theorem take_none {l : List It} (e : l = []) : nthL l 0 = [] ∧ nthD l 0 = 0 ∧ nthB l = false := by subst e; exact ⟨rfl, rfl, rfl⟩
theorem take_some {n : Int} {l : List It} (g : Gd n l) (e : l ≠ []) : ∃ d : Nat, d < 8 ∧ nthD l 0 = (d : Int) ∧ nthB l = true ∧ inQ l d = true ∧ (inB l).set d false = inB (nthL l 0) := by
  have h0 : 0 < l.length := length_pos_of e
  have ea : atN l 0 = 0 := by unfold atN; simp
  have hm : (l.getD 0 i0) ∈ l := by rw [getD_lt h0]; exact List.getElem_mem h0
  have hi := it_iff.1 (g.1 _ hm)
  refine ⟨(l.getD 0 i0).d.toNat, by omega, ?_, ?_, ?_, ?_⟩
  · unfold nthD; rw [if_neg e, ea]; omega
  · cases l
    · exact absurd rfl e
    · rfl
  · unfold inQ
    rw [Int.toNat_of_nonneg (by omega)]
    exact decide_eq_true (List.mem_map.2 ⟨_, hm, rfl⟩)
  · refine inB_eq fun k hk => ?_
    unfold inQ nthL
    rw [if_neg e, ea]
    have := ids_ou g 0 h0 (k : Int)
    by_cases hk2 : k = (l.getD 0 i0).d.toNat
    · rw [if_pos hk2]
      refine decide_eq_false fun h => (this.1 h).2 (by omega)
    · rw [if_neg hk2]
      exact decide_eq_decide.2 ⟨fun h => (this.1 h).1, fun h => this.2 ⟨h, by omega⟩⟩
theorem dr_mem {l : List It} (d : Nat) : drB l (d : Int) = inQ l d := by
  unfold drB inQ
  refine decide_eq_decide.2 ⟨fun h => ?_, fun h => ?_⟩
  · have := pl_at (d : Int) l h
    rw [getD_lt h] at this
    exact List.mem_map.2 ⟨_, List.getElem_mem h, this⟩
  · obtain ⟨o, ho, e⟩ := List.mem_map.1 h
    rcases Nat.lt_or_eq_of_le (pl_le (d : Int) l) with g | g
    · exact g
    · exact absurd e (pl_none.1 g o ho)
theorem dr_marks {n : Int} {l : List It} (g : Gd n l) (d : Nat) : (inB l).set d false = inB (drL l d) := by
  refine inB_eq fun k hk => ?_
  unfold inQ drL
  by_cases h : plA (d : Int) l < l.length
  · rw [if_pos h]
    have := ids_ou g _ h (k : Int)
    rw [pl_at _ _ h] at this
    by_cases e : k = d
    · rw [if_pos e]
      exact decide_eq_false fun h => (this.1 h).2 (by omega)
    · rw [if_neg e]
      exact decide_eq_decide.2 ⟨fun h => (this.1 h).1, fun h => this.2 ⟨h, by omega⟩⟩
  · rw [if_neg h]
    by_cases e : k = d
    · rw [if_pos e, e]
      have hd := dr_mem (l := l) d
      unfold drB inQ at hd
      rw [← hd]
      exact decide_eq_false h
    · rw [if_neg e]
theorem pu_mem {n : Int} {l : List It} (d : Nat) (hd : d < 8) (p : Int) (hp : 0 ≤ p ∧ p ≤ 4) (hn : n ≠ 1099511627776) : puB n l d p = !inQ l d := by
  unfold puB inQ
  rw [← decide_not]
  refine decide_eq_decide.2 ⟨fun h hm => ?_, fun h => ⟨by omega, by omega, hp.1, hp.2, hn, fun o ho e => h (List.mem_map.2 ⟨o, ho, e⟩)⟩⟩
  obtain ⟨o, ho, e⟩ := List.mem_map.1 hm
  exact h.2.2.2.2.2 o ho e
theorem pu_marks {n : Int} {l : List It} (d : Nat) (hd : d < 8) (p : Int) (hp : 0 ≤ p ∧ p ≤ 4) (hn : n ≠ 1099511627776) : (inB l).set d true = inB (puL n l d p) := by
  refine inB_eq fun k hk => ?_
  unfold puL
  rw [pu_mem d hd p hp hn]
  cases h : inQ l d
  · simp only [Bool.not_false, if_true]
    unfold inQ
    have := ids_in' ⟨(d : Int), p, n⟩ l (k : Int)
    by_cases e : k = d
    · rw [if_pos e]
      exact decide_eq_true (this.2 (.inr (by rw [e])))
    · rw [if_neg e]
      refine decide_eq_decide.2 ⟨fun h => ?_, fun h => this.2 (.inl h)⟩
      rcases this.1 h with g | g
      · exact g
      · simp only at g; omega
  · simp only [Bool.not_true, if_neg (show ¬ (false = true) by decide)]
    by_cases e : k = d
    · rw [if_pos e, e, h]
    · rw [if_neg e]
/-- How many of the first k are in the queue. -/
def cnQ (l : List It) : Nat → Nat
  | 0 => 0
  | k + 1 => cnQ l k + if inQ l k = true then 1 else 0
theorem cn_le (l : List It) (k : Nat) : cnQ l k ≤ k := by
  induction k with
  | zero => exact Nat.le_refl _
  | succ k ih => unfold cnQ; split <;> omega
theorem cn_count (l : List It) (hn : (idL l).Nodup) (k : Nat) : cnQ l k = ((idL l).filter fun d => decide (0 ≤ d ∧ d < (k : Int))).length := by
  induction k with
  | zero =>
    have : ((idL l).filter fun d => decide (0 ≤ d ∧ d < ((0 : Nat) : Int))) = [] := List.filter_eq_nil_iff.2 fun d _ => by simp
    rw [this]; rfl
  | succ k ih =>
    unfold cnQ
    rw [ih]
    unfold inQ
    clear ih
    generalize idL l = m at *
    induction m with
    | nil => simp
    | cons x m ih =>
      rw [List.nodup_cons] at hn
      have ih := ih hn.2
      by_cases e : x = (k : Int)
      · subst e
        have hk : (decide ((k : Int) ∈ m) = true) = False := by simp [hn.1]
        rw [if_neg (by rw [hk]; exact not_false)] at ih
        rw [if_pos (by simp)]
        rw [List.filter_cons_of_neg (by simp), List.filter_cons_of_pos (by simp; omega)]
        simp only [List.length_cons]
        omega
      · have h1 : decide ((k : Int) ∈ x :: m) = decide ((k : Int) ∈ m) := by
          refine decide_eq_decide.2 ⟨fun h => ?_, fun h => List.mem_cons_of_mem _ h⟩
          rcases List.mem_cons.1 h with g | g
          · exact absurd g.symm e
          · exact g
        rw [h1]
        by_cases h2 : 0 ≤ x ∧ x < (k : Int)
        · rw [List.filter_cons_of_pos (by simpa using h2), List.filter_cons_of_pos (by simp; omega)]
          simp only [List.length_cons]
          omega
        · rw [List.filter_cons_of_neg (by simpa using h2), List.filter_cons_of_neg (by simp; omega)]
          exact ih
theorem cn_all {n : Int} {l : List It} (g : Gd n l) : cnQ l 8 = l.length := by
  rw [cn_count l (nodup_ids g) 8]
  have : ((idL l).filter fun d => decide (0 ≤ d ∧ d < ((8 : Nat) : Int))) = idL l := List.filter_eq_self.2 fun d hd => by
    have := ids_in g d hd
    exact decide_eq_true (by omega)
  rw [this]
  simp [idL]
theorem next_put {n : Int} {l : List It} {d p : Int} : puN n l d p = n ∨ puN n l d p = n + 1 := by
  unfold puN; split
  · exact .inr rfl
  · exact .inl rfl
end Go.Proofs.Ytoklocbdifefcaa
