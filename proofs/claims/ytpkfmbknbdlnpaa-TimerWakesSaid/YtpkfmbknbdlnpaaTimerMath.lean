/-
  Tasks that sleep, as lists: what such a list may be, where a new one stands, who is due, what comes of dropping one. Nothing of a translated program is imported.
-/
namespace Go.Proofs.Ytpkfmbknbdlnpaa

/-- A nap: who, until when. -/
structure Np where
  d : Int
  t : Int
instance : DecidableEq Np := fun a b => if h : a.d = b.d ∧ a.t = b.t then isTrue (by cases a; cases b; simp_all) else isFalse (by rintro rfl; simp at h)
def nz : Np := ⟨0, 0⟩
/-- May x be? -/
def npB (x : Np) : Bool := decide (0 ≤ x.d ∧ x.d < 8 ∧ 0 ≤ x.t ∧ x.t ≤ 1125899906842624)
/-- May each be, has each its own number, does no time fall? -/
def Gn (l : List Np) : Prop := (∀ x ∈ l, npB x = true) ∧ l.Pairwise fun a b => a.d ≠ b.d ∧ a.t ≤ b.t
instance (l : List Np) : Decidable (Gn l) := by unfold Gn; exact inferInstance
def Sn (l : List Np) : Prop := l.length ≤ 8 ∧ Gn l
instance (l : List Np) : Decidable (Sn l) := by unfold Sn; exact inferInstance
/-- What calls take of a list. -/
def tnL (l : List Np) : List Np := if Sn l then l else []
theorem np_iff {x : Np} : npB x = true ↔ (0 ≤ x.d ∧ x.d < 8 ∧ 0 ≤ x.t ∧ x.t ≤ 1125899906842624) := by unfold npB; simp
theorem gn_nil : Gn [] := ⟨by simp, List.Pairwise.nil⟩
theorem sn_nil : Sn [] := ⟨by simp, gn_nil⟩
theorem sn_tn (l : List Np) : Sn (tnL l) := by unfold tnL; split; assumption; exact sn_nil
theorem tn_ok {l : List Np} (h : Sn l) : tnL l = l := if_pos h
theorem nget_lt {l : List Np} {j : Nat} (h : j < l.length) : l.getD j nz = l[j] := by simp [List.getD, h]
theorem ntake_snoc (l : List Np) (j : Nat) (h : j < l.length) : l.take (j + 1) = l.take j ++ [l.getD j nz] := by
  rw [List.take_succ_eq_append_getElem h, nget_lt h]
theorem gn_snoc {l : List Np} {x : Np} : Gn (l ++ [x]) ↔ Gn l ∧ npB x = true ∧ ∀ o ∈ l, o.d ≠ x.d ∧ o.t ≤ x.t := by
  unfold Gn
  rw [List.pairwise_append]
  simp only [List.mem_append, List.mem_singleton, List.pairwise_singleton, true_and]
  constructor
  · rintro ⟨h1, h2, h3⟩
    exact ⟨⟨fun i hi => h1 i (.inl hi), h2⟩, h1 x (.inr rfl), fun o ho => h3 o ho x rfl⟩
  · rintro ⟨⟨h1, h2⟩, h3, h4⟩
    refine ⟨?_, h2, ?_⟩
    · rintro i (hi | rfl)
      · exact h1 i hi
      · exact h3
    · rintro o ho _ rfl
      exact h4 o ho
/-- One more, held against all ahead, or by its time against the last one alone. -/
theorem gn_next (l : List Np) (j : Nat) (h : j < l.length) : Gn (l.take (j + 1)) ↔ (Gn (l.take j) ∧ npB (l.getD j nz) = true ∧ (∀ o ∈ l.take j, o.d ≠ (l.getD j nz).d) ∧ (0 < j → (l.getD (j - 1) nz).t ≤ (l.getD j nz).t)) := by
  rw [ntake_snoc l j h, gn_snoc]
  constructor
  · rintro ⟨h1, h2, h3⟩
    refine ⟨h1, h2, fun o ho => (h3 o ho).1, fun hj => (h3 _ ?_).2⟩
    rw [nget_lt (by omega)]
    exact List.mem_take_iff_getElem.2 ⟨j - 1, by omega, rfl⟩
  · rintro ⟨h1, h2, h3, h4⟩
    refine ⟨h1, h2, fun o ho => ⟨h3 o ho, ?_⟩⟩
    obtain ⟨i, hi, rfl⟩ := List.mem_take_iff_getElem.1 ho
    have hj : 0 < j := by omega
    have g := h4 hj
    rw [nget_lt (by omega)] at g
    by_cases e : i = j - 1
    · subst e; exact g
    · have := (List.pairwise_iff_getElem.1 h1.2) i (j - 1) (by simp; omega) (by simp; omega) (by omega)
      have h5 : l[i].t ≤ l[j - 1].t := by simpa using this.2
      omega
theorem gn_take_no {l : List Np} {j : Nat} (h : ¬ Gn (l.take j)) : ¬ Gn l := fun g => h ⟨fun i hi => g.1 i (List.mem_of_mem_take hi), g.2.sublist (List.take_sublist j l)⟩
theorem gn_sub {l m : List Np} (g : Gn l) (h : m.Sublist l) : Gn m := ⟨fun i hi => g.1 i (h.subset hi), g.2.sublist h⟩
theorem sn_sub {l m : List Np} (g : Sn l) (h : m.Sublist l) : Sn m := ⟨Nat.le_trans h.length_le g.1, gn_sub g.2 h⟩

/-- Is there one of a number? -/
def hsB (l : List Np) (d : Int) : Bool := l.any fun o => o.d == d
theorem hs_no {l : List Np} {d : Int} : hsB l d = false ↔ ∀ o ∈ l, o.d ≠ d := by unfold hsB; simp
theorem hs_yes {l : List Np} {d : Int} : hsB l d = true ↔ ∃ o ∈ l, o.d = d := by unfold hsB; simp
/-- Who sleeps until t at most, who longer. -/
def upL (l : List Np) (t : Int) : List Np := l.filter fun o => decide (o.t ≤ t)
def ovL (l : List Np) (t : Int) : List Np := l.filter fun o => decide (t < o.t)
def niL (l : List Np) : List Int := l.map (·.d)
def pnB (l : List Np) (d t : Int) : Bool := npB ⟨d, t⟩ && !hsB l d
def pnL (l : List Np) (d t : Int) : List Np := if pnB l d t = true then upL l t ++ ⟨d, t⟩ :: ovL l t else l
def dpL (l : List Np) (d : Int) : List Np := l.filter fun o => !(o.d == d)
def dpB (l : List Np) (d : Int) : Bool := hsB l d
def neI (l : List Np) : Int := if l = [] then 0 else (l.getD 0 nz).t
def neB (l : List Np) : Bool := !l.isEmpty

theorem up_snoc (l : List Np) (t : Int) (j : Nat) (h : j < l.length) : upL (l.take (j + 1)) t = upL (l.take j) t ++ (if (l.getD j nz).t ≤ t then [l.getD j nz] else []) := by
  unfold upL
  rw [ntake_snoc l j h, List.filter_append]
  congr 1
  by_cases g : (l.getD j nz).t ≤ t
  · rw [if_pos g, List.filter_cons_of_pos (by simpa using g)]; rfl
  · rw [if_neg g, List.filter_cons_of_neg (by simpa using g)]; rfl
theorem ov_snoc (l : List Np) (t : Int) (j : Nat) (h : j < l.length) : ovL (l.take (j + 1)) t = ovL (l.take j) t ++ (if t < (l.getD j nz).t then [l.getD j nz] else []) := by
  unfold ovL
  rw [ntake_snoc l j h, List.filter_append]
  congr 1
  by_cases g : t < (l.getD j nz).t
  · rw [if_pos g, List.filter_cons_of_pos (by simpa using g)]; rfl
  · rw [if_neg g, List.filter_cons_of_neg (by simpa using g)]; rfl
theorem dp_snoc (l : List Np) (d : Int) (j : Nat) (h : j < l.length) : dpL (l.take (j + 1)) d = dpL (l.take j) d ++ (if (l.getD j nz).d = d then [] else [l.getD j nz]) := by
  unfold dpL
  rw [ntake_snoc l j h, List.filter_append]
  congr 1
  by_cases g : (l.getD j nz).d = d
  · rw [if_pos g, List.filter_cons_of_neg (by simpa using g)]; rfl
  · rw [if_neg g, List.filter_cons_of_pos (by simpa using g)]; rfl
theorem hs_snoc (l : List Np) (d : Int) (j : Nat) (h : j < l.length) : hsB (l.take (j + 1)) d = (hsB (l.take j) d || (l.getD j nz).d == d) := by
  unfold hsB
  rw [ntake_snoc l j h, List.any_append]
  simp
theorem up_le (l : List Np) (t : Int) : (upL l t).length ≤ l.length := List.length_filter_le _ _
theorem ov_le (l : List Np) (t : Int) : (ovL l t).length ≤ l.length := List.length_filter_le _ _
theorem dp_le (l : List Np) (d : Int) : (dpL l d).length ≤ l.length := List.length_filter_le _ _
/-- In a list whose times do not fall: who sleeps until t at most stands ahead of who sleeps longer. -/
theorem up_ov {l : List Np} (g : l.Pairwise fun a b => a.t ≤ b.t) (t : Int) : upL l t ++ ovL l t = l := by
  unfold upL ovL
  induction l with
  | nil => rfl
  | cons x l ih =>
    rw [List.pairwise_cons] at g
    by_cases h : x.t ≤ t
    · rw [List.filter_cons_of_pos (by simpa using h), List.filter_cons_of_neg (by simp; omega), List.cons_append, ih g.2]
    · have e : l.filter (fun o => decide (o.t ≤ t)) = [] := List.filter_eq_nil_iff.2 fun o ho => by have := g.1 o ho; simp; omega
      have e2 : l.filter (fun o => decide (t < o.t)) = l := List.filter_eq_self.2 fun o ho => by have := g.1 o ho; simp; omega
      rw [List.filter_cons_of_neg (by simpa using h), List.filter_cons_of_pos (by simp; omega), e, e2, List.nil_append]
theorem gn_times {l : List Np} (g : Gn l) : l.Pairwise fun a b => a.t ≤ b.t := g.2.imp fun h => h.2
theorem nodup_ni {l : List Np} (g : Gn l) : (niL l).Nodup := by
  unfold niL
  rw [List.Nodup, List.pairwise_map]
  exact g.2.imp fun h => h.1
theorem few_ni (k : Nat) : ∀ m : List Int, m.Nodup → (∀ d ∈ m, 0 ≤ d ∧ d < k) → m.length ≤ k := by
  induction k with
  | zero => intro m _ h; cases m with
    | nil => simp
    | cons x m => have := h x (by simp); omega
  | succ k ih =>
    intro m hn h
    have h2 := ih (m.filter fun d => d != (k : Int)) (hn.sublist List.filter_sublist) (fun d hd => by
      simp at hd
      have := h d hd.1
      omega)
    have h3 : m.length ≤ (m.filter fun d => d != (k : Int)).length + 1 := by
      clear h h2 ih
      induction m with
      | nil => simp
      | cons x m ih =>
        rw [List.nodup_cons] at hn
        by_cases e : x = (k : Int)
        · subst e
          have : (m.filter fun d => d != (k : Int)) = m := List.filter_eq_self.2 fun d hd => by
            simp only [bne_iff_ne, ne_eq]
            rintro rfl
            exact hn.1 hd
          simp [this]
        · have := ih hn.2
          simp [e]
          omega
    omega
/-- A new one stands well. -/
theorem gn_put {l : List Np} {d t : Int} (g : Gn l) (h : pnB l d t = true) : Gn (upL l t ++ ⟨d, t⟩ :: ovL l t) := by
  unfold pnB at h
  simp only [Bool.and_eq_true, Bool.not_eq_true', hs_no] at h
  obtain ⟨hx, hd⟩ := h
  have sp := up_ov (gn_times g) t
  have gp := g.2
  rw [← sp, List.pairwise_append] at gp
  have hu : ∀ a ∈ upL l t, a ∈ l ∧ a.t ≤ t := fun a ha => by unfold upL at ha; simpa using ha
  have ho : ∀ a ∈ ovL l t, a ∈ l ∧ t < a.t := fun a ha => by unfold ovL at ha; simpa using ha
  refine ⟨?_, ?_⟩
  · intro i hi
    simp only [List.mem_append, List.mem_cons] at hi
    rcases hi with hi | rfl | hi
    · exact g.1 i (hu i hi).1
    · exact hx
    · exact g.1 i (ho i hi).1
  · rw [List.pairwise_append, List.pairwise_cons]
    refine ⟨gp.1, ⟨fun b hb => ⟨fun e => hd b (ho b hb).1 e.symm, by have := (ho b hb).2; simp only; omega⟩, gp.2.1⟩, ?_⟩
    intro a ha b hb
    simp only [List.mem_cons] at hb
    rcases hb with rfl | hb
    · exact ⟨hd a (hu a ha).1, (hu a ha).2⟩
    · exact gp.2.2 a ha b hb
theorem sn_put {l : List Np} (d t : Int) (g : Sn l) : Sn (pnL l d t) := by
  unfold pnL
  split
  · rename_i h
    have gi := gn_put g.2 h
    refine ⟨?_, gi⟩
    have := few_ni 8 _ (nodup_ni gi) (fun d hd => by
      obtain ⟨o, ho, rfl⟩ := List.mem_map.1 hd
      have := np_iff.1 (gi.1 o ho)
      omega)
    unfold niL at this
    simpa using this
  · exact g
theorem sn_dp {l : List Np} (d : Int) (g : Sn l) : Sn (dpL l d) := sn_sub g List.filter_sublist
theorem sn_ov {l : List Np} (t : Int) (g : Sn l) : Sn (ovL l t) := sn_sub g List.filter_sublist
theorem dp_flag (l : List Np) (d : Int) : decide ((dpL l d).length < l.length) = dpB l d := by
  unfold dpL dpB hsB
  induction l with
  | nil => rfl
  | cons x l ih =>
    have hle : (l.filter fun o => !(o.d == d)).length ≤ l.length := List.length_filter_le _ _
    by_cases h : x.d = d
    · rw [List.filter_cons_of_neg (by simpa using h), List.any_cons]
      simp [h]
      omega
    · rw [List.filter_cons_of_pos (by simpa using h), List.any_cons, ← ih]
      simp [h]
end Go.Proofs.Ytpkfmbknbdlnpaa
