/-
  Tasks that are ready, as lists: which item goes ahead of which, what a queue may be, where a new item stands, what comes of putting, taking and dropping. Nothing of a translated program is imported.
-/
namespace Go.Proofs.Ytoklocbdifefcaa

/-- An item: who, how urgent, since when. -/
structure It where
  d : Int
  p : Int
  t : Int
instance : DecidableEq It := fun a b => if h : a.d = b.d ∧ a.p = b.p ∧ a.t = b.t then isTrue (by cases a; cases b; simp_all) else isFalse (by rintro rfl; simp at h)
def i0 : It := ⟨0, 0, 0⟩
/-- Does a go ahead of b? -/
def ahB (a b : It) : Bool := decide (a.p > b.p) || (a.p == b.p && decide (a.t < b.t))
/-- May i be, of a queue with this next turn? -/
def itB (i : It) (n : Int) : Bool := decide (0 ≤ i.d ∧ i.d < 8 ∧ 0 ≤ i.p ∧ i.p ≤ 4 ∧ 0 ≤ i.t ∧ i.t < n)
/-- Has one of l the number or the turn of i? -/
def clB (l : List It) (i : It) : Bool := l.any fun o => o.d == i.d || o.t == i.t
/-- Of a list whose next turn is n: may each be, are no two of one number or turn, does each go ahead of all behind it? -/
def Gd (n : Int) (l : List It) : Prop := (∀ i ∈ l, itB i n = true) ∧ l.Pairwise fun a b => a.d ≠ b.d ∧ a.t ≠ b.t ∧ ahB a b = true
instance (n : Int) (l : List It) : Decidable (Gd n l) := by unfold Gd; exact inferInstance
/-- May a queue be? -/
def Sq (n : Int) (l : List It) : Prop := (0 ≤ n ∧ n ≤ 1099511627776) ∧ l.length ≤ 8 ∧ Gd n l
instance (n : Int) (l : List It) : Decidable (Sq n l) := by unfold Sq; exact inferInstance
/-- What calls take of it. -/
def tkN (n : Int) (l : List It) : Int := if Sq n l then n else 0
def tkL (n : Int) (l : List It) : List It := if Sq n l then l else []

theorem ah_iff {a b : It} : ahB a b = true ↔ (a.p > b.p ∨ (a.p = b.p ∧ a.t < b.t)) := by unfold ahB; simp
theorem ah_no {a b : It} : ahB a b = false ↔ ¬ (a.p > b.p ∨ (a.p = b.p ∧ a.t < b.t)) := by rw [← ah_iff]; simp
theorem ah_trans {a b c : It} (h : ahB a b = true) (g : ahB b c = true) : ahB a c = true := by
  rw [ah_iff] at *; omega
theorem ah_anti {a b : It} (h : ahB a b = true) : ahB b a = false := by
  rw [ah_no]; rw [ah_iff] at h; omega
theorem ah_total {a b : It} (h : ahB a b = false) (ht : a.t ≠ b.t) : ahB b a = true := by
  rw [ah_iff]; rw [ah_no] at h; omega
theorem it_iff {i : It} {n : Int} : itB i n = true ↔ (0 ≤ i.d ∧ i.d < 8 ∧ 0 ≤ i.p ∧ i.p ≤ 4 ∧ 0 ≤ i.t ∧ i.t < n) := by unfold itB; simp
theorem cl_no {l : List It} {i : It} : clB l i = false ↔ ∀ o ∈ l, o.d ≠ i.d ∧ o.t ≠ i.t := by unfold clB; simp
theorem it_more {i : It} {n m : Int} (h : itB i n = true) (hm : n ≤ m) : itB i m = true := by
  rw [it_iff] at *; omega

theorem gd_nil (n : Int) : Gd n [] := ⟨by simp, List.Pairwise.nil⟩
theorem sq_nil {n : Int} (h : 0 ≤ n ∧ n ≤ 1099511627776) : Sq n [] := ⟨h, by simp, gd_nil n⟩
theorem gd_snoc {n : Int} {l : List It} {x : It} : Gd n (l ++ [x]) ↔ Gd n l ∧ itB x n = true ∧ ∀ o ∈ l, o.d ≠ x.d ∧ o.t ≠ x.t ∧ ahB o x = true := by
  unfold Gd
  rw [List.pairwise_append]
  simp only [List.mem_append, List.mem_singleton, List.pairwise_singleton, true_and]
  constructor
  · rintro ⟨h1, h2, h3⟩
    exact ⟨⟨fun i hi => h1 i (.inl hi), h2⟩, h1 x (.inr rfl), fun o ho => h3 o ho x rfl⟩
  · rintro ⟨⟨h1, h2⟩, h3, h4⟩
    refine ⟨?_, h2, ?_⟩
    · rintro i (hi | rfl)
      · exact h1 i hi
      · exact h3
    · rintro o ho _ rfl
      exact h4 o ho
theorem getD_lt {l : List It} {j : Nat} (h : j < l.length) : l.getD j i0 = l[j] := by simp [List.getD, h]
theorem take_snoc (l : List It) (j : Nat) (h : j < l.length) : l.take (j + 1) = l.take j ++ [l.getD j i0] := by
  rw [List.take_succ_eq_append_getElem h, getD_lt h]
/-- One item more, as the document asks it. -/
theorem gd_next (n : Int) (l : List It) (j : Nat) (h : j < l.length) : Gd n (l.take (j + 1)) ↔ (Gd n (l.take j) ∧ itB (l.getD j i0) n = true ∧ ∀ o ∈ l.take j, o.d ≠ (l.getD j i0).d ∧ o.t ≠ (l.getD j i0).t ∧ ahB o (l.getD j i0) = true) := by
  rw [take_snoc l j h, gd_snoc]
/-- One item more, held against the last one alone. -/
theorem gd_last (n : Int) (l : List It) (j : Nat) (h : j < l.length) : Gd n (l.take (j + 1)) ↔ (Gd n (l.take j) ∧ itB (l.getD j i0) n = true ∧ clB (l.take j) (l.getD j i0) = false ∧ (0 < j → ahB (l.getD (j - 1) i0) (l.getD j i0) = true)) := by
  rw [gd_next n l j h, cl_no]
  constructor
  · rintro ⟨h1, h2, h3⟩
    refine ⟨h1, h2, fun o ho => ⟨(h3 o ho).1, (h3 o ho).2.1⟩, fun hj => (h3 _ ?_).2.2⟩
    rw [getD_lt (by omega)]
    exact List.mem_take_iff_getElem.2 ⟨j - 1, by omega, rfl⟩
  · rintro ⟨h1, h2, h3, h4⟩
    refine ⟨h1, h2, fun o ho => ⟨(h3 o ho).1, (h3 o ho).2, ?_⟩⟩
    obtain ⟨i, hi, rfl⟩ := List.mem_take_iff_getElem.1 ho
    have hj : 0 < j := by omega
    have g := h4 hj
    rw [getD_lt (by omega)] at g
    by_cases e : i = j - 1
    · subst e; exact g
    · refine ah_trans ?_ g
      have := (List.pairwise_iff_getElem.1 h1.2) i (j - 1) (by simp; omega) (by simp; omega) (by omega)
      simpa using this.2.2
theorem gd_take_no {n : Int} {l : List It} {j : Nat} (h : ¬ Gd n (l.take j)) : ¬ Gd n l := by
  intro g
  exact h ⟨fun i hi => g.1 i (List.mem_of_mem_take hi), g.2.sublist (List.take_sublist j l)⟩
theorem gd_sub {n : Int} {l m : List It} (g : Gd n l) (h : m.Sublist l) : Gd n m := ⟨fun i hi => g.1 i (h.subset hi), g.2.sublist h⟩
theorem sq_sub {n : Int} {l m : List It} (g : Sq n l) (h : m.Sublist l) : Sq n m := ⟨g.1, Nat.le_trans h.length_le g.2.1, gd_sub g.2.2 h⟩

/-- Where a number is. -/
def plA (d : Int) : List It → Nat
  | [] => 0
  | x :: l => if x.d = d then 0 else plA d l + 1
theorem pl_le (d : Int) (l : List It) : plA d l ≤ l.length := by
  induction l with
  | nil => simp [plA]
  | cons x l ih => unfold plA; split <;> simp; exact ih
theorem pl_before (d : Int) (l : List It) (j : Nat) (h : j < plA d l) : (l.getD j i0).d ≠ d := by
  induction l generalizing j with
  | nil => simp [plA] at h
  | cons x l ih =>
    unfold plA at h
    split at h
    · omega
    · rename_i hx
      cases j with
      | zero => exact hx
      | succ j => simpa using ih j (by omega)
theorem pl_at (d : Int) (l : List It) (h : plA d l < l.length) : (l.getD (plA d l) i0).d = d := by
  induction l with
  | nil => simp at h
  | cons x l ih =>
    unfold plA at h ⊢
    split
    · rename_i hx; simpa using hx
    · rename_i hx
      rw [if_neg hx] at h
      simpa using ih (by simpa using h)
theorem pl_none {d : Int} {l : List It} : plA d l = l.length ↔ ∀ o ∈ l, o.d ≠ d := by
  induction l with
  | nil => simp [plA]
  | cons x l ih =>
    unfold plA
    split
    · rename_i hx; simp [hx]
    · rename_i hx; simp [hx, ih]
/-- A number's first place is the only one whose items ahead have other numbers. -/
theorem pl_eq (d : Int) (l : List It) (j : Nat) (hj : j ≤ l.length) (h : ∀ i, i < j → (l.getD i i0).d ≠ d) (h2 : j < l.length → (l.getD j i0).d = d) : plA d l = j := by
  rcases Nat.lt_trichotomy (plA d l) j with g | g | g
  · exact absurd (pl_at d l (by omega)) (h _ g)
  · exact g
  · exact absurd (h2 (by have := pl_le d l; omega)) (pl_before d l j g)

/-- How many go ahead of x. -/
def bhA (x : It) : List It → Nat
  | [] => 0
  | y :: l => if ahB y x = true then bhA x l + 1 else 0
theorem bh_le (x : It) (l : List It) : bhA x l ≤ l.length := by
  induction l with
  | nil => simp [bhA]
  | cons y l ih => unfold bhA; split <;> simp; exact ih
theorem bh_before (x : It) (l : List It) (j : Nat) (h : j < bhA x l) : ahB (l.getD j i0) x = true := by
  induction l generalizing j with
  | nil => simp [bhA] at h
  | cons y l ih =>
    unfold bhA at h
    split at h
    · rename_i hx
      cases j with
      | zero => exact hx
      | succ j => simpa using ih j (by omega)
    · omega
theorem bh_at (x : It) (l : List It) (h : bhA x l < l.length) : ahB (l.getD (bhA x l) i0) x = false := by
  induction l with
  | nil => simp at h
  | cons y l ih =>
    unfold bhA at h ⊢
    split
    · rename_i hx
      rw [if_pos hx] at h
      simpa using ih (by simpa using h)
    · rename_i hx; simpa using hx
theorem bh_eq (x : It) (l : List It) (j : Nat) (hj : j ≤ l.length) (h : ∀ i, i < j → ahB (l.getD i i0) x = true) (h2 : j < l.length → ahB (l.getD j i0) x = false) : bhA x l = j := by
  rcases Nat.lt_trichotomy (bhA x l) j with g | g | g
  · have := bh_at x l (by omega); rw [h _ g] at this; cases this
  · exact g
  · have := h2 (by have := bh_le x l; omega); rw [bh_before x l j g] at this; cases this

/-- May x be put into a queue? -/
def puB (n : Int) (l : List It) (d p : Int) : Bool := decide (0 ≤ d ∧ d < 8 ∧ 0 ≤ p ∧ p ≤ 4 ∧ n ≠ 1099511627776 ∧ ∀ o ∈ l, o.d ≠ d)
/-- A list with x where it is to be. -/
def inL (x : It) (l : List It) : List It := l.take (bhA x l) ++ x :: l.drop (bhA x l)
def puN (n : Int) (l : List It) (d p : Int) : Int := if puB n l d p = true then n + 1 else n
def puL (n : Int) (l : List It) (d p : Int) : List It := if puB n l d p = true then inL ⟨d, p, n⟩ l else l
/-- A list without the one at a place. -/
def ouL (k : Nat) (l : List It) : List It := l.take k ++ l.drop (k + 1)
/-- The place that a number means. -/
def atN (l : List It) (n : Int) : Nat := (max n 0).toNat % l.length
def nthL (l : List It) (n : Int) : List It := if l = [] then [] else ouL (atN l n) l
def nthD (l : List It) (n : Int) : Int := if l = [] then 0 else (l.getD (atN l n) i0).d
def nthB (l : List It) : Bool := !l.isEmpty
def drB (l : List It) (d : Int) : Bool := decide (plA d l < l.length)
def drL (l : List It) (d : Int) : List It := if plA d l < l.length then ouL (plA d l) l else l
def idL (l : List It) : List Int := l.map (·.d)

theorem in_length (x : It) (l : List It) : (inL x l).length = l.length + 1 := by
  have := bh_le x l
  unfold inL; simp; omega
theorem ou_length {k : Nat} {l : List It} (h : k < l.length) : (ouL k l).length = l.length - 1 := by
  unfold ouL; simp; omega
theorem ou_sub (k : Nat) (l : List It) : (ouL k l).Sublist l := by
  unfold ouL
  have e : l = l.take k ++ l.drop k := (List.take_append_drop k l).symm
  have : (l.take k ++ l.drop (k + 1)).Sublist (l.take k ++ l.drop k) := (List.Sublist.refl _).append (by rw [← List.drop_drop (i := 1) (j := k)]; exact List.drop_sublist 1 _)
  rw [← e] at this
  exact this
theorem at_lt {l : List It} (n : Int) (h : l ≠ []) : atN l n < l.length := Nat.mod_lt _ (by cases l; exact absurd rfl h; simp)
theorem length_pos_of {l : List It} (h : l ≠ []) : 0 < l.length := by cases l; exact absurd rfl h; simp

/-- A new item stands well: the queue may be with it. -/
theorem gd_in {n : Int} {l : List It} {x : It} (g : Gd n l) (hx : itB x (n + 1) = true) (ht : x.t = n) (hd : ∀ o ∈ l, o.d ≠ x.d) : Gd (n + 1) (inL x l) := by
  have tt : ∀ o ∈ l, o.t < x.t := fun o ho => by have := it_iff.1 (g.1 o ho); omega
  have sp : l = l.take (bhA x l) ++ l.drop (bhA x l) := (List.take_append_drop _ l).symm
  have gp := g.2
  rw [sp, List.pairwise_append] at gp
  unfold inL
  refine ⟨?_, ?_⟩
  · intro i hi
    simp only [List.mem_append, List.mem_cons] at hi
    rcases hi with hi | rfl | hi
    · exact it_more (g.1 i (List.mem_of_mem_take hi)) (by omega)
    · exact hx
    · exact it_more (g.1 i (List.mem_of_mem_drop hi)) (by omega)
  · rw [List.pairwise_append, List.pairwise_cons]
    refine ⟨gp.1, ⟨?_, gp.2.1⟩, ?_⟩
    · intro b hb
      have hm := List.mem_of_mem_drop hb
      refine ⟨fun e => hd b hm e.symm, fun e => by have := tt b hm; omega, ?_⟩
      obtain ⟨i, hi, rfl⟩ := List.mem_iff_getElem.1 hb
      simp at hi
      have hlt : bhA x l < l.length := by omega
      have h0 := bh_at x l hlt
      rw [getD_lt hlt] at h0
      have h1 := ah_total h0 (by have := tt _ (List.getElem_mem hlt); omega)
      rw [List.getElem_drop]
      rcases Nat.eq_zero_or_pos i with rfl | hp
      · exact h1
      · exact ah_trans h1 ((List.pairwise_iff_getElem.1 g.2) _ _ hlt (by omega) (by omega)).2.2
    · intro a ha b hb
      simp only [List.mem_cons] at hb
      rcases hb with rfl | hb
      · have hm := List.mem_of_mem_take ha
        refine ⟨hd a hm, fun e => by have := tt a hm; omega, ?_⟩
        obtain ⟨i, hi, rfl⟩ := List.mem_take_iff_getElem.1 ha
        have := bh_before b l i (by omega)
        rwa [getD_lt (by omega)] at this
      · exact gp.2.2 a ha b hb
theorem nodup_ids {n : Int} {l : List It} (g : Gd n l) : (idL l).Nodup := by
  unfold idL
  rw [List.Nodup, List.pairwise_map]
  exact g.2.imp fun h => h.1
theorem ids_in {n : Int} {l : List It} (g : Gd n l) : ∀ d ∈ idL l, 0 ≤ d ∧ d < 8 := by
  intro d hd
  obtain ⟨i, hi, rfl⟩ := List.mem_map.1 hd
  have := it_iff.1 (g.1 i hi)
  omega
/-- Numbers of 0 to k - 1, no two the same, are k at most. -/
theorem few_nodup (k : Nat) : ∀ m : List Int, m.Nodup → (∀ d ∈ m, 0 ≤ d ∧ d < k) → m.length ≤ k := by
  induction k with
  | zero => intro m _ h; cases m with
    | nil => simp
    | cons x m => have := h x (by simp); omega
  | succ k ih =>
    intro m hn h
    have h2 := ih (m.filter fun d => d != (k : Int)) (hn.sublist List.filter_sublist) (fun d hd => by
      simp at hd
      have := h d hd.1
      omega)
    have h3 : m.length ≤ (m.filter fun d => d != (k : Int)).length + 1 := by
      clear h h2 ih
      induction m with
      | nil => simp
      | cons x m ih =>
        rw [List.nodup_cons] at hn
        by_cases e : x = (k : Int)
        · subst e
          have : (m.filter fun d => d != (k : Int)) = m := List.filter_eq_self.2 fun d hd => by
            simp only [bne_iff_ne, ne_eq]
            rintro rfl
            exact hn.1 hd
          simp [this]
        · have := ih hn.2
          simp [e]
          omega
    omega
theorem sq_in {n : Int} {l : List It} {d p : Int} (g : Sq n l) (h : puB n l d p = true) : Sq (n + 1) (inL ⟨d, p, n⟩ l) := by
  unfold puB at h
  simp only [decide_eq_true_eq] at h
  obtain ⟨⟨h0, h1⟩, h2, h3⟩ := g
  have gi := gd_in (x := ⟨d, p, n⟩) h3 (it_iff.2 ⟨h.1, h.2.1, h.2.2.1, h.2.2.2.1, h0, by show n < n + 1; omega⟩) rfl h.2.2.2.2.2
  refine ⟨by omega, ?_, gi⟩
  have := few_nodup 8 _ (nodup_ids gi) (fun d hd => by have := ids_in gi d hd; omega)
  unfold idL at this
  simpa using this
theorem sq_put {n : Int} {l : List It} (d p : Int) (g : Sq n l) : Sq (puN n l d p) (puL n l d p) := by
  unfold puN puL
  cases h : puB n l d p
  · simpa using g
  · simpa using sq_in g h
theorem sq_ou {n : Int} {l : List It} (k : Nat) (g : Sq n l) : Sq n (ouL k l) := sq_sub g (ou_sub k l)
theorem sq_nth {n : Int} {l : List It} (k : Int) (g : Sq n l) : Sq n (nthL l k) := by
  unfold nthL; split
  · exact sq_sub g (List.nil_sublist _)
  · exact sq_ou _ g
theorem sq_dr {n : Int} {l : List It} (d : Int) (g : Sq n l) : Sq n (drL l d) := by
  unfold drL; split
  · exact sq_ou _ g
  · exact g
theorem sq_tk (n : Int) (l : List It) : Sq (tkN n l) (tkL n l) := by
  unfold tkN tkL; split
  · assumption
  · exact sq_nil (by omega)
theorem tkN_ok {n : Int} {l : List It} (h : Sq n l) : tkN n l = n := if_pos h
theorem tkL_ok {n : Int} {l : List It} (h : Sq n l) : tkL n l = l := if_pos h

/-- The first place of what p holds of. -/
def fiA (p : It → Bool) : List It → Nat
  | [] => 0
  | x :: l => if p x = true then 0 else fiA p l + 1
def fiI (p : It → Bool) (l : List It) : Int := if fiA p l < l.length then (fiA p l : Int) else -1
theorem fi_eq (p : It → Bool) (l : List It) (j : Nat) (hj : j ≤ l.length) (h : ∀ i, i < j → p (l.getD i i0) = false) (h2 : j < l.length → p (l.getD j i0) = true) : fiA p l = j := by
  induction l generalizing j with
  | nil => have : j = 0 := by simpa using hj
           subst this; rfl
  | cons x l ih =>
    unfold fiA
    cases j with
    | zero =>
      have := h2 (by simp)
      simp at this
      rw [if_pos this]
    | succ j =>
      have h0 := h 0 (by omega)
      simp at h0
      rw [if_neg (by rw [h0]; decide), ih j (by simpa using hj) (fun i hi => by simpa using h (i + 1) (by omega)) (fun hl => by simpa using h2 (by simpa using hl))]
theorem fi_yes {p : It → Bool} {l : List It} {j : Nat} (hj : j < l.length) (h : ∀ i, i < j → p (l.getD i i0) = false) (h2 : p (l.getD j i0) = true) : fiI p l = j := by
  unfold fiI
  rw [fi_eq p l j (by omega) h (fun _ => h2), if_pos hj]
theorem fi_none {p : It → Bool} {l : List It} (h : ∀ i, i < l.length → p (l.getD i i0) = false) : fiI p l = -1 := by
  unfold fiI
  rw [fi_eq p l l.length (Nat.le_refl _) h (fun hl => absurd hl (Nat.lt_irrefl _)), if_neg (Nat.lt_irrefl _)]
def plP (d : Int) (o : It) : Bool := o.d == d
def clP (e o : It) : Bool := o.d == e.d || o.t == e.t
theorem pl_fi (d : Int) (l : List It) : plA d l = fiA (plP d) l := by
  induction l with
  | nil => rfl
  | cons x l ih =>
    unfold plA fiA
    simp only [plP, beq_iff_eq]
    rw [ih]
def plI (d : Int) (l : List It) : Int := if plA d l < l.length then (plA d l : Int) else -1
theorem plI_fi (d : Int) (l : List It) : plI d l = fiI (plP d) l := by unfold plI fiI; rw [pl_fi]
theorem cl_fi (e : It) (l : List It) : clB l e = decide (0 ≤ fiI (clP e) l) := by
  have h : clB l e = decide (fiA (clP e) l < l.length) := by
    unfold clB
    induction l with
    | nil => rfl
    | cons x l ih =>
      rw [List.any_cons, ih, fiA]
      cases hx : clP e x
      · have : (x.d == e.d || x.t == e.t) = false := hx
        rw [this]; simp
      · have : (x.d == e.d || x.t == e.t) = true := hx
        rw [this]; simp
  rw [h]
  unfold fiI
  split <;> simp_all
end Go.Proofs.Ytoklocbdifefcaa
