/-
  The operations of an object, as a loop over its events finds them: what is there behind each event, and under each task where its last call stands, as long as that may return. Nothing of a translated program is imported.
-/
import Derived.Test.YtpkjepbeeebdoaaDoorHistMath
namespace Go.Proofs.YtpkjepbeeebdoaaDoor

theorem bkS_iff (s : List Evt) (t a : Int) (j m : Nat) (hm : m < s.length) : bkS s t a j = ((j + m : Nat) : Int) ↔ (s.getD m ez).t = t ∧ (s.getD m ez).a = a ∧ clK (s.getD m ez).k < 0 ∧ ∀ q, q < m → (s.getD q ez).t = t → clK (s.getD q ez).k < 0 ∧ (s.getD q ez).a ≠ a := by
  induction s generalizing j m with
  | nil => simp at hm
  | cons e s ih =>
    have g := bkS_ge s t a (j + 1)
    unfold bkS
    cases m with
    | zero =>
      have z : ((e :: s).getD 0 ez) = e := rfl
      rw [z]
      by_cases h1 : e.t ≠ t
      · rw [if_pos h1]
        exact ⟨fun h => by omega, fun h => absurd h.1 h1⟩
      · rw [if_neg h1]
        by_cases h2 : 0 ≤ clK e.k
        · rw [if_pos h2]
          exact ⟨fun h => by omega, fun h => absurd h.2.2.1 (by omega)⟩
        · rw [if_neg h2]
          by_cases h3 : e.a = a
          · rw [if_pos h3]
            exact ⟨fun _ => ⟨by simpa using h1, h3, by omega, fun q hq => absurd hq (by omega)⟩, fun _ => by simp⟩
          · rw [if_neg h3]
            exact ⟨fun h => by omega, fun h => absurd h.2.1 h3⟩
    | succ m =>
      have hm' : m < s.length := by simpa using hm
      have hz : ∀ q, ((e :: s).getD (q + 1) ez) = s.getD q ez := fun q => by simp
      have h0 : ((e :: s).getD 0 ez) = e := rfl
      have key := ih (j + 1) m hm'
      rw [show ((j + 1 + m : Nat) : Int) = ((j + (m + 1) : Nat) : Int) by omega] at key
      have all : (∀ q, q < m + 1 → ((e :: s).getD q ez).t = t → clK ((e :: s).getD q ez).k < 0 ∧ ((e :: s).getD q ez).a ≠ a) ↔ ((e.t = t → clK e.k < 0 ∧ e.a ≠ a) ∧ ∀ q, q < m → (s.getD q ez).t = t → clK (s.getD q ez).k < 0 ∧ (s.getD q ez).a ≠ a) := by
        constructor
        · intro h
          refine ⟨fun h1 => h 0 (by omega) h1, fun q hq => ?_⟩
          have := h (q + 1) (by omega)
          rwa [hz] at this
        · rintro ⟨h1, h2⟩ q hq
          cases q with
          | zero => exact h1
          | succ q => rw [hz]; exact h2 q (by omega)
      rw [hz, all]
      by_cases h1 : e.t ≠ t
      · rw [if_pos h1, key]
        constructor
        · rintro ⟨a1, a2, a3, a4⟩; exact ⟨a1, a2, a3, fun h => absurd h h1, a4⟩
        · rintro ⟨a1, a2, a3, _, a4⟩; exact ⟨a1, a2, a3, a4⟩
      · have h1' : e.t = t := by simpa using h1
        rw [if_neg h1]
        by_cases h2 : 0 ≤ clK e.k
        · rw [if_pos h2]
          exact ⟨fun h => by omega, fun h => absurd (h.2.2.2.1 h1').1 (by omega)⟩
        · rw [if_neg h2]
          by_cases h3 : e.a = a
          · rw [if_pos h3]
            exact ⟨fun h => by omega, fun h => absurd h3 (h.2.2.2.1 h1').2⟩
          · rw [if_neg h3, key]
            constructor
            · rintro ⟨a1, a2, a3, a4⟩; exact ⟨a1, a2, a3, fun _ => ⟨by omega, h3⟩, a4⟩
            · rintro ⟨a1, a2, a3, _, a4⟩; exact ⟨a1, a2, a3, a4⟩

/-- The call at i may still return at k. -/
def pnd (h : List Evt) (k i : Nat) : Prop := ∀ q, i < q → q < k → (h.getD q ez).t = (h.getD i ez).t → clK (h.getD q ez).k < 0 ∧ (h.getD q ez).a ≠ (h.getD i ez).a
theorem pnd_more {h : List Evt} {k i : Nat} (hi : i < k) : pnd h (k + 1) i ↔ pnd h k i ∧ ((h.getD k ez).t = (h.getD i ez).t → clK (h.getD k ez).k < 0 ∧ (h.getD k ez).a ≠ (h.getD i ez).a) := by
  constructor
  · intro H
    exact ⟨fun q h1 h2 => H q h1 (by omega), H k hi (by omega)⟩
  · rintro ⟨H, K⟩ q h1 h2
    by_cases hq : q = k
    · subst hq; exact K
    · exact H q h1 (by omega)
theorem bk_iff {h : List Evt} {i k : Nat} (hi : i < k) (hk : k < h.length) : bkP h i = k ↔ (h.getD k ez).t = (h.getD i ez).t ∧ (h.getD k ez).a = (h.getD i ez).a ∧ clK (h.getD k ez).k < 0 ∧ pnd h k i := by
  have g : ∀ q, (h.drop (i + 1)).getD q ez = h.getD (i + 1 + q) ez := by intro q; simp [List.getD]
  have key := bkS_iff (h.drop (i + 1)) (h.getD i ez).t (h.getD i ez).a (i + 1) (k - (i + 1)) (by simp; omega)
  rw [show i + 1 + (k - (i + 1)) = k by omega, g, show i + 1 + (k - (i + 1)) = k by omega] at key
  unfold bkP
  rw [key]
  have : (∀ q, q < k - (i + 1) → ((h.drop (i + 1)).getD q ez).t = (h.getD i ez).t → clK ((h.drop (i + 1)).getD q ez).k < 0 ∧ ((h.drop (i + 1)).getD q ez).a ≠ (h.getD i ez).a) ↔ pnd h k i := by
    constructor
    · intro H q h1 h2
      have := H (q - (i + 1)) (by omega)
      rwa [g, show i + 1 + (q - (i + 1)) = q by omega] at this
    · intro H q hq
      rw [g]
      exact H _ (by omega) (by omega)
  rw [this]

/-- The operation that is called at i, as it stands ahead of the event k. -/
def opK (h : List Evt) (k i : Nat) : Hop := if 0 ≤ bkP h i ∧ bkP h i < k then opP h i else ⟨(h.getD i ez).t, clK (h.getD i ez).k, (h.getD i ez).v, 0, false, i, -1⟩
def lkI (h : List Evt) (a : Int) (k i : Nat) : Option Hop := if (h.getD i ez).a = a ∧ 0 ≤ clK (h.getD i ez).k then some (opK h k i) else none
def lkL (h : List Evt) (a : Int) (k : Nat) : List Hop := (List.range k).filterMap (lkI h a k)
theorem opK_f (h : List Evt) (k i : Nat) : (opK h k i).f = i := by unfold opK; split; exact op_f h i; rfl
theorem opK_t (h : List Evt) (k i : Nat) : (opK h k i).t = (h.getD i ez).t := by unfold opK; split; exact op_t h i; rfl
theorem opK_end (h : List Evt) (i : Nat) : opK h h.length i = opP h i := by
  unfold opK
  split
  · rfl
  · next h1 =>
    have h2 : bkP h i < 0 := by
      rcases bk_lt h i with h2 | h2
      · omega
      · obtain ⟨j, h3, _, h4, _⟩ := bk_at h2
        omega
    unfold opP
    rw [if_pos h2]
theorem lkL_end (h : List Evt) (a : Int) : lkL h a h.length = (List.range h.length).filterMap (hoI h a) := by
  unfold lkL
  refine filterMap_same fun i _ => ?_
  unfold lkI hoI
  rw [opK_end]
theorem lkL_done {h : List Evt} {a : Int} (hb : hoB h a = true) : lkL h a h.length = hoL h a := by
  unfold hoL
  rw [if_pos hb]
  exact lkL_end h a
theorem lk_mem {h : List Evt} {a : Int} {k : Nat} {x : Hop} (hx : x ∈ lkL h a k) : ∃ i, i < k ∧ (h.getD i ez).a = a ∧ 0 ≤ clK (h.getD i ez).k ∧ x = opK h k i := by
  obtain ⟨i, h1, h2⟩ := List.mem_filterMap.1 hx
  unfold lkI at h2
  split at h2
  · next h3 => exact ⟨i, by simpa using h1, h3.1, h3.2, (Option.some.inj h2).symm⟩
  · cases h2
theorem lk_get {h : List Evt} {a : Int} {k j : Nat} (hj : j < (lkL h a k).length) : ∃ i, i < k ∧ (h.getD i ez).a = a ∧ 0 ≤ clK (h.getD i ez).k ∧ (lkL h a k).getD j hz = opK h k i := by
  have : (lkL h a k).getD j hz ∈ lkL h a k := by simp [List.getD, hj]
  exact lk_mem this
theorem lk_rising (h : List Evt) (a : Int) (k : Nat) : (lkL h a k).Pairwise (fun x y => x.f < y.f) := by
  unfold lkL
  refine List.Pairwise.filterMap (R := fun i j => i < j) (S := fun x y : Hop => x.f < y.f) (lkI h a k) ?_ (List.pairwise_lt_range (n := k))
  intro i j hij x hx y hy
  unfold lkI at hx hy
  split at hx
  · split at hy
    · cases hx; cases hy
      rw [opK_f, opK_f]; omega
    · cases hy
  · cases hx
theorem lk_rise {h : List Evt} {a : Int} {k q j : Nat} (hq : q < j) (hj : j < (lkL h a k).length) : ((lkL h a k).getD q hz).f < ((lkL h a k).getD j hz).f := by
  have := List.pairwise_iff_getElem.1 (lk_rising h a k) q j (by omega) hj hq
  simpa [List.getD, hj, show q < (lkL h a k).length by omega] using this
theorem lk_one {h : List Evt} {a : Int} {k q j : Nat} (hq : q < (lkL h a k).length) (hj : j < (lkL h a k).length) (e : ((lkL h a k).getD q hz).f = ((lkL h a k).getD j hz).f) : q = j := by
  rcases Nat.lt_trichotomy q j with h1 | h1 | h1
  · have := lk_rise h1 hj; omega
  · exact h1
  · have := lk_rise h1 hq; omega
theorem lk_find {h : List Evt} {a : Int} {k i : Nat} (hi : i < k) (ha : (h.getD i ez).a = a) (hc : 0 ≤ clK (h.getD i ez).k) : ∃ j, j < (lkL h a k).length ∧ (lkL h a k).getD j hz = opK h k i := by
  have : opK h k i ∈ lkL h a k := List.mem_filterMap.2 ⟨i, by simpa using hi, by unfold lkI; rw [if_pos ⟨ha, hc⟩]⟩
  obtain ⟨j, h1, h2⟩ := List.getElem_of_mem this
  exact ⟨j, h1, by simpa [List.getD, h1] using h2⟩
theorem lk_zero (h : List Evt) (a : Int) : lkL h a 0 = [] := rfl
theorem lk_le (h : List Evt) (a : Int) (k : Nat) : (lkL h a k).length ≤ k := Nat.le_trans (List.length_filterMap_le _ _) (by simp)

/-- One event more. -/
theorem opK_more (h : List Evt) (k i : Nat) (hb : bkP h i ≠ k) : opK h (k + 1) i = opK h k i := by
  unfold opK
  by_cases h1 : 0 ≤ bkP h i ∧ bkP h i < k
  · rw [if_pos h1, if_pos ⟨h1.1, by omega⟩]
  · rw [if_neg h1, if_neg (by omega)]
theorem bk_self (h : List Evt) (k : Nat) : bkP h k ≠ k := by
  rcases bk_lt h k with h1 | h1
  · omega
  · obtain ⟨j, h2, h3, _⟩ := bk_at h1
    omega
theorem opK_new (h : List Evt) (k : Nat) : opK h (k + 1) k = ⟨(h.getD k ez).t, clK (h.getD k ez).k, (h.getD k ez).v, 0, false, k, -1⟩ := by
  unfold opK
  rw [if_neg]
  rcases bk_lt h k with h1 | h1
  · omega
  · obtain ⟨j, h2, h3, _⟩ := bk_at h1
    omega
theorem lk_more (h : List Evt) (a : Int) (k : Nat) : lkL h a (k + 1) = (List.range k).filterMap (lkI h a (k + 1)) ++ (lkI h a (k + 1) k).toList := by
  unfold lkL
  rw [List.range_succ, List.filterMap_append]
  cases hq : lkI h a (k + 1) k <;> simp [hq]
theorem lk_same {h : List Evt} {a : Int} {k : Nat} (hb : ∀ i, i < k → (h.getD i ez).a = a → 0 ≤ clK (h.getD i ez).k → bkP h i ≠ k) (hn : ¬ ((h.getD k ez).a = a ∧ 0 ≤ clK (h.getD k ez).k)) : lkL h a (k + 1) = lkL h a k := by
  rw [lk_more, show lkI h a (k + 1) k = none by unfold lkI; rw [if_neg hn]]
  rw [show (none : Option Hop).toList = [] from rfl, List.append_nil]
  refine filterMap_same fun i hi => ?_
  unfold lkI
  split
  · next h1 => rw [opK_more h k i (hb i (by simpa using hi) h1.1 h1.2)]
  · rfl
theorem lk_call {h : List Evt} {a : Int} {k : Nat} (hk : k < h.length) (ha : (h.getD k ez).a = a) (hc : 0 ≤ clK (h.getD k ez).k) : lkL h a (k + 1) = lkL h a k ++ [⟨(h.getD k ez).t, clK (h.getD k ez).k, (h.getD k ez).v, 0, false, k, -1⟩] := by
  rw [lk_more, show lkI h a (k + 1) k = some (opK h (k + 1) k) by unfold lkI; rw [if_pos ⟨ha, hc⟩], opK_new]
  congr 1
  refine filterMap_same fun i hi => ?_
  unfold lkI
  split
  · next h1 =>
    rw [opK_more h k i (fun h2 => ?_)]
    have := ((bk_iff (by simpa using hi) hk).1 h2).2.2.1
    omega
  · rfl
theorem filterMap_map {α β : Type} {f g : α → Option β} {u : β → β} {l : List α} (h : ∀ x ∈ l, f x = (g x).map u) : l.filterMap f = (l.filterMap g).map u := by
  rw [List.map_filterMap]
  exact filterMap_same h
theorem lk_back {h : List Evt} {a : Int} {k i j : Nat} (hk : k < h.length) (hi : i < k) (hb : bkP h i = k) (hcall : 0 ≤ clK (h.getD i ez).k) (hj : j < (lkL h a k).length) (hf : ((lkL h a k).getD j hz).f = i) : lkL h a (k + 1) = (lkL h a k).set j (opP h i) := by
  have hc := ((bk_iff hi hk).1 hb)
  have e1 : lkL h a (k + 1) = (lkL h a k).map fun x => if x.f = (i : Int) then opP h i else x := by
    rw [lk_more, show lkI h a (k + 1) k = none by unfold lkI; rw [if_neg (by omega)]]
    rw [show (none : Option Hop).toList = [] from rfl, List.append_nil]
    refine filterMap_map fun q hq => ?_
    have hq' : q < k := by simpa using hq
    unfold lkI
    split
    · next h1 =>
      show some _ = some _
      congr 1
      by_cases hqi : q = i
      · subst hqi
        dsimp only
        rw [if_pos (opK_f h k q)]
        unfold opK
        rw [if_pos (by omega)]
      · dsimp only
        rw [if_neg (by rw [opK_f]; omega)]
        refine opK_more h k q fun h2 => hqi ?_
        have h3 := (bk_iff hq' hk).1 h2
        rcases Nat.lt_trichotomy q i with h4 | h4 | h4
        · have := h3.2.2.2 i h4 hi (hc.1.symm.trans h3.1)
          omega
        · exact h4
        · have := hc.2.2.2 q h4 hq' (h3.1.symm.trans hc.1)
          omega
    · rfl
  rw [e1]
  refine List.ext_getElem? fun q => ?_
  rw [List.getElem?_map, List.getElem?_set]
  by_cases hq : j = q
  · subst hq
    rw [if_pos rfl, if_pos hj, List.getElem?_eq_getElem hj]
    have : (lkL h a k)[j].f = i := by simpa [List.getD, hj] using hf
    simp [this]
  · rw [if_neg hq]
    cases hg : (lkL h a k)[q]? with
    | none => rfl
    | some x =>
      have hql : q < (lkL h a k).length := (List.getElem?_eq_some_iff.1 hg).1
      have : x.f ≠ i := by
        intro h1
        refine hq (lk_one hj hql ?_)
        rw [hf, show (lkL h a k).getD q hz = x by simp [List.getD, hg], h1]
      simp [this]
/-- What stands under each task. -/
def opn (h : List Evt) (a : Int) (k : Nat) (S : List (Int × Nat)) : Prop :=
  (S.map (·.1)).Nodup ∧ ∀ t j, (t, j) ∈ S ↔ ∃ i, i < k ∧ (h.getD i ez).t = t ∧ (h.getD i ez).a = a ∧ 0 ≤ clK (h.getD i ez).k ∧ pnd h k i ∧ j < (lkL h a k).length ∧ ((lkL h a k).getD j hz).f = i
theorem opn_zero (h : List Evt) (a : Int) : opn h a 0 [] := ⟨List.nodup_nil, fun t j => ⟨fun h => by (cases h), fun ⟨i, h, _⟩ => by omega⟩⟩
/-- What goes of a task goes, all else stays. -/
def dlT (S S' : List (Int × Nat)) (t : Int) : Prop := (S'.map (·.1)).Nodup ∧ ∀ p, p ∈ S' ↔ p ∈ S ∧ p.1 ≠ t
theorem opn_away {h : List Evt} {a : Int} {k : Nat} {S S' : List (Int × Nat)} (hk : k < h.length) (H : opn h a k S) (hd : dlT S S' (h.getD k ez).t) (hc : 0 ≤ clK (h.getD k ez).k) (ha : (h.getD k ez).a ≠ a) : lkL h a (k + 1) = lkL h a k ∧ opn h a (k + 1) S' := by
  have e : lkL h a (k + 1) = lkL h a k := lk_same (fun i hi _ _ h2 => by have := ((bk_iff hi hk).1 h2).2.2.1; omega) (fun h1 => ha h1.1)
  refine ⟨e, hd.1, fun t j => ?_⟩
  rw [hd.2, H.2, e]
  constructor
  · rintro ⟨⟨i, h1, h2, h3, h4, h5, h6⟩, h7⟩
    exact ⟨i, by omega, h2, h3, h4, (pnd_more h1).2 ⟨h5, fun h8 => absurd (h2.symm.trans h8.symm) h7⟩, h6⟩
  · rintro ⟨i, h1, h2, h3, h4, h5, h6⟩
    have h1' : i < k := by
      rcases Nat.lt_succ_iff_lt_or_eq.1 h1 with h1 | rfl
      · exact h1
      · exact absurd h3 ha
    have h7 := (pnd_more h1').1 h5
    exact ⟨⟨i, h1', h2, h3, h4, h7.1, h6⟩, fun h8 => by have := (h7.2 (h8.symm.trans h2.symm)).1; omega⟩
theorem opn_call {h : List Evt} {a : Int} {k : Nat} {S S' : List (Int × Nat)} (hk : k < h.length) (H : opn h a k S) (hd : dlT S S' (h.getD k ez).t) (hc : 0 ≤ clK (h.getD k ez).k) (ha : (h.getD k ez).a = a) :
    opn h a (k + 1) (S' ++ [((h.getD k ez).t, (lkL h a k).length)]) := by
  have e := lk_call hk ha hc
  refine ⟨?_, fun t j => ?_⟩
  · rw [List.map_append, List.nodup_append]
    refine ⟨hd.1, by simp, ?_⟩
    intro x hx y hy
    obtain ⟨p, h1, rfl⟩ := List.mem_map.1 hx
    simp at hy
    subst hy
    exact ((hd.2 p).1 h1).2
  · rw [List.mem_append, hd.2, H.2, List.mem_singleton]
    have hl : (lkL h a (k + 1)).length = (lkL h a k).length + 1 := by rw [e]; simp
    have hg : ∀ q, q < (lkL h a k).length → (lkL h a (k + 1)).getD q hz = (lkL h a k).getD q hz := fun q hq => by rw [e]; simp [List.getD, List.getElem?_append_left hq]
    have hn : ((lkL h a (k + 1)).getD (lkL h a k).length hz).f = k := by rw [e]; simp [List.getD]
    constructor
    · rintro (⟨⟨i, h1, h2, h3, h4, h5, h6, h7⟩, h8⟩ | h1)
      · exact ⟨i, by omega, h2, h3, h4, (pnd_more h1).2 ⟨h5, fun h9 => absurd (h2.symm.trans h9.symm) h8⟩, by omega, by rw [hg j h6]; exact h7⟩
      · injection h1 with h1 h2
        subst h1 h2
        exact ⟨k, by omega, rfl, ha, hc, fun q h1 h2 => absurd h1 (by omega), by omega, hn⟩
    · rintro ⟨i, h1, h2, h3, h4, h5, h6, h7⟩
      rcases Nat.lt_succ_iff_lt_or_eq.1 h1 with h1 | rfl
      · left
        have h8 := (pnd_more h1).1 h5
        have hj : j < (lkL h a k).length := by
          rcases Nat.lt_succ_iff_lt_or_eq.1 (by omega : j < (lkL h a k).length + 1) with h9 | h9
          · exact h9
          · subst h9; rw [hn] at h7; omega
        exact ⟨⟨i, h1, h2, h3, h4, h8.1, hj, by rw [← hg j hj]; exact h7⟩, fun h9 => by have := (h8.2 (h9.symm.trans h2.symm)).1; omega⟩
      · right
        have hj : j = (lkL h a i).length := by
          rcases Nat.lt_succ_iff_lt_or_eq.1 (by omega : j < (lkL h a i).length + 1) with h9 | h9
          · rw [hg j h9] at h7
            obtain ⟨q, h10, _, _, h11⟩ := lk_get h9
            rw [h11, opK_f] at h7
            omega
          · exact h9
        rw [hj, ← h2]
theorem opn_other {h : List Evt} {a : Int} {k : Nat} {S : List (Int × Nat)} (hk : k < h.length) (H : opn h a k S) (hc : clK (h.getD k ez).k < 0) (ha : (h.getD k ez).a ≠ a) : lkL h a (k + 1) = lkL h a k ∧ opn h a (k + 1) S := by
  have e : lkL h a (k + 1) = lkL h a k := lk_same (fun i hi h1 _ h2 => ha (((bk_iff hi hk).1 h2).2.1.trans h1)) (fun h1 => ha h1.1)
  refine ⟨e, H.1, fun t j => ?_⟩
  rw [H.2, e]
  constructor
  · rintro ⟨i, h1, h2, h3, h4, h5, h6⟩
    exact ⟨i, by omega, h2, h3, h4, (pnd_more h1).2 ⟨h5, fun _ => ⟨hc, fun h8 => ha (h8.trans h3)⟩⟩, h6⟩
  · rintro ⟨i, h1, h2, h3, h4, h5, h6⟩
    have h1' : i < k := by
      rcases Nat.lt_succ_iff_lt_or_eq.1 h1 with h1 | rfl
      · exact h1
      · exact absurd h3 ha
    exact ⟨i, h1', h2, h3, h4, ((pnd_more h1').1 h5).1, h6⟩
/-- A return of which a call tells. -/
theorem opn_back {h : List Evt} {a : Int} {k j : Nat} {S S' : List (Int × Nat)} (hk : k < h.length) (H : opn h a k S) (hd : dlT S S' (h.getD k ez).t) (hc : clK (h.getD k ez).k < 0) (ha : (h.getD k ez).a = a) (hj : ((h.getD k ez).t, j) ∈ S) :
    ∃ i, i < k ∧ (h.getD i ez).a = a ∧ 0 ≤ clK (h.getD i ez).k ∧ bkP h i = k ∧ j < (lkL h a k).length ∧ (lkL h a k).getD j hz = ⟨(h.getD i ez).t, clK (h.getD i ez).k, (h.getD i ez).v, 0, false, i, -1⟩ ∧
      opP h i = ⟨(h.getD i ez).t, clK (h.getD i ez).k, (h.getD i ez).v, reE (h.getD k ez), okE (h.getD k ez), i, k⟩ ∧ lkL h a (k + 1) = (lkL h a k).set j (opP h i) ∧ opn h a (k + 1) S' := by
  obtain ⟨i, h1, h2, h3, h4, h5, h6, h7⟩ := (H.2 _ _).1 hj
  have hb : bkP h i = k := (bk_iff h1 hk).2 ⟨h2.symm, ha.trans h3.symm, hc, h5⟩
  have e := lk_back (a := a) hk h1 hb h4 h6 h7
  have ho : (lkL h a k).getD j hz = opK h k i := by
    obtain ⟨q, h8, _, _, h9⟩ := lk_get h6
    rw [h9, opK_f] at h7
    have : q = i := by omega
    rw [h9, this]
  refine ⟨i, h1, h3, h4, hb, h6, ?_, ?_, e, hd.1, fun t q => ?_⟩
  · rw [ho]
    unfold opK
    rw [if_neg (by omega)]
  · unfold opP
    rw [if_neg (by omega), hb]
    rfl
  · have hl : (lkL h a (k + 1)).length = (lkL h a k).length := by rw [e]; simp
    have hg : ∀ p, p < (lkL h a k).length → ((lkL h a (k + 1)).getD p hz).f = ((lkL h a k).getD p hz).f := fun p hp => by
      rw [e]
      by_cases hpj : j = p
      · subst hpj; simp [List.getD, h6, op_f, ← h7]
      · simp [List.getD, hpj]
    rw [hd.2, H.2, hl]
    constructor
    · rintro ⟨⟨p, g1, g2, g3, g4, g5, g6, g7⟩, g8⟩
      exact ⟨p, by omega, g2, g3, g4, (pnd_more g1).2 ⟨g5, fun g9 => absurd (g2.symm.trans g9.symm) g8⟩, g6, by rw [hg q g6]; exact g7⟩
    · rintro ⟨p, g1, g2, g3, g4, g5, g6, g7⟩
      have g1' : p < k := by
        rcases Nat.lt_succ_iff_lt_or_eq.1 g1 with g1 | rfl
        · exact g1
        · omega
      have g9 := (pnd_more g1').1 g5
      exact ⟨⟨p, g1', g2, g3, g4, g9.1, g6, by rw [← hg q g6]; exact g7⟩, fun g10 => (g9.2 (g10.symm.trans g2.symm)).2 (ha.trans g3.symm)⟩
/-- What makes a history tell of no operations. -/
theorem told_none {h : List Evt} {a : Int} {k : Nat} {S : List (Int × Nat)} (hk : k < h.length) (H : opn h a k S) (hc : clK (h.getD k ez).k < 0) (ha : (h.getD k ez).a = a) (hno : ∀ j, ((h.getD k ez).t, j) ∈ S → clK (h.getD ((lkL h a k).getD j hz).f.toNat ez).k ≠ rtK (h.getD k ez).k) : hoB h a = false := by
  cases hb : hoB h a
  · rfl
  · rcases (hoB_iff h a).1 hb k hk ha with h1 | ⟨i, h1, h2, h3, h4⟩
    · omega
    · have h5 := (bk_iff h1 hk).1 h3
      have h6 : (h.getD i ez).a = a := h5.2.1.symm.trans ha
      obtain ⟨j, h7, h8⟩ := lk_find h1 h6 h2
      refine absurd h4 ?_
      have := hno j ((H.2 _ _).2 ⟨i, h1, h5.1.symm, h6, h2, h5.2.2.2, h7, by rw [h8, opK_f]⟩)
      rw [h8, opK_f] at this
      simpa using this
/-- Each event of the object so far is a call, or a return of which one tells. -/
def tld (h : List Evt) (a : Int) (k : Nat) : Prop := ∀ q, q < k → (h.getD q ez).a = a → 0 ≤ clK (h.getD q ez).k ∨ tdP h q
theorem tld_zero (h : List Evt) (a : Int) : tld h a 0 := fun q hq => absurd hq (by omega)
theorem tld_more {h : List Evt} {a : Int} {k : Nat} (H : tld h a k) (hk : (h.getD k ez).a = a → 0 ≤ clK (h.getD k ez).k ∨ tdP h k) : tld h a (k + 1) := fun q hq => by
  rcases Nat.lt_succ_iff_lt_or_eq.1 hq with h1 | rfl
  · exact H q h1
  · exact hk
theorem tld_end {h : List Evt} {a : Int} (H : tld h a h.length) : hoB h a = true := (hoB_iff h a).2 H
end Go.Proofs.YtpkjepbeeebdoaaDoor
