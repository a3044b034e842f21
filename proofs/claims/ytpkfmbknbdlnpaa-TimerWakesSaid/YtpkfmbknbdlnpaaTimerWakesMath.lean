/-
  Each wakes once: who still sleeps at each tick, and how often each has woken.
-/
import Derived.Test.YtpkfmbknbdlnpaaTimerOrderMath
import Derived.Test.YtpkfmbknbdlnpaaCellMath
namespace Go.Proofs.Ytpkfmbknbdlnpaa

def wkT (W : List Int) (q : Nat) : Int := W.getD q 0 % 32
def wkL (W : List Int) : Nat → List Np
  | 0 => []
  | j + 1 => pnL (wkL W j) j (wkT W j)
theorem wkT_in (W : List Int) (q : Nat) : 0 ≤ wkT W q ∧ wkT W q < 32 := by unfold wkT; omega
theorem wk_ok (W : List Int) {j : Nat} (h : j < 8) (hm : ∀ x, x ∈ wkL W j ↔ ∃ q : Nat, q < j ∧ x = ⟨q, wkT W q⟩) : pnB (wkL W j) j (wkT W j) = true := by
  have ht := wkT_in W j
  unfold pnB
  rw [Bool.and_eq_true]
  refine ⟨np_iff.2 ⟨by simp, by simp; omega, ht.1, by simp; omega⟩, ?_⟩
  rw [hs_no.2 fun o ho => ?_]; rfl
  obtain ⟨q, hq, rfl⟩ := (hm o).1 ho
  simp
  omega
theorem wk_mem (W : List Int) : ∀ j : Nat, j ≤ 8 → ∀ x, x ∈ wkL W j ↔ ∃ q : Nat, q < j ∧ x = ⟨q, wkT W q⟩
  | 0, _, x => by simp [wkL]
  | j + 1, h, x => by
    have ih := wk_mem W j (by omega)
    have e : wkL W (j + 1) = _ := pn_eq (wk_ok W (by omega) ih)
    rw [e]
    have m : (x ∈ upL (wkL W j) (wkT W j) ++ ⟨j, wkT W j⟩ :: ovL (wkL W j) (wkT W j)) ↔ (x ∈ wkL W j ∨ x = ⟨j, wkT W j⟩) := by
      unfold upL ovL
      simp only [List.mem_append, List.mem_cons, List.mem_filter, decide_eq_true_eq]
      constructor
      · rintro (h | h | h)
        · exact .inl h.1
        · exact .inr h
        · exact .inl h.1
      · rintro (h | h)
        · by_cases g : x.t ≤ wkT W j
          · exact .inl ⟨h, g⟩
          · exact .inr (.inr ⟨h, by omega⟩)
        · exact .inr (.inl h)
    rw [m, ih x]
    constructor
    · rintro (⟨q, hq, rfl⟩ | rfl)
      · exact ⟨q, by omega, rfl⟩
      · exact ⟨j, by omega, rfl⟩
    · rintro ⟨q, hq, rfl⟩
      by_cases g : q = j
      · subst g; exact .inr rfl
      · exact .inl ⟨q, by omega, rfl⟩
theorem wk_put (W : List Int) {j : Nat} (h : j < 8) : pnB (wkL W j) j (wkT W j) = true := wk_ok W h (wk_mem W j (by omega))
theorem wk_sn (W : List Int) : ∀ j : Nat, Sn (wkL W j)
  | 0 => sn_nil
  | j + 1 => sn_put _ _ (wk_sn W j)

theorem igetD {K : List Int} {i : Nat} (h : i < K.length) : K.getD i 0 = K[i] := by simp [List.getD, h]
/-- Who still sleeps ahead of tick t, where the ticks begin at s. -/
def acL (l : List Np) (s t : Int) : List Np := l.filter fun o => decide (t ≤ max s o.t)
theorem ac_start (l : List Np) (s : Int) : acL l s s = l := List.filter_eq_self.2 fun o _ => decide_eq_true (by omega)
theorem ac_next (l : List Np) {s t : Int} (h : s ≤ t) : ovL (acL l s t) t = acL l s (t + 1) := by
  unfold ovL acL
  rw [List.filter_filter]
  congr 1
  funext o
  rw [← Bool.decide_and]
  exact decide_eq_decide.2 (by omega)
theorem ac_sn {l : List Np} (h : Sn l) (s t : Int) : Sn (acL l s t) := sn_sub h List.filter_sublist
theorem ac_up {l : List Np} {s t : Int} (h : s ≤ t) (x : Np) : x ∈ upL (acL l s t) t ↔ (x ∈ l ∧ max s x.t = t) := by
  unfold upL acL
  simp only [List.mem_filter, decide_eq_true_eq]
  constructor
  · rintro ⟨⟨a, b⟩, c⟩; exact ⟨a, by omega⟩
  · rintro ⟨a, b⟩; exact ⟨⟨a, by omega⟩, by omega⟩
theorem ac_end (W : List Int) {n : Nat} (hn : n ≤ 8) {s : Int} (hs : s ≤ 15) : acL (wkL W n) s 40 = [] := List.filter_eq_nil_iff.2 fun o ho => by
  obtain ⟨q, _, rfl⟩ := (wk_mem W n hn o).1 ho
  have := (wkT_in W q).2
  simp only [decide_eq_true_eq]
  omega
/-- How often each of eight has woken: ahead of tick t, and by the first i of those who are due. -/
def wkC (W : List Int) (s : Int) (n : Nat) (t : Int) (K : List Int) (i : Nat) : List Int :=
  (List.range 8).map fun q => (if q < n ∧ max s (wkT W q) < t then 1 else 0) + (if (q : Int) ∈ K.take i then 1 else 0)
theorem wkC_len (W : List Int) (s : Int) (n : Nat) (t : Int) (K : List Int) (i : Nat) : (wkC W s n t K i).length = 8 := by simp [wkC]
theorem wkC_get (W : List Int) (s : Int) (n : Nat) (t : Int) (K : List Int) (i q : Nat) (hq : q < 8) : (wkC W s n t K i).getD q 0 = (if q < n ∧ max s (wkT W q) < t then 1 else 0) + (if (q : Int) ∈ K.take i then 1 else 0) := by
  simp [wkC, List.getD, hq]
theorem wkC_zero (W : List Int) (s : Int) (n : Nat) (K : List Int) : wkC W s n s K 0 = [0, 0, 0, 0, 0, 0, 0, 0] := by
  have e : wkC W s n s K 0 = (List.range 8).map fun _ => (0 : Int) := List.map_congr_left fun q _ => by
    rw [if_neg (by omega), if_neg (by simp)]; rfl
  rw [e]; rfl
theorem wkC_none (W : List Int) (s : Int) (n : Nat) (t : Int) (K K' : List Int) : wkC W s n t K 0 = wkC W s n t K' 0 := by simp [wkC]
theorem wkC_end (W : List Int) {n : Nat} {s : Int} (hs : s ≤ 15) (K : List Int) (q : Nat) (hq : q < n) (hn : n ≤ 8) : (wkC W s n 40 K 0).getD q 0 = 1 := by
  have := (wkT_in W q).2
  rw [wkC_get _ _ _ _ _ _ _ (by omega), if_pos ⟨hq, by omega⟩, if_neg (by simp)]; rfl
section
variable {W : List Int} {s t : Int} {n : Nat} {K : List Int}
/-- Who is due at tick t. -/
theorem due_at (hn : n ≤ 8) (h : s ≤ t) (i : Nat) (hi : i < (niL (upL (acL (wkL W n) s t) t)).length) : ∃ q : Nat, q < n ∧ (niL (upL (acL (wkL W n) s t) t)).getD i 0 = (q : Int) ∧ max s (wkT W q) = t := by
  have hi' : i < (upL (acL (wkL W n) s t) t).length := by simpa [niL] using hi
  obtain ⟨hm, ht⟩ := (ac_up h _).1 (List.getElem_mem hi')
  obtain ⟨q, hq, e⟩ := (wk_mem W n hn _).1 hm
  rw [e] at ht
  refine ⟨q, hq, ?_, ht⟩
  simp [niL, List.getD, hi', e]
theorem due_mem (hn : n ≤ 8) (h : s ≤ t) (q : Nat) (hq : q < n) : (q : Int) ∈ niL (upL (acL (wkL W n) s t) t) ↔ max s (wkT W q) = t := by
  unfold niL
  rw [List.mem_map]
  constructor
  · rintro ⟨x, hx, e⟩
    obtain ⟨hm, ht⟩ := (ac_up h _).1 hx
    obtain ⟨q', hq', rfl⟩ := (wk_mem W n hn _).1 hm
    simp at e
    obtain rfl : q' = q := by omega
    exact ht
  · intro ht
    exact ⟨⟨q, wkT W q⟩, (ac_up h _).2 ⟨(wk_mem W n hn _).2 ⟨q, hq, rfl⟩, ht⟩, rfl⟩
theorem due_nodup : (niL (upL (acL (wkL W n) s t) t)).Nodup := nodup_ni (gn_sub (ac_sn (wk_sn W n) s t).2 List.filter_sublist)
theorem due_out (hn : n ≤ 8) (h : s ≤ t) (q : Nat) (hq : n ≤ q) : (q : Int) ∉ niL (upL (acL (wkL W n) s t) t) := by
  unfold niL
  rw [List.mem_map]
  rintro ⟨x, hx, e⟩
  obtain ⟨hm, _⟩ := (ac_up h _).1 hx
  obtain ⟨q', hq', rfl⟩ := (wk_mem W n hn _).1 hm
  simp at e
  omega
/-- One of those who are due has not woken yet; when it has, it has woken once. -/
theorem nodup_take {K : List Int} (hk : K.Nodup) {i : Nat} (hi : i < K.length) : K.getD i 0 ∉ K.take i := by
  have e : K.getD i 0 = K[i] := by simp [List.getD, hi]
  rw [e, List.mem_take_iff_getElem]
  rintro ⟨j, hj, g⟩
  have := (List.pairwise_iff_getElem.1 hk) j i (by omega) hi (by omega)
  exact this g
theorem wkC_fresh (hn : n ≤ 8) {q i : Nat} (hq : q < n) (hi : i < (niL (upL (acL (wkL W n) s t) t)).length) (hk : (niL (upL (acL (wkL W n) s t) t)).getD i 0 = (q : Int)) (ht : max s (wkT W q) = t) :
    (wkC W s n t (niL (upL (acL (wkL W n) s t) t)) i).getD q 0 = 0 := by
  rw [wkC_get _ _ _ _ _ _ _ (by omega), if_neg (by omega), if_neg (hk ▸ nodup_take due_nodup hi)]; rfl
theorem take_mem {K : List Int} {i : Nat} (hi : i < K.length) (x : Int) : x ∈ K.take (i + 1) ↔ (x ∈ K.take i ∨ x = K.getD i 0) := by
  rw [List.take_add_one, List.getElem?_eq_getElem hi, igetD hi, List.mem_append]
  simp only [Option.toList, List.mem_singleton]
theorem wkC_set {q i : Nat} (K : List Int) (hi : i < K.length) (hk : K.getD i 0 = (q : Int)) (ht : max s (wkT W q) = t) :
    (wkC W s n t K i).set q 1 = wkC W s n t K (i + 1) := by
  refine List.ext_getElem (by simp [wkC]) fun j h1 h2 => ?_
  have hj : j < 8 := by simpa [wkC] using h2
  have a2 := wkC_get W s n t K (i + 1) j hj
  have a1 := wkC_get W s n t K i j hj
  have e2 : (wkC W s n t K (i + 1)).getD j 0 = (wkC W s n t K (i + 1))[j] := igetD h2
  have h3 : j < (wkC W s n t K i).length := by simpa [wkC] using hj
  have e1 : (wkC W s n t K i).getD j 0 = (wkC W s n t K i)[j] := igetD h3
  rw [List.getElem_set]
  rw [show (wkC W s n t K (i + 1))[j] = _ from e2.symm.trans a2]
  by_cases g : q = j
  · subst g
    rw [if_pos rfl, if_neg (by omega), if_pos ((take_mem hi _).2 (.inr hk.symm))]; rfl
  · rw [if_neg g, ← e1, a1]
    congr 1
    have : ((j : Int) ∈ K.take (i + 1)) ↔ ((j : Int) ∈ K.take i) := by
      rw [take_mem hi, hk]
      constructor
      · rintro (h | h)
        · exact h
        · omega
      · exact .inl
    simp only [this]
theorem wkC_next (hn : n ≤ 8) (h : s ≤ t) (K' : List Int) :
    wkC W s n t (niL (upL (acL (wkL W n) s t) t)) (niL (upL (acL (wkL W n) s t) t)).length = wkC W s n (t + 1) K' 0 := by
  unfold wkC
  refine List.map_congr_left fun q _ => ?_
  rw [List.take_length]
  rw [if_neg (show ¬ (q : Int) ∈ K'.take 0 by simp)]
  by_cases hq : q < n
  · have e := due_mem (W := W) hn h q hq
    by_cases g : max s (wkT W q) = t
    · rw [if_neg (by omega), if_pos (e.2 g), if_pos ⟨hq, by omega⟩]; rfl
    · rw [if_neg (show ¬ (q : Int) ∈ _ from fun hm => g (e.1 hm))]
      congr 1
      have : (q < n ∧ max s (wkT W q) < t) ↔ (q < n ∧ max s (wkT W q) < t + 1) := by omega
      simp only [this]
  · rw [if_neg (by omega), if_neg (due_out hn h q (by omega)), if_neg (by omega)]
end
end Go.Proofs.Ytpkfmbknbdlnpaa
