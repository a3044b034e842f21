/-
  Plain facts on the first dictionary: which operations it has, in order, once; each is found by its name.
-/
import Derived.Test.YtkpomphjicoaeaaDictAt
namespace Go.Proofs.Ytkpomphjicoaeaa

/-- The operations that are not hidden. -/
def bsV : List Nat := (List.range 111).filter fun o : Nat => !opH (opR (o : Int)).1
theorem bsT_map : bsT 111 = bsV.map bsE := rfl
theorem bsV_mem {o : Nat} : o ∈ bsV ↔ o < 111 ∧ opH (opR (o : Int)).1 = false := by
  unfold bsV
  rw [List.mem_filter, List.mem_range]
  simp
theorem bsV_sorted : bsV.Pairwise (· < ·) := List.Pairwise.filter _ List.pairwise_lt_range
theorem bsV_nodup : bsV.Nodup := List.Nodup.sublist List.filter_sublist List.nodup_range
theorem bsV_len : bsV.length ≤ 111 := by have := bsT_le 111; rw [bsT_map, List.length_map] at this; exact this
theorem bsV_pos : 0 < bsV.length := by have := aw_b; rw [bsT_map, List.length_map] at this; omega
theorem bs_get {j : Nat} (h : j < bsV.length) : (bsT 111).getD j e0 = bsE (bsV.getD j 0) := by
  rw [bsT_map]
  simp [List.getD, h]
theorem bsV_get {j : Nat} (h : j < bsV.length) : bsV.getD j 0 = bsV[j] := by simp [List.getD, h]
theorem bsV_in {j : Nat} (h : j < bsV.length) : bsV.getD j 0 < 111 ∧ opH (opR ((bsV.getD j 0 : Nat) : Int)).1 = false := by
  rw [bsV_get h]
  exact bsV_mem.1 (List.getElem_mem h)
theorem bsV_rise {i j : Nat} (hj : j < bsV.length) (h : i < j) : bsV.getD i 0 < bsV.getD j 0 := by
  rw [bsV_get hj, bsV_get (show i < bsV.length by omega)]
  exact List.pairwise_iff_getElem.1 bsV_sorted i j _ _ h
theorem bs_sane_each : (opT.zipIdx.all fun x => opH x.1.1 || (decide (1 ≤ x.1.1.length ∧ x.1.1.length ≤ 31) && (decide (x.1.1.map scU = x.1.1) && x.1.1.all fun c => !scB c))) = true := by decide +kernel
theorem bs_sane {o : Nat} (h : o < 111) (hh : opH (opR (o : Int)).1 = false) : saneB (bsE o) = true := by
  have h1 := opR_each (p := fun _ x => opH x.1 || (decide (1 ≤ x.1.length ∧ x.1.length ≤ 31) && (decide (x.1.map scU = x.1) && x.1.all fun c => !scB c))) bs_sane_each o h
  simp only [hh, Bool.false_or, Bool.and_eq_true] at h1
  obtain ⟨h2, h3, h4⟩ := h1
  have e1 : nmB (bsE o).s = true := by
    unfold nmB bsE
    simp only [size_mk]
    exact h2
  have e2 : cpB (bsE o).s = true := by
    unfold cpB
    rw [nEq_iff]
    apply bytes_ext
    rw [up_data]
    unfold bsE
    simp only
    simpa using (of_decide_eq_true h3).symm
  have e3 : bkB (bsE o).s = true := by
    unfold bkB bsE
    simpa using h4
  have e4 : kdB (bsE o) = true := by
    unfold kdB opB bsE
    simp [hh]
    omega
  unfold saneB
  rw [e1, e2, e3, e4]
  rfl
/-- How often an operation has come among the first j. -/
def bsC (k j : Nat) : Nat := (bsV.take j).count k
theorem bsC_zero (k : Nat) : bsC k 0 = 0 := by unfold bsC; simp
theorem bsC_yes {k j : Nat} (h : j < bsV.length) (hk : bsV.getD j 0 = k) : bsC k (j + 1) = bsC k j + 1 := by
  unfold bsC
  rw [List.take_succ_eq_append_getElem h, List.count_append, ← bsV_get h, hk]
  simp
theorem bsC_no {k j : Nat} (h : j < bsV.length) (hk : bsV.getD j 0 ≠ k) : bsC k (j + 1) = bsC k j := by
  unfold bsC
  rw [List.take_succ_eq_append_getElem h, List.count_append, ← bsV_get h, List.count_singleton, if_neg (by simpa using hk)]
  simp
theorem bsC_le (k j : Nat) : bsC k j ≤ 111 := by
  unfold bsC
  have h1 := List.count_le_length (a := k) (l := bsV.take j)
  have h2 := bsV_len
  simp at h1
  omega
theorem bsC_all {k : Nat} (hk : k < 111) : bsC k bsV.length = if opH (opR (k : Int)).1 then 0 else 1 := by
  unfold bsC
  rw [List.take_length, bsV_nodup.count]
  cases h : opH (opR (k : Int)).1
  · rw [if_pos (bsV_mem.2 ⟨hk, h⟩)]; rfl
  · rw [if_neg (fun hm => by have := (bsV_mem.1 hm).2; rw [h] at this; cases this)]; rfl
theorem dG_none {l : List En} {U : ByteArray} {n : Nat} (h : ∀ j, j < n → nEq (l.getD j e0).s U = false) : dG l U n = none := by
  induction n with
  | zero => rfl
  | succ n ih => rw [dG_no (h n (by omega)), ih fun j hj => h j (by omega)]
theorem dG_some {l : List En} {U : ByteArray} {n i : Nat} (hi : i < n) (h : nEq (l.getD i e0).s U = true) (hn : ∀ j, i < j → j < n → nEq (l.getD j e0).s U = false) : dG l U n = some i := by
  induction n with
  | zero => omega
  | succ n ih =>
    by_cases e : i = n
    · subst e; exact dG_yes h
    · rw [dG_no (hn n (by omega) (by omega)), ih (by omega) fun j hj h2 => hn j hj (by omega)]
theorem bs_up {o : Nat} (h : o < 111) : up (bsE o).s = (bsE o).s := by
  apply bytes_ext
  rw [up_data]
  unfold bsE
  simpa using opR_upper o h
theorem bs_name {i j : Nat} (hi : i < 111) (hj : j < 111) (h : i ≠ j) : nEq (bsE i).s (bsE j).s = false := by
  rw [nEq_no]
  intro e
  apply h
  apply opR_inj i j hi hj
  have := congrArg (fun s : ByteArray => s.data.toList) e
  unfold bsE at this
  simpa using this
theorem bs_size {o : Nat} (h : o < 111) : (bsE o).s.size ≠ 0 := by
  unfold bsE
  simp only [size_mk]
  intro e
  exact opR_some o h (List.eq_nil_of_length_eq_zero e)
/-- Who is found by an operation's name. -/
theorem bs_find {k : Nat} (hk : k < 111) : ∃ i : Nat, i < bsV.length ∧ ((opH (opR (k : Int)).1 = true ∧ dF (bsT 111) (bsE k).s = none ∧ i = 0) ∨ (opH (opR (k : Int)).1 = false ∧ dF (bsT 111) (bsE k).s = some i ∧ bsV.getD i 0 = k)) := by
  have hz : (bsT 111).length = bsV.length := by rw [bsT_map, List.length_map]
  have hF : dF (bsT 111) (bsE k).s = dG (bsT 111) (bsE k).s bsV.length := by
    unfold dF
    rw [if_neg (bs_size hk), bs_up hk, hz]
  rw [hF]
  cases h : opH (opR (k : Int)).1
  · obtain ⟨i, hi, e⟩ := List.getElem_of_mem (bsV_mem.2 ⟨hk, h⟩)
    refine ⟨i, hi, .inr ⟨rfl, dG_some hi ?_ fun j hij hj => ?_, by rw [bsV_get hi]; exact e⟩⟩
    · rw [bs_get hi, bsV_get hi, e]; exact nEq_self _
    · rw [bs_get hj]
      have h1 := bsV_rise hj hij
      have h2 : bsV.getD i 0 = k := by rw [bsV_get hi]; exact e
      exact bs_name (bsV_in hj).1 hk (by omega)
  · refine ⟨0, bsV_pos, .inl ⟨rfl, dG_none fun j hj => ?_, rfl⟩⟩
    rw [bs_get hj]
    refine bs_name (bsV_in hj).1 hk fun e => ?_
    have := (bsV_in hj).2
    rw [e, h] at this
    cases this
theorem bs_code {i : Nat} (hi : i < bsV.length) : dCb (bsT 111) (i : Int) = true ∧ dC (bsT 111) (i : Int) = [(((bsV.getD i 0 : Nat) : Int), 0)] := by
  have hz : (bsT 111).length = bsV.length := by rw [bsT_map, List.length_map]
  have h1 : dCb (bsT 111) (i : Int) = true := by
    rw [dCb_in (by omega), bs_get hi]
    exact bs_sane (bsV_in hi).1 (bsV_in hi).2
  refine ⟨h1, ?_⟩
  rw [dC_yes h1, bs_get hi]
  rfl
theorem bs_names : ∀ e ∈ bsT 111, e.s.size ≤ 2000 := by
  intro e he
  rw [bsT_map] at he
  obtain ⟨o, ho, rfl⟩ := List.mem_map.1 he
  have := opR_size o (bsV_mem.1 ho).1
  omega
end Go.Proofs.Ytkpomphjicoaeaa
