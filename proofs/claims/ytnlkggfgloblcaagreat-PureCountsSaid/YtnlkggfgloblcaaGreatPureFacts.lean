/-
  Plain facts on what Do and All answer: all are cells again, how many there are, and that some in two parts are the same at once.
-/
import Derived.Test.YtnlkggfgloblcaaGreatPureMath
import Derived.Test.YtnlkggfgloblcaaGreatCellDiv
namespace Go.Proofs.YtnlkggfgloblcaaGreat
open Go.RowKit

theorem inC_zero : InC 0 := by unfold InC; omega
theorem inC_flag (b : Bool) : InC (flagZ b) := by cases b <;> (unfold flagZ InC; simp)
theorem bits_and_in (a b : Int) : InC (bits .and .i64 a b) := by show InC (IntKind.i64.wrap _); rw [wrapi64]; exact wrap64_in _
theorem bits_or_in (a b : Int) : InC (bits .or .i64 a b) := by show InC (IntKind.i64.wrap _); rw [wrapi64]; exact wrap64_in _
theorem bits_xor_in (a b : Int) : InC (bits .xor .i64 a b) := by show InC (IntKind.i64.wrap _); rw [wrapi64]; exact wrap64_in _
theorem inC_fmod (x : Int) {n : Int} (h0 : n ≠ 0) (hn : InC n) : InC (x.fmod n) := by
  unfold InC at *
  rcases Int.lt_or_gt_of_ne h0 with h | h
  · have e := Int.neg_fmod_neg x n
    have h1 := Int.fmod_nonneg_of_pos (-x) (b := -n) (by omega)
    have h2 := Int.fmod_lt_of_pos (-x) (b := -n) (by omega)
    omega
  · have h1 := Int.fmod_nonneg_of_pos x h
    have h2 := Int.fmod_lt_of_pos x h
    omega
theorem inC_fR (x : Int) {n : Int} (hn : InC n) : InC (fR x n) := by
  rcases f_cases x n with ⟨_, _, e, _⟩ | ⟨h0, _, _, e, _⟩ | ⟨_, _, _, e, _⟩
  · rw [e]; exact inC_zero
  · rw [e]; exact inC_fmod x h0 hn
  · rw [e]; exact inC_zero
theorem inC_fQ (x n : Int) : InC (fQ x n) := by
  rcases f_cases x n with ⟨_, _, _, e⟩ | ⟨_, h, _, _, e⟩ | ⟨_, _, _, _, e⟩
  · rw [e]; exact inC_zero
  · rw [e]; exact h
  · rw [e]; exact inC_zero
theorem inC_sR (x : Int) {n : Int} (hn : InC n) : InC (sR x n) := by
  rcases s_cases x n with ⟨_, _, e, _⟩ | ⟨h0, _, _, e, _⟩ | ⟨_, _, _, e, _⟩
  · rw [e]; exact inC_zero
  · rw [e]
    have := (td_bound (x := x) h0).2.2
    unfold absZ at this
    unfold InC at *
    split at this <;> omega
  · rw [e]; exact inC_zero
theorem inC_sQ (x n : Int) : InC (sQ x n) := by
  rcases s_cases x n with ⟨_, _, _, e⟩ | ⟨_, h, _, _, e⟩ | ⟨_, _, _, _, e⟩
  · rw [e]; exact inC_zero
  · rw [e]; exact h
  · rw [e]; exact inC_zero
theorem inC_uR (x u : Int) : InC (uR x u) := by
  unfold uR
  split
  · exact wrap64_in _
  · exact inC_zero
theorem inC_uQ (x u : Int) : InC (uQ x u) := by
  unfold uQ
  split
  · exact wrap64_in _
  · exact inC_zero
theorem inC_cR {a : Int} (ha : InC a) (b : Int) : InC (cR a b) := by
  unfold cR
  split
  · exact tmod_in ha b
  · exact inC_zero
theorem inC_cQ {a : Int} (ha : InC a) (b : Int) : InC (cQ a b) := by
  unfold cQ
  split
  · rename_i h; exact tdiv_in ha h
  · exact inC_zero
theorem inC_cFq {a : Int} (ha : InC a) (b : Int) : InC (cFq a b) := by
  unfold cFq
  split
  · exact wrap64_in _
  · exact inC_cQ ha b
theorem inC_cFr {a : Int} (ha : InC a) (b : Int) : InC (cFr a b) := by
  unfold cFr
  split
  · exact wrap64_in _
  · exact inC_cR ha b
theorem inC_cAl (a : Int) : InC (cAl a) := by
  unfold cAl
  show InC (IntKind.i64.wrap _)
  rw [wrapi64]; exact wrap64_in _
theorem inC_min {a b : Int} (ha : InC a) (hb : InC b) : InC (min a b) := by unfold InC at *; omega
theorem inC_max {a b : Int} (ha : InC a) (hb : InC b) : InC (max a b) := by unfold InC at *; omega
theorem inC_half {a : Int} (ha : InC a) : InC (a / 2) := by unfold InC at *; omega
theorem inC_not {a : Int} (ha : InC a) : InC (-a - 1) := by unfold InC at *; omega
theorem inC_pick {l : List Int} (h : AllC l) (n : Int) : InC (pickX l n) := by
  unfold pickX
  split
  · exact inC_zero
  · rw [List.getD_eq_getElem?_getD]
    cases hx : l[l.length - 1 - n.toNat]? with
    | none => exact inC_zero
    | some v => exact h v (List.mem_of_getElem? hx)
theorem allC_nil : AllC [] := fun _ h => by cases h
theorem allC_cons {a : Int} {l : List Int} (h : InC a) (k : AllC l) : AllC (a :: l) := fun x hx => by
  rcases List.mem_cons.1 hx with rfl | hx
  · exact h
  · exact k x hx
theorem allC_append {l m : List Int} (h : AllC l) (k : AllC m) : AllC (l ++ m) := fun x hx => by
  rcases List.mem_append.1 hx with hx | hx
  · exact h x hx
  · exact k x hx
theorem allC_take {l : List Int} (h : AllC l) (n : Nat) : AllC (l.take n) := fun x hx => h x (List.mem_of_mem_take hx)
theorem allC_drop {l : List Int} (h : AllC l) (n : Nat) : AllC (l.drop n) := fun x hx => h x (List.mem_of_mem_drop hx)
theorem allC_getD {l : List Int} (h : AllC l) (k : Nat) : InC (l.getD k 0) := by
  rw [List.getD_eq_getElem?_getD]
  cases hx : l[k]? with
  | none => exact inC_zero
  | some v => exact h v (List.mem_of_getElem? hx)
theorem inLen {l : List Int} (h : l.length ≤ 64) : InC (l.length : Int) := by unfold InC; omega
/-- What is laid are cells. -/
theorem puD_in (k : Nat) (h1 : 18 ≤ k) (h2 : k ≤ 74) (l : List Int) (a b c d : Int) (hl : AllC l) (hL : l.length ≤ 64) (ha : InC a) (hb : InC b) (hc : InC c) (hd : InC d) : AllC (puD k l a b c d).1 := by
  rcases op_split k h1 h2 with rfl | rfl | rfl | rfl | rfl | rfl | rfl | rfl | rfl | rfl | rfl | rfl | rfl | rfl | rfl | rfl | rfl | rfl | rfl | rfl | rfl | rfl | rfl | rfl | rfl | rfl | rfl | rfl | rfl | rfl | rfl | rfl | rfl | rfl | rfl | rfl | rfl | rfl | rfl | rfl | rfl | rfl | rfl | rfl | rfl | rfl | rfl | rfl | rfl | rfl | rfl | rfl | rfl | rfl | rfl | rfl | rfl
  · show AllC [a, a]
    exact allC_cons (ha) (allC_cons (ha) (allC_nil))
  · exact allC_nil
  · show AllC [b, a]
    exact allC_cons (hb) (allC_cons (ha) (allC_nil))
  · show AllC [a, b, a]
    exact allC_cons (ha) (allC_cons (hb) (allC_cons (ha) (allC_nil)))
  · show AllC [b, c, a]
    exact allC_cons (hb) (allC_cons (hc) (allC_cons (ha) (allC_nil)))
  · show AllC [b]
    exact allC_cons (hb) (allC_nil)
  · show AllC [b, a, b]
    exact allC_cons (hb) (allC_cons (ha) (allC_cons (hb) (allC_nil)))
  · show AllC [a, b, a, b]
    exact allC_cons (ha) (allC_cons (hb) (allC_cons (ha) (allC_cons (hb) (allC_nil))))
  · exact allC_nil
  · show AllC [c, d, a, b]
    exact allC_cons (hc) (allC_cons (hd) (allC_cons (ha) (allC_cons (hb) (allC_nil))))
  · show AllC [a, b, c, d, a, b]
    exact allC_cons (ha) (allC_cons (hb) (allC_cons (hc) (allC_cons (hd) (allC_cons (ha) (allC_cons (hb) (allC_nil))))))
  · show AllC (if a = 0 then [0] else [a, a])
    split
    · exact allC_cons inC_zero allC_nil
    · exact allC_cons ha (allC_cons ha allC_nil)
  · show AllC [pickX l a]
    exact allC_cons (inC_pick hl _) (allC_nil)
  · exact allC_nil
  · show AllC [(l.length : Int)]
    exact allC_cons (inLen hL) (allC_nil)
  · show AllC [wrap64 (a + b)]
    exact allC_cons (wrap64_in _) (allC_nil)
  · show AllC [wrap64 (a - b)]
    exact allC_cons (wrap64_in _) (allC_nil)
  · show AllC [wrap64 (a * b)]
    exact allC_cons (wrap64_in _) (allC_nil)
  · show AllC [cFq a b]
    exact allC_cons (inC_cFq ha _) (allC_nil)
  · show AllC [cFr a b]
    exact allC_cons (inC_cFr ha _) (allC_nil)
  · show AllC [cFr a b, cFq a b]
    exact allC_cons (inC_cFr ha _) (allC_cons (inC_cFq ha _) (allC_nil))
  · show AllC [fQ (a * b) c]
    exact allC_cons (inC_fQ _ _) (allC_nil)
  · show AllC [fR (a * b) c, fQ (a * b) c]
    exact allC_cons (inC_fR _ hc) (allC_cons (inC_fQ _ _) (allC_nil))
  · show AllC [wrap64 (a + 1)]
    exact allC_cons (wrap64_in _) (allC_nil)
  · show AllC [wrap64 (a - 1)]
    exact allC_cons (wrap64_in _) (allC_nil)
  · show AllC [cShl a 1]
    exact allC_cons (wrap64_in _) (allC_nil)
  · show AllC [a / 2]
    exact allC_cons (inC_half ha) (allC_nil)
  · show AllC [wrap64 (-a)]
    exact allC_cons (wrap64_in _) (allC_nil)
  · show AllC [max a (wrap64 (-a))]
    exact allC_cons (inC_max ha (wrap64_in _)) (allC_nil)
  · show AllC [min a b]
    exact allC_cons (inC_min ha hb) (allC_nil)
  · show AllC [max a b]
    exact allC_cons (inC_max ha hb) (allC_nil)
  · show AllC [bits .and .i64 a b]
    exact allC_cons (bits_and_in _ _) (allC_nil)
  · show AllC [bits .or .i64 a b]
    exact allC_cons (bits_or_in _ _) (allC_nil)
  · show AllC [bits .xor .i64 a b]
    exact allC_cons (bits_xor_in _ _) (allC_nil)
  · show AllC [-a - 1]
    exact allC_cons (inC_not ha) (allC_nil)
  · show AllC [cShl a b]
    exact allC_cons (wrap64_in _) (allC_nil)
  · show AllC [cShr a b]
    exact allC_cons (wrap64_in _) (allC_nil)
  · show AllC [flagZ (a == b)]
    exact allC_cons (inC_flag _) (allC_nil)
  · show AllC [flagZ (a != b)]
    exact allC_cons (inC_flag _) (allC_nil)
  · show AllC [flagZ (decide (a < b))]
    exact allC_cons (inC_flag _) (allC_nil)
  · show AllC [flagZ (decide (b < a))]
    exact allC_cons (inC_flag _) (allC_nil)
  · show AllC [flagZ (cUlt a b)]
    exact allC_cons (inC_flag _) (allC_nil)
  · show AllC [flagZ (a == 0)]
    exact allC_cons (inC_flag _) (allC_nil)
  · show AllC [flagZ (decide (a < 0))]
    exact allC_cons (inC_flag _) (allC_nil)
  · show AllC [flagZ (cIn a b c)]
    exact allC_cons (inC_flag _) (allC_nil)
  · show AllC [dLo (uProd a b), dHi (uProd a b)]
    exact allC_cons (dLo_in _) (allC_cons (dHi_in _) (allC_nil))
  · show AllC [dLo (a * b), dHi (a * b)]
    exact allC_cons (dLo_in _) (allC_cons (dHi_in _) (allC_nil))
  · show AllC [uR (dV a b) c, uQ (dV a b) c]
    exact allC_cons (inC_uR _ _) (allC_cons (inC_uQ _ _) (allC_nil))
  · show AllC [fR (dV a b) c, fQ (dV a b) c]
    exact allC_cons (inC_fR _ hc) (allC_cons (inC_fQ _ _) (allC_nil))
  · show AllC [sR (dV a b) c, sQ (dV a b) c]
    exact allC_cons (inC_sR _ hc) (allC_cons (inC_sQ _ _) (allC_nil))
  · show AllC [dLo a, dHi a]
    exact allC_cons (dLo_in _) (allC_cons (dHi_in _) (allC_nil))
  · show AllC [dLo (dV a b + dV c d), dHi (dV a b + dV c d)]
    exact allC_cons (dLo_in _) (allC_cons (dHi_in _) (allC_nil))
  · show AllC [dLo (-dV a b), dHi (-dV a b)]
    exact allC_cons (dLo_in _) (allC_cons (dHi_in _) (allC_nil))
  · show AllC [wrap64 (a * 8)]
    exact allC_cons (wrap64_in _) (allC_nil)
  · show AllC [wrap64 (a + 8)]
    exact allC_cons (wrap64_in _) (allC_nil)
  · show AllC [wrap64 (a + 1)]
    exact allC_cons (wrap64_in _) (allC_nil)
  · show AllC [cAl a]
    exact allC_cons (inC_cAl _) (allC_nil)

theorem pushE_zero {L : Nat} (h : pushE L 64 = 0) : pushB L 64 = false ∧ L ≤ 64 := by
  unfold pushE at h
  split at h
  · cases h
  · rename_i hb
    have hb' : pushB L 64 = false := by simpa using hb
    refine ⟨hb', ?_⟩
    have := of_decide_eq_false hb'
    omega
theorem unE_zero {t : Int} {L k : Nat} (h : unE t L k = 0) : t = 0 ∧ pushB (L + k) 64 = false ∧ L + k ≤ 64 := by
  unfold unE at h
  split at h
  · rename_i h0; exact ⟨h0, pushE_zero h⟩
  · rename_i h0; exact absurd h h0
theorem puE_lay {k : Nat} (hk : k ≠ 31) (l x : List Int) : puE k l x = unE (puT k l x) l.length (puY k l x).length := by unfold puE; rw [if_neg hk]
theorem puL_lay {k : Nat} (hk : k ≠ 31) (l x : List Int) : puL k l x = unL (puT k l x) l (puY k l x) := by unfold puL; rw [if_neg hk]
theorem puE_roll (l x : List Int) : puE 31 l x = pickE l.length (x.getD 0 0) := rfl
theorem puL_roll (l x : List Int) : puL 31 l x = rollL l (x.getD 0 0) := rfl
theorem puE_zero {k : Nat} (hk : k ≠ 31) {l x : List Int} (h : puE k l x = 0) : puT k l x = 0 ∧ l.length + (puY k l x).length ≤ 64 ∧ puL k l x = l ++ puY k l x := by
  rw [puE_lay hk] at h
  obtain ⟨h0, h1, h2⟩ := unE_zero h
  refine ⟨h0, h2, ?_⟩
  rw [puL_lay hk, h0, unL_ok, pushL_ok h1]
theorem rollL_length (l : List Int) (n : Int) : (rollL l n).length = l.length := by
  unfold rollL
  split
  · rfl
  · rename_i h
    obtain ⟨k, rfl, hk⟩ := pickB_no (n := n) (L := l.length) (by simpa using h)
    exact lastly_length l _ (by omega)
theorem allC_roll {l : List Int} (h : AllC l) (n : Int) : AllC (rollL l n) := by
  unfold rollL
  split
  · exact h
  · exact allC_append (allC_take h _) (allC_append (allC_drop h _) (allC_cons (allC_getD h _) allC_nil))
theorem puY_in {k : Nat} (h1 : 18 ≤ k) (h2 : k ≤ 74) {l x : List Int} (hl : AllC l) (hL : l.length ≤ 64) (hx : AllC x) : AllC (puY k l x) :=
  puD_in k h1 h2 l _ _ _ _ hl hL (allC_getD hx 0) (allC_getD hx 1) (allC_getD hx 2) (allC_getD hx 3)
theorem puL_in {k : Nat} (h1 : 18 ≤ k) (h2 : k ≤ 74) {l x : List Int} (hl : AllC l) (hL : l.length ≤ 64) (hx : AllC x) : AllC (puL k l x) := by
  by_cases hk : k = 31
  · subst hk; exact allC_roll hl _
  · rw [puL_lay hk]
    unfold unL pushL
    split
    · split
      · exact hl
      · exact allC_append hl (puY_in h1 h2 hl hL hx)
    · exact hl
/-- What stands where Do throws nothing. -/
theorem doE_zero {o : Int} {d : List Int} (h : doE o d = 0) : ∃ k : Nat, o = (k : Int) ∧ 18 ≤ k ∧ k ≤ 74 ∧ puN (k : Int) ≤ d.length ∧ d.length ≤ 64 ∧
    puE k (d.take (d.length - puN (k : Int))) (d.drop (d.length - puN (k : Int))) = 0 ∧ doL o d = puL k (d.take (d.length - puN (k : Int))) (d.drop (d.length - puN (k : Int))) := by
  have h' := h
  unfold doE at h
  split at h
  · cases h
  · rename_i hg
    obtain ⟨k, rfl, h1, h2⟩ := puG_some (o := o) (by simpa using hg)
    split at h
    · cases h
    · split at h
      · cases h
      · refine ⟨k, rfl, h1, h2, by omega, by omega, h, ?_⟩
        unfold doL
        rw [if_pos h']
        rfl
theorem doL_in (o : Int) {d : List Int} (h : AllC d) : AllC (doL o d) := by
  by_cases h0 : doE o d = 0
  · obtain ⟨k, rfl, h1, h2, h3, h4, h5, h6⟩ := doE_zero h0
    rw [h6]
    exact puL_in h1 h2 (allC_take h _) (by simp; omega) (allC_drop h _)
  · unfold doL
    rw [if_neg h0]
    exact h
theorem doL_length {o : Int} {d : List Int} (h : doE o d = 0) : (doL o d).length ≤ 64 := by
  obtain ⟨k, rfl, h1, h2, h3, h4, h5, h6⟩ := doE_zero h
  rw [h6]
  by_cases hk : k = 31
  · subst hk
    rw [puL_roll, rollL_length]
    simp; omega
  · obtain ⟨_, h7, h8⟩ := puE_zero hk h5
    rw [h8, List.length_append]
    exact h7
theorem alE_cons_ok {o : Int} {r d : List Int} (h : doE o d = 0) : alE (o :: r) d = alE r (doL o d) := by show (if doE o d = 0 then _ else _) = _; rw [if_pos h]
theorem alL_cons_ok {o : Int} {r d : List Int} (h : doE o d = 0) : alL (o :: r) d = alL r (doL o d) := by show (if doE o d = 0 then _ else _) = _; rw [if_pos h]
theorem alE_cons_no {o : Int} {r d : List Int} (h : doE o d ≠ 0) : alE (o :: r) d = doE o d := by show (if doE o d = 0 then _ else _) = _; rw [if_neg h]
theorem alL_cons_no {o : Int} {r d : List Int} (h : doE o d ≠ 0) : alL (o :: r) d = d := by show (if doE o d = 0 then _ else _) = _; rw [if_neg h]
theorem alL_in : ∀ (l : List Int) {d : List Int}, AllC d → AllC (alL l d)
  | [], _, h => h
  | o :: r, d, h => by
    by_cases h0 : doE o d = 0
    · rw [alL_cons_ok h0]; exact alL_in r (doL_in o h)
    · rw [alL_cons_no h0]; exact h
/-- Operations in two parts. -/
theorem al_append : ∀ (l m d : List Int), (alE l d = 0 → alE (l ++ m) d = alE m (alL l d) ∧ alL (l ++ m) d = alL m (alL l d)) ∧ (alE l d ≠ 0 → alE (l ++ m) d = alE l d ∧ alL (l ++ m) d = alL l d)
  | [], m, d => ⟨fun _ => ⟨rfl, rfl⟩, fun h => absurd rfl h⟩
  | o :: r, m, d => by
    by_cases h0 : doE o d = 0
    · rw [List.cons_append, alE_cons_ok h0, alE_cons_ok h0, alL_cons_ok h0, alL_cons_ok h0]
      exact al_append r m (doL o d)
    · rw [List.cons_append, alE_cons_no h0, alE_cons_no h0, alL_cons_no h0, alL_cons_no h0]
      exact ⟨fun h => absurd h h0, fun _ => ⟨rfl, rfl⟩⟩
theorem alL_length : ∀ (l d : List Int), d.length ≤ 10000 → (alL l d).length ≤ 10000
  | [], _, h => h
  | o :: r, d, h => by
    by_cases h0 : doE o d = 0
    · rw [alL_cons_ok h0]; exact alL_length r (doL o d) (Nat.le_trans (doL_length h0) (by omega))
    · rw [alL_cons_no h0]; exact h
end Go.Proofs.YtnlkggfgloblcaaGreat
