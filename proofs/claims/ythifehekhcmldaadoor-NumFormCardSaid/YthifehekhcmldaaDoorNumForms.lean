/-
  Plain facts on the texts that are parsed: a sign, digits, a point; what is told is parsed to the same; what is no digit is no number. Nothing of a translated program is imported.
-/
import Derived.Test.YthifehekhcmldaaDoorNumMath
namespace Go.Proofs.YthifehekhcmldaaDoor
open Go.RowKit

theorem pre_cons (c : UInt8) (t : List UInt8) : Lib.hasPrefix (c :: t) [45] = (c == 45) ∧ Lib.trimPrefix (c :: t) [45] = if c == 45 then t else c :: t := by
  have h : Lib.hasPrefix (c :: t) [45] = (c == 45) := by
    unfold Lib.hasPrefix
    rw [List.isPrefixOf_cons_cons, List.isPrefixOf_nil_left, Bool.and_true, Bool.eq_iff_iff, beq_iff_eq, beq_iff_eq]
    exact eq_comm
  refine ⟨h, ?_⟩
  unfold Lib.trimPrefix
  rw [h]; rfl
theorem pre_nil : Lib.hasPrefix [] [45] = false ∧ Lib.trimPrefix [] [45] = [] := ⟨rfl, rfl⟩
theorem suf_snoc (t : List UInt8) (z : UInt8) : Lib.hasSuffix (t ++ [z]) [46] = (z == 46) ∧ Lib.trimSuffix (t ++ [z]) [46] = if z == 46 then t else t ++ [z] := by
  have h : Lib.hasSuffix (t ++ [z]) [46] = (z == 46) := by
    rw [← Lib.hasSuffix_of_drop]
    simp
  refine ⟨h, ?_⟩
  unfold Lib.trimSuffix
  rw [h]
  simp
theorem suf_nil : Lib.hasSuffix [] [46] = false ∧ Lib.trimSuffix [] [46] = [] := ⟨rfl, rfl⟩
/-- The first of some digits, and the last. -/
theorem dgs_head {b : Int} {D : List UInt8} (hD : dB b D = true) (hne : D ≠ []) : ∃ c t, D = c :: t ∧ c ≠ 45 ∧ c ≠ 39 ∧ c ≠ 35 ∧ c ≠ 36 ∧ c ≠ 37 := by
  cases D with
  | nil => exact absurd rfl hne
  | cons c t =>
    have h : dgB (c.toNat : Int) b = true := by simp only [dB, List.all_cons, Bool.and_eq_true] at hD; exact hD.1
    have := dgB_byte h
    refine ⟨c, t, rfl, ?_, ?_, ?_, ?_, ?_⟩ <;> (rintro rfl; revert this; decide)
theorem dgs_last {b : Int} {D : List UInt8} (hD : dB b D = true) (hne : D ≠ []) : ∃ t z, D = t ++ [z] ∧ (z == 46) = false := by
  refine ⟨D.dropLast, D.getLast hne, (List.dropLast_concat_getLast hne).symm, ?_⟩
  have hm : D.getLast hne ∈ D := List.getLast_mem hne
  have h : dgB ((D.getLast hne).toNat : Int) b = true := List.all_eq_true.1 hD _ hm
  have := dgB_byte h
  rw [beq_eq_false_iff_ne]
  rintro h2
  rw [h2] at this
  revert this; decide
/-- A sign, digits, a point. -/
theorem shape {b : Int} {l D : List UInt8} {neg dot : Bool} (hl : mkL l = (if neg then [45] else []) ++ (D ++ (if dot then [46] else []))) (hD : dB b D = true) (hne : D ≠ []) : pM l = neg ∧ pD l = dot ∧ p3 l = D := by
  obtain ⟨c, t, hc, h45, _⟩ := dgs_head hD hne
  obtain ⟨i, z, hz, h46⟩ := dgs_last hD hne
  have h2 : pM l = neg ∧ p2 l = D ++ (if dot then [46] else []) := by
    unfold pM p2
    rw [hl]
    cases neg with
    | true => exact ⟨(pre_cons _ _).1, (pre_cons _ _).2⟩
    | false =>
      have e : (if false = true then [45] else []) ++ (D ++ (if dot then [46] else [])) = c :: (t ++ (if dot then [46] else [])) := by rw [hc]; rfl
      rw [e, (pre_cons _ _).1, (pre_cons _ _).2, beq_eq_false_iff_ne.2 h45]
      exact ⟨rfl, by rw [hc]; rfl⟩
  refine ⟨h2.1, ?_⟩
  unfold pD p3
  rw [h2.2]
  cases dot with
  | true =>
    rw [if_pos rfl, (suf_snoc _ _).1, (suf_snoc _ _).2]
    exact ⟨rfl, rfl⟩
  | false =>
    rw [if_neg (by decide), List.append_nil, hz, (suf_snoc _ _).1, (suf_snoc _ _).2, h46]
    exact ⟨rfl, rfl⟩
theorem q_head {c : UInt8} {t : List UInt8} (h : c ≠ 39) : qB (c :: t) = false := by
  unfold qB
  rw [show (c :: t).getD 0 0 = c from rfl, beq_eq_false_iff_ne.2 h]
  simp
theorem mk_head {c : UInt8} {t : List UInt8} (h1 : c ≠ 35) (h2 : c ≠ 36) (h3 : c ≠ 37) : mkA (c :: t) = false := by
  unfold mkA; simp [h1, h2, h3]
theorem mkA_none {b : Int} {l : List UInt8} (h : mkA l = false) : mkB b l = b ∧ mkL l = l := by
  unfold mkL mkB
  rw [h]
  simp only [mkA, Bool.or_eq_false_iff, beq_eq_false_iff_ne, ne_eq] at h
  rw [if_neg h.1, if_neg h.2.1, if_neg h.2.2]
  exact ⟨rfl, rfl⟩
/-- What a text of a sign, digits and a point is parsed to. -/
theorem parse_form {b b1 : Int} {l D : List UInt8} {neg dot : Bool} (hq : qB l = false) (hb : mkB b l = b1) (hl : mkL l = (if neg then [45] else []) ++ (D ++ (if dot then [46] else []))) (hD : dB b1 D = true) (hne : D ≠ []) :
    pB b l = true ∧ pL b l = if dot then [dLo (if neg then -nV b1 D else nV b1 D), dHi (if neg then -nV b1 D else nV b1 D)] else [dLo (if neg then -nV b1 D else nV b1 D)] := by
  obtain ⟨h1, h2, h3⟩ := shape hl hD hne
  have hn : nB b1 D = true := by
    unfold nB; rw [hD]
    cases D with
    | nil => exact absurd rfl hne
    | cons _ _ => rfl
  constructor
  · unfold pB; rw [hq, hb, h3, hn]; rfl
  · unfold pL pX; rw [hq, hb, h3, hn, h1, h2]; rfl
/-- Without a mark. -/
theorem parse_plainForm {b : Int} {D : List UInt8} {neg dot : Bool} (hD : dB b D = true) (hne : D ≠ []) :
    pB b ((if neg then [45] else []) ++ (D ++ (if dot then [46] else []))) = true ∧ pL b ((if neg then [45] else []) ++ (D ++ (if dot then [46] else []))) = if dot then [dLo (if neg then -nV b D else nV b D), dHi (if neg then -nV b D else nV b D)] else [dLo (if neg then -nV b D else nV b D)] := by
  obtain ⟨c, t, hc, h45, h39, h35, h36, h37⟩ := dgs_head hD hne
  have hA : mkA ((if neg then [45] else []) ++ (D ++ (if dot then [46] else []))) = false := by
    cases neg with
    | true => exact mk_head (by decide) (by decide) (by decide)
    | false => rw [hc]; exact mk_head h35 h36 h37
  have hq : qB ((if neg then [45] else []) ++ (D ++ (if dot then [46] else []))) = false := by
    cases neg with
    | true => exact q_head (by decide)
    | false => rw [hc]; exact q_head h39
  exact parse_form hq (mkA_none (b := b) hA).1 (mkA_none (b := b) hA).2 hD hne
/-- Behind a mark. -/
theorem parse_markForm {b b1 : Int} {m : UInt8} {D : List UInt8} (hm : m = 35 ∧ b1 = 10 ∨ m = 36 ∧ b1 = 16 ∨ m = 37 ∧ b1 = 2) (hD : dB b1 D = true) (hne : D ≠ []) :
    pB b (m :: D) = true ∧ pL b (m :: D) = [dLo (nV b1 D)] := by
  have h := parse_form (b := b) (b1 := b1) (l := m :: D) (D := D) (neg := false) (dot := false) (by rcases hm with ⟨rfl, _⟩ | ⟨rfl, _⟩ | ⟨rfl, _⟩ <;> exact q_head (by decide))
    (by rcases hm with ⟨rfl, rfl⟩ | ⟨rfl, rfl⟩ | ⟨rfl, rfl⟩ <;> rfl) (by rcases hm with ⟨rfl, _⟩ | ⟨rfl, _⟩ | ⟨rfl, _⟩ <;> simp [mkL, mkA]) hD hne
  exact h

/-! ### what is told is parsed to the same -/
theorem uTx_form {b n : Int} (hb : baB b = true) : dB b (uTx b n) = true ∧ uTx b n ≠ [] ∧ nV b (uTx b n) = n % 18446744073709551616 := by
  have h2 := baB_iff.1 hb
  obtain ⟨B, rfl⟩ : ∃ B : Nat, b = B := ⟨b.toNat, by omega⟩
  unfold uTx
  rw [if_pos hb, Int.toNat_natCast]
  exact ⟨uT_digits hb _, uT_ne, by rw [uT_value hb]; omega⟩
theorem back_u {b n : Int} (hb : baB b = true) (hn : InC n) : pB b (uTx b n) = true ∧ pL b (uTx b n) = [n] := by
  obtain ⟨h1, h2, h3⟩ := uTx_form (n := n) hb
  have h := parse_plainForm (neg := false) (dot := false) h1 h2
  simp only [Bool.false_eq_true, if_false, List.nil_append, List.append_nil] at h
  rw [h3, dLo_un n hn] at h
  exact h
theorem dTx_form {b x : Int} (hb : baB b = true) : ∃ D, dTx b x = (if decide (x < 0) then [45] else []) ++ D ∧ dB b D = true ∧ D ≠ [] ∧ (if decide (x < 0) then -nV b D else nV b D) = x := by
  have h2 := baB_iff.1 hb
  obtain ⟨B, rfl⟩ : ∃ B : Nat, b = B := ⟨b.toNat, by omega⟩
  unfold dTx
  rw [if_pos hb, Int.toNat_natCast]
  by_cases h : x < 0
  · refine ⟨uT B (-x).toNat, by simp [h], uT_digits hb _, uT_ne, ?_⟩
    rw [uT_value hb]; simp [h]; omega
  · refine ⟨uT B x.toNat, by simp [h], uT_digits hb _, uT_ne, ?_⟩
    rw [uT_value hb]; simp [h]; omega
theorem back_d {b x : Int} (hb : baB b = true) : pB b (dTx b x ++ [46]) = true ∧ pL b (dTx b x ++ [46]) = [dLo x, dHi x] := by
  obtain ⟨D, e, h1, h2, h3⟩ := dTx_form (x := x) hb
  have h := parse_plainForm (neg := decide (x < 0)) (dot := true) h1 h2
  rw [h3, ← List.append_assoc, ← e] at h
  exact h
theorem back_n {b n : Int} (hb : baB b = true) (hn : InC n) : pB b (dTx b n) = true ∧ pL b (dTx b n) = [n] := by
  obtain ⟨D, e, h1, h2, h3⟩ := dTx_form (x := n) hb
  have h := parse_plainForm (neg := decide (n < 0)) (dot := false) h1 h2
  rw [h3, ← List.append_assoc, ← e, dLo_cell hn] at h
  simp only [Bool.false_eq_true, if_false, List.append_nil] at h
  exact h
theorem uTx_len (b n : Int) : (uTx b n).length ≤ 64 := by
  unfold uTx
  cases hb : baB b with
  | false => simp
  | true =>
    have := baB_iff.1 hb
    rw [if_pos rfl]
    exact uT_len (by omega) 63 _ (by omega)
theorem dTx_len (b x : Int) (hx : InD x) : (dTx b x).length ≤ 129 := by
  unfold InD at hx
  unfold dTx
  cases hb : baB b with
  | false => simp
  | true =>
    have := baB_iff.1 hb
    rw [if_pos rfl]
    split
    · rw [List.length_cons]
      have := uT_len (b := b.toNat) (by omega) 127 (-x).toNat (by omega)
      omega
    · have := uT_len (b := b.toNat) (by omega) 127 x.toNat (by omega)
      omega
theorem one_none {b : Int} (hb : baB b = false) : pB b [49] = false := by
  unfold pB
  rw [show qB [49] = false from rfl, show mkB b [49] = b from rfl, show p3 [49] = [49] from by decide +kernel]
  simp only [nB, dB, dgB, hb]; rfl
end Go.Proofs.YthifehekhcmldaaDoor
