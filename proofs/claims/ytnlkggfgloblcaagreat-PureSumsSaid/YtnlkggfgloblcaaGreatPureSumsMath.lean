/-
  Plain facts for PureSums: what is added is taken away, what is divided is made again.
-/
import Derived.Test.YtnlkggfgloblcaaGreatPureLaws
import Derived.Test.YtnlkggfgloblcaaGreatDblDivs
namespace Go.Proofs.YtnlkggfgloblcaaGreat
open Go.RowKit

theorem sum_back {a b : Int} (ha : InC a) : wrap64 (wrap64 (a + b) - b) = a := by unfold InC at ha; unfold wrap64; omega
theorem sums_one {a b : Int} (ha : InC a) : AlOk [24, 33, 20, 34] [a, b] [a] := by
  refine al_cons 24 [] [a, b] [b, a, b] (by decide) (by decide) (by decide) rfl rfl (by simp) rfl rfl (by simp) rfl ?_
  refine al_cons 33 [b] [a, b] [wrap64 (a + b)] (by decide) (by decide) (by decide) rfl rfl (by simp) rfl rfl (by simp) rfl ?_
  refine al_cons 20 [] [b, wrap64 (a + b)] [wrap64 (a + b), b] (by decide) (by decide) (by decide) rfl rfl (by simp) rfl rfl (by simp) rfl ?_
  refine al_cons 34 [] [wrap64 (a + b), b] [a] (by decide) (by decide) (by decide) rfl rfl (by simp) rfl (congrArg (fun x => [x]) (sum_back ha)) (by simp) rfl ?_
  exact al_nil _
/-- An operation of another group in the middle. -/
theorem sums_two (a b : Int) : alE [25, 12] [a, b] = -21 ∧ alL [25, 12] [a, b] = [a, b, a, b] := by
  obtain ⟨e1, e2⟩ := do_step (k := 25) (l := []) (x := [a, b]) (y := [a, b, a, b]) (by decide) (by decide) (by decide) rfl (by simp) rfl rfl (by simp)
  have e3 : doE 12 [a, b, a, b] = -21 := by
    unfold doE
    rw [if_pos (by rw [puG_is]; decide)]
  have e1' : doE 25 [a, b] = 0 := e1
  have e2' : doL 25 [a, b] = [a, b, a, b] := e2
  rw [alE_cons_ok e1', alL_cons_ok e1', e2', alE_cons_no (by rw [e3]; decide), alL_cons_no (by rw [e3]; decide), e3]
  exact ⟨rfl, rfl⟩
theorem bad_is (a b : Int) : (cBad a b ≠ 0) ↔ (b = 0 ∨ (a = -9223372036854775808 ∧ b = -1)) := by
  unfold cBad
  constructor
  · intro h
    by_cases h0 : b = 0
    · exact Or.inl h0
    · rw [if_neg h0] at h
      by_cases h1 : a = -9223372036854775808 ∧ b = -1
      · exact Or.inr h1
      · rw [if_neg h1] at h; exact absurd rfl h
  · intro h
    by_cases h0 : b = 0
    · rw [if_pos h0]; decide
    · rw [if_neg h0, if_pos (by rcases h with h | h; exact absurd h h0; exact h)]; decide
theorem sums_bad {a b : Int} (h : cBad a b ≠ 0) : alE [38] [a, b] = cBad a b ∧ alL [38] [a, b] = [a, b] := by
  have e : doE 38 [a, b] = cBad a b := by
    have hg : puG 38 = true := by rw [puG_is]; decide
    have hn : puN 38 = 2 := puN_at 38 (by decide) (by decide)
    unfold doE
    rw [if_neg (by rw [hg]; decide), hn, if_neg (by simp), if_neg (by simp)]
    show unE (cBad a b) _ _ = _
    rw [unE_no h]
  rw [alE_cons_no (by rw [e]; exact h), alL_cons_no (by rw [e]; exact h)]
  exact ⟨e, rfl⟩
/-- The quotient, rounded down, and what is left. -/
theorem floor_sum {a b : Int} (ha : InC a) (hb : InC b) (h : cBad a b = 0) : wrap64 (cFr a b + wrap64 (b * cFq a b)) = a := by
  rw [Int.add_comm, Int.mul_comm]
  exact F_sum ha hb h
theorem sums_three {a b : Int} (ha : InC a) (hb : InC b) (h : cBad a b = 0) : AlOk [24, 38, 22, 35, 33] [a, b] [a] := by
  refine al_cons 24 [] [a, b] [b, a, b] (by decide) (by decide) (by decide) rfl rfl (by simp) rfl rfl (by simp) rfl ?_
  refine al_cons 38 [b] [a, b] [cFr a b, cFq a b] (by decide) (by decide) (by decide) rfl rfl (by simp) h rfl (by simp) rfl ?_
  refine al_cons 22 [] [b, cFr a b, cFq a b] [cFr a b, cFq a b, b] (by decide) (by decide) (by decide) rfl rfl (by simp) rfl rfl (by simp) rfl ?_
  refine al_cons 35 [cFr a b] [cFq a b, b] [wrap64 (cFq a b * b)] (by decide) (by decide) (by decide) rfl rfl (by simp) rfl rfl (by simp) rfl ?_
  refine al_cons 33 [] [cFr a b, wrap64 (cFq a b * b)] [a] (by decide) (by decide) (by decide) rfl rfl (by simp) rfl (congrArg (fun x => [x]) (by rw [Int.mul_comm]; exact floor_sum ha hb h)) (by simp) rfl ?_
  exact al_nil _
theorem dV_self {x : Int} (h : InD x) : dV (dLo x) (dHi x) = x := by
  have h1 := dLo_mod x
  have h2 := dHi_is h
  unfold dV
  rw [h1, h2]
  omega
theorem symm_prod {a b : Int} (ha : InC a) (hb : InC b) (h : b ≠ 0) : sE (dV (dLo (a * b)) (dHi (a * b))) b = 0 ∧ sR (dV (dLo (a * b)) (dHi (a * b))) b = 0 ∧ sQ (dV (dLo (a * b)) (dHi (a * b))) b = a := by
  rw [dV_self (inD_mul ha hb)]
  have e1 : (a * b).tdiv b = a := Int.mul_tdiv_cancel a h
  have e2 : (a * b).tmod b = 0 := Int.mul_tmod_left a b
  have e : sE (a * b) b = 0 := by
    unfold sE
    rw [if_neg h, e1, if_pos (by unfold InC at ha; exact ha)]
  unfold sR sQ
  rw [if_pos e, if_pos e, e1, e2]
  exact ⟨e, rfl, rfl⟩
theorem sums_four {a b : Int} (ha : InC a) (hb : InC b) (h : b ≠ 0) : AlOk [24, 64, 22, 67] [a, b] [0, a] := by
  obtain ⟨h1, h2, h3⟩ := symm_prod ha hb h
  refine al_cons 24 [] [a, b] [b, a, b] (by decide) (by decide) (by decide) rfl rfl (by simp) rfl rfl (by simp) rfl ?_
  refine al_cons 64 [b] [a, b] [dLo (a * b), dHi (a * b)] (by decide) (by decide) (by decide) rfl rfl (by simp) rfl rfl (by simp) rfl ?_
  refine al_cons 22 [] [b, dLo (a * b), dHi (a * b)] [dLo (a * b), dHi (a * b), b] (by decide) (by decide) (by decide) rfl rfl (by simp) rfl rfl (by simp) rfl ?_
  refine al_cons 67 [] [dLo (a * b), dHi (a * b), b] [0, a] (by decide) (by decide) (by decide) rfl rfl (by simp) h1 (by show [sR (dV (dLo (a * b)) (dHi (a * b))) b, sQ (dV (dLo (a * b)) (dHi (a * b))) b] = _; rw [h2, h3]) (by simp) rfl ?_
  exact al_nil _
end Go.Proofs.YtnlkggfgloblcaaGreat
