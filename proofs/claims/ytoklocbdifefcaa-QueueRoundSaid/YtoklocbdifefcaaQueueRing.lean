/-
  A queue of one priority, whose first one is put back each time: who stands where. Nothing of a translated program is imported.
-/
import Derived.Test.YtoklocbdifefcaaQueueMath
namespace Go.Proofs.Ytoklocbdifefcaa

/-- Who stands there behind j rounds, m of them: of k numbers, in turn. -/
def rL (k : Nat) (p : Int) (j m : Nat) : List It := (List.range m).map fun i => ⟨((j + i) % k : Nat), p, ((j + i : Nat) : Int)⟩
theorem rL_length (k : Nat) (p : Int) (j m : Nat) : (rL k p j m).length = m := by simp [rL]
theorem rL_get (k : Nat) (p : Int) (j m i : Nat) (h : i < m) : (rL k p j m).getD i i0 = ⟨((j + i) % k : Nat), p, ((j + i : Nat) : Int)⟩ := by
  rw [getD_lt (by rw [rL_length]; exact h)]
  simp [rL]
theorem mod_ne {k a b : Nat} (h : a < b) (hk : b < a + k) : a % k ≠ b % k := by
  intro e
  have := Nat.sub_mod_eq_zero_of_mod_eq e.symm
  rw [Nat.mod_eq_of_lt (by omega)] at this
  omega
theorem rL_sane {k : Nat} {p : Int} (hk : 0 < k) (hk8 : k ≤ 8) (hp : 0 ≤ p ∧ p ≤ 4) (j m : Nat) (hj : j ≤ 1000) (hm : m ≤ k) : Sq ((j + m : Nat) : Int) (rL k p j m) := by
  refine ⟨by omega, by rw [rL_length]; omega, ?_, ?_⟩
  · intro i hi
    obtain ⟨q, hq, rfl⟩ := List.mem_iff_getElem.1 hi
    rw [rL_length] at hq
    have hg := rL_get k p j m q hq
    rw [getD_lt (by rw [rL_length]; exact hq)] at hg
    rw [hg, it_iff]
    have := Nat.mod_lt (j + q) hk
    simp only
    omega
  · rw [List.pairwise_iff_getElem]
    intro a b ha hb hab
    rw [rL_length] at ha hb
    have h1 := rL_get k p j m a ha
    have h2 := rL_get k p j m b hb
    rw [getD_lt (by rw [rL_length]; exact ha)] at h1
    rw [getD_lt (by rw [rL_length]; exact hb)] at h2
    rw [h1, h2]
    refine ⟨?_, ?_, ?_⟩
    · simp only
      intro e
      exact mod_ne (a := j + a) (b := j + b) (k := k) (by omega) (by omega) (by exact_mod_cast e)
    · simp only; omega
    · rw [ah_iff]
      exact .inr ⟨rfl, by show ((j + a : Nat) : Int) < ((j + b : Nat) : Int); omega⟩
theorem rL_snoc (k : Nat) (p : Int) (j m : Nat) : rL k p j (m + 1) = rL k p j m ++ [⟨((j + m) % k : Nat), p, ((j + m : Nat) : Int)⟩] := by
  unfold rL
  rw [List.range_succ, List.map_append]
  rfl
theorem rL_cons (k : Nat) (p : Int) (j m : Nat) : rL k p j (m + 1) = ⟨(j % k : Nat), p, (j : Int)⟩ :: rL k p (j + 1) m := by
  unfold rL
  rw [List.range_succ_eq_map, List.map_cons, List.map_map]
  congr 1
  refine List.map_congr_left fun i _ => ?_
  simp only [Function.comp]
  rw [show j + i.succ = j + 1 + i by omega]
theorem rL_put {k : Nat} {p : Int} (hk : 0 < k) (hk8 : k ≤ 8) (hp : 0 ≤ p ∧ p ≤ 4) (j m : Nat) (hj : j ≤ 1000) (hm : m < k) :
    puB ((j + m : Nat) : Int) (rL k p j m) ((j + m) % k : Nat) p = true ∧ puN ((j + m : Nat) : Int) (rL k p j m) ((j + m) % k : Nat) p = ((j + (m + 1) : Nat) : Int) ∧ puL ((j + m : Nat) : Int) (rL k p j m) ((j + m) % k : Nat) p = rL k p j (m + 1) := by
  have hb : puB ((j + m : Nat) : Int) (rL k p j m) ((j + m) % k : Nat) p = true := by
    unfold puB
    have := Nat.mod_lt (j + m) hk
    rw [decide_eq_true_eq]
    refine ⟨by omega, by omega, hp.1, hp.2, by omega, fun o ho => ?_⟩
    obtain ⟨q, hq, rfl⟩ := List.mem_iff_getElem.1 ho
    rw [rL_length] at hq
    have h1 := rL_get k p j m q hq
    rw [getD_lt (by rw [rL_length]; exact hq)] at h1
    rw [h1]
    simp only
    intro e
    exact mod_ne (a := j + q) (b := j + m) (k := k) (by omega) (by omega) (by exact_mod_cast e)
  refine ⟨hb, ?_, ?_⟩
  · unfold puN
    rw [hb, if_pos rfl]
    omega
  · unfold puL inL
    rw [hb, if_pos rfl]
    have e : bhA ⟨((j + m) % k : Nat), p, ((j + m : Nat) : Int)⟩ (rL k p j m) = m := by
      refine bh_eq _ _ m (by rw [rL_length]; exact Nat.le_refl _) (fun i hi => ?_) (fun h => by rw [rL_length] at h; omega)
      rw [rL_get k p j m i hi, ah_iff]
      exact .inr ⟨rfl, by show ((j + i : Nat) : Int) < ((j + m : Nat) : Int); omega⟩
    rw [e, List.take_of_length_le (by rw [rL_length]; exact Nat.le_refl _), List.drop_of_length_le (by rw [rL_length]; exact Nat.le_refl _), rL_snoc]
theorem rL_take (k : Nat) (p : Int) (j m : Nat) : nthL (rL k p j (m + 1)) 0 = rL k p (j + 1) m ∧ nthD (rL k p j (m + 1)) 0 = (j % k : Nat) ∧ nthB (rL k p j (m + 1)) = true := by
  rw [rL_cons]
  have e : atN ((⟨(j % k : Nat), p, (j : Int)⟩ : It) :: rL k p (j + 1) m) 0 = 0 := by unfold atN; simp
  refine ⟨?_, ?_, rfl⟩
  · unfold nthL
    rw [if_neg (by simp), e]
    rfl
  · unfold nthD
    rw [if_neg (by simp), e]
    rfl
/-- One more of k, at the beginning. -/
theorem rL_first {k : Nat} {p : Int} (hk : 0 < k) (hk8 : k ≤ 8) (hp : 0 ≤ p ∧ p ≤ 4) (j : Nat) (hj : j < k) :
    Sq (j : Int) (rL k p 0 j) ∧ puN (j : Int) (rL k p 0 j) (j : Int) p = ((j + 1 : Nat) : Int) ∧ puL (j : Int) (rL k p 0 j) (j : Int) p = rL k p 0 (j + 1) ∧ puB (j : Int) (rL k p 0 j) (j : Int) p = true := by
  have h1 := rL_sane hk hk8 hp 0 j (by omega) (by omega)
  have h2 := rL_put hk hk8 hp 0 j (by omega) hj
  rw [Nat.zero_add, Nat.zero_add, Nat.mod_eq_of_lt hj] at h2
  rw [Nat.zero_add] at h1
  exact ⟨h1, h2.2.1, h2.2.2, h2.1⟩
/-- The first one taken, and put back. -/
theorem rL_turn {k : Nat} {p : Int} (hk : 0 < k) (hk8 : k ≤ 8) (hp : 0 ≤ p ∧ p ≤ 4) (j : Nat) (hj : j ≤ 900) :
    Sq ((j + k : Nat) : Int) (rL k p j k) ∧ nthL (rL k p j k) 0 = rL k p (j + 1) (k - 1) ∧ nthD (rL k p j k) 0 = ((j % k : Nat) : Int) ∧ nthB (rL k p j k) = true ∧
    Sq ((j + k : Nat) : Int) (rL k p (j + 1) (k - 1)) ∧ puN ((j + k : Nat) : Int) (rL k p (j + 1) (k - 1)) ((j % k : Nat) : Int) p = ((j + 1 + k : Nat) : Int) ∧ puL ((j + k : Nat) : Int) (rL k p (j + 1) (k - 1)) ((j % k : Nat) : Int) p = rL k p (j + 1) k ∧ puB ((j + k : Nat) : Int) (rL k p (j + 1) (k - 1)) ((j % k : Nat) : Int) p = true := by
  obtain ⟨m, rfl⟩ : ∃ m, k = m + 1 := ⟨k - 1, by omega⟩
  have h1 := rL_sane hk hk8 hp j (m + 1) (by omega) (by omega)
  have h2 := rL_take (m + 1) p j m
  have h3 := rL_sane hk hk8 hp (j + 1) m (by omega) (by omega)
  have h4 := rL_put hk hk8 hp (j + 1) m (by omega) (by omega)
  have e1 : j + 1 + m = j + (m + 1) := by omega
  have e2 : (j + (m + 1)) % (m + 1) = j % (m + 1) := Nat.add_mod_right j (m + 1)
  rw [e1] at h3
  rw [e1, e2] at h4
  exact ⟨h1, h2.1, h2.2.1, h2.2.2, h3, h4.2.1, h4.2.2, h4.1⟩
end Go.Proofs.Ytoklocbdifefcaa
