/-
  The table of kinds of package hist: how it lies, what a look into it gives, and the small calls on a row.
-/
import Derived.Test.YtpkjepbeeebdoaaDoorHistHeld
namespace Go.Proofs.YtpkjepbeeebdoaaDoor
open Go.RowKit

/-- A row: what events of a kind are, of which operation; of returns the kind of their call, when it could be done, whether the value is its result. -/
structure Krow where
  s : Int
  o : Int
  f : Int
  d : Int
  r : Bool
deriving DecidableEq
def kz : Krow := ⟨0, 0, 0, 0, false⟩
def kT : List Krow := [kz, ⟨1, 0, 0, 0, false⟩, ⟨2, 0, 1, 1, false⟩, ⟨1, 1, 0, 0, false⟩, ⟨2, 1, 3, 2, true⟩, ⟨2, 1, 3, 0, false⟩, ⟨1, 2, 0, 0, false⟩, ⟨2, 2, 6, 1, false⟩, ⟨1, 3, 0, 0, false⟩, ⟨2, 3, 8, 2, true⟩, ⟨2, 3, 8, 0, false⟩,
  ⟨1, 4, 0, 0, false⟩, ⟨2, 4, 11, 2, true⟩, ⟨1, 5, 0, 0, false⟩, ⟨2, 5, 13, 2, false⟩, ⟨1, 6, 0, 0, false⟩, ⟨2, 6, 15, 2, false⟩, ⟨1, 7, 0, 0, false⟩, ⟨2, 7, 17, 2, false⟩]
/-- The row of a kind. -/
def kR (k : Int) : Krow := if 0 ≤ k ∧ k < 19 then kT.getD k.toNat kz else kz
def kV (r : Krow) : Value := .agg #[.int .i64 r.s, .int .i64 r.o, .int .i64 r.f, .int .i64 r.d, .bool r.r]
def rwK : Kd Krow := ⟨fun r => [.int .i64 r.s, .int .i64 r.o, .int .i64 r.f, .int .i64 r.d, .bool r.r], 5, kz, fun _ => rfl, fun e x hx => by
  simp only [List.mem_cons, List.not_mem_nil, or_false] at hx
  rcases hx with rfl | rfl | rfl | rfl | rfl <;> rfl⟩
/-- The table lies where the program lays it. -/
def TabH (w : World) : Prop := 0 < w.heap.size ∧ ∀ i, i < 19 → w.cell? ⟨0, i * 5, none⟩ = some (.int .i64 (kT.getD i kz).s) ∧ w.cell? ⟨0, i * 5 + 1, none⟩ = some (.int .i64 (kT.getD i kz).o) ∧ w.cell? ⟨0, i * 5 + 2, none⟩ = some (.int .i64 (kT.getD i kz).f) ∧
  w.cell? ⟨0, i * 5 + 3, none⟩ = some (.int .i64 (kT.getD i kz).d) ∧ w.cell? ⟨0, i * 5 + 4, none⟩ = some (.bool (kT.getD i kz).r)
theorem TabH.keepB {B : Nat} {w w' : World} (h : TabH w) (hb : Below B w w') (hB : 0 < B) : TabH w' := by
  have e : ∀ o, w'.cell? ⟨0, o, none⟩ = w.cell? ⟨0, o, none⟩ := fun o => hb.cell (p := ⟨0, o, none⟩) hB
  refine ⟨Nat.lt_of_lt_of_le h.1 hb.size, fun i hi => ?_⟩
  simp only [e]
  exact h.2 i hi
theorem TabH.keep {w w' : World} (h : TabH w) (hb : Below w.heap.size w w') : TabH w' := h.keepB hb h.1

/-- What a row tells. -/
theorem kT_all : ∀ i, i < 19 → (kT.getD i kz).s = (if 0 ≤ clK i then 1 else if 0 ≤ rtK i then 2 else 0) ∧ (0 ≤ clK i → (kT.getD i kz).o = clK i) ∧ (0 ≤ rtK i → (kT.getD i kz).o = rtK i ∧ clK (kT.getD i kz).f = rtK i ∧ (kT.getD i kz).f = (if rtK i = 0 then 1 else if rtK i = 1 then 3 else if rtK i = 2 then 6 else if rtK i = 3 then 8 else if rtK i = 4 then 11 else if rtK i = 5 then 13 else if rtK i = 6 then 15 else 17)) ∧
    ((kT.getD i kz).r = decide ((i : Int) = 4 ∨ (i : Int) = 9 ∨ (i : Int) = 12)) ∧ (0 ≤ rtK i → (kT.getD i kz).d = (if (i : Int) = 2 ∨ (i : Int) = 7 then 1 else if (i : Int) = 5 ∨ (i : Int) = 10 then 0 else 2)) := by
  decide
theorem kR_out {k : Int} (h : ¬ (0 ≤ k ∧ k < 19)) : kR k = kz ∧ clK k = -1 ∧ rtK k = -1 := by
  refine ⟨if_neg h, ?_, ?_⟩
  · unfold clK; repeat' split
    all_goals omega
  · unfold rtK; repeat' split
    all_goals omega
theorem kR_in {k : Int} (h : 0 ≤ k ∧ k < 19) : ∃ i : Nat, i < 19 ∧ k = i ∧ kR k = kT.getD i kz := ⟨k.toNat, by omega, by omega, if_pos h⟩
theorem kR_s (k : Int) : (kR k).s = (if 0 ≤ clK k then 1 else if 0 ≤ rtK k then 2 else 0) := by
  by_cases h : 0 ≤ k ∧ k < 19
  · obtain ⟨i, hi, rfl, e⟩ := kR_in h
    rw [e]
    exact (kT_all i hi).1
  · obtain ⟨e, e1, e2⟩ := kR_out h
    rw [e, e1, e2]
    rfl
theorem kR_call {k : Int} (h : 0 ≤ clK k) : (kR k).s = 1 ∧ (kR k).o = clK k := by
  refine ⟨by rw [kR_s, if_pos h], ?_⟩
  by_cases h1 : 0 ≤ k ∧ k < 19
  · obtain ⟨i, hi, rfl, e⟩ := kR_in h1
    rw [e]
    exact (kT_all i hi).2.1 h
  · have := (kR_out h1).2.1
    omega
theorem kR_none {k : Int} (h : clK k < 0) (h2 : rtK k < 0) : (kR k).s = 0 := by rw [kR_s, if_neg (by omega), if_neg (by omega)]
theorem kR_back {k : Int} (h : 0 ≤ rtK k) : clK k < 0 ∧ (kR k).s = 2 ∧ (kR k).o = rtK k ∧ (∀ k', 0 ≤ clK k' → (k' = (kR k).f ↔ clK k' = rtK k)) := by
  by_cases h1 : 0 ≤ k ∧ k < 19
  · obtain ⟨i, hi, rfl, e⟩ := kR_in h1
    have hc : clK (i : Int) < 0 := by
      rcases Int.lt_or_le (clK (i : Int)) 0 with h2 | h2
      · exact h2
      · have := cl_rt h2; omega
    refine ⟨hc, by rw [kR_s, if_neg (by omega), if_pos h], ?_, fun k' hk' => ?_⟩
    · rw [e]; exact ((kT_all i hi).2.2.1 h).1
    · obtain ⟨e1, e2, e3⟩ := (kT_all i hi).2.2.1 h
      rw [e]
      constructor
      · rintro rfl; exact e2
      · intro h3
        rw [e3]
        have := rtK_in (i : Int)
        rcases cl_of hk' with rfl | rfl | rfl | rfl | rfl | rfl | rfl | rfl <;> (rw [← h3]; rfl)
  · have := (kR_out h1).2.2
    omega
theorem kR_ok {e : Evt} (h : 0 ≤ rtK e.k) : okE e = ((kR e.k).d == 2 || ((kR e.k).d == 1 && decide (e.v ≠ 0))) ∧ reE e = if (kR e.k).r then e.v else 0 := by
  obtain ⟨t, k, a, v⟩ := e
  by_cases h1 : 0 ≤ k ∧ k < 19
  · obtain ⟨i, hi, rfl, e⟩ := kR_in h1
    dsimp only at h ⊢
    obtain ⟨_, _, _, e4, e5⟩ := kT_all i hi
    rw [e, e4, e5 h]
    unfold okE reE
    dsimp only
    constructor
    · by_cases g : (i : Int) = 2 ∨ (i : Int) = 7
      · rw [if_pos g, if_pos g]; rfl
      · rw [if_neg g, if_neg g]
        by_cases g2 : (i : Int) = 5 ∨ (i : Int) = 10
        · rw [if_pos g2]
          rcases g2 with g2 | g2 <;> (rw [g2]; rfl)
        · rw [if_neg g2]
          have : (i : Int) = 4 ∨ (i : Int) = 9 ∨ (i : Int) = 12 ∨ (i : Int) = 14 ∨ (i : Int) = 16 ∨ (i : Int) = 18 := by
            revert h; unfold rtK; repeat' split
            all_goals omega
          rw [decide_eq_true this]; rfl
    · simp
  · have := (kR_out h1).2.2
    dsimp only at h
    omega
/-- What is asked of a row: calls, returns of an operation. -/
theorem kR_calls (k : Int) (op : Int) (h0 : 0 ≤ op) : ((kR k).s == 1 && (kR k).o == op) = decide (clK k = op) := by
  by_cases h : 0 ≤ clK k
  · obtain ⟨e1, e2⟩ := kR_call h
    rw [e1, e2, Bool.eq_iff_iff]; simp
  · rw [decide_eq_false (by omega), kR_s, if_neg h]
    by_cases h2 : 0 ≤ rtK k
    · rw [if_pos h2]; rfl
    · rw [if_neg h2]; rfl
theorem kR_returns (k : Int) (op : Int) (h0 : 0 ≤ op) : ((kR k).s == 2 && (kR k).o == op) = decide (rtK k = op) := by
  by_cases h : 0 ≤ rtK k
  · obtain ⟨_, e1, e2, _⟩ := kR_back h
    rw [e1, e2, Bool.eq_iff_iff]; simp
  · rw [decide_eq_false (by omega), kR_s]
    by_cases h2 : 0 ≤ clK k
    · rw [if_pos h2]; rfl
    · rw [if_neg h2, if_neg h]; rfl
set_option maxHeartbeats 1000000 in
theorem look_is (e : Evt) (w : World) (hT : TabH w) : Calls Tryd.prog 11 #[.agg #[.int .i64 e.t, .int .i64 e.k, .int .i64 e.a, .int .i64 e.v]] w fun x w' => x = .returned (kV (kR e.k)) ∧ Below w.heap.size w w' := by
  obtain ⟨t, k, a, v⟩ := e
  by_cases h : 0 ≤ k ∧ k < 19
  · obtain ⟨i, hi, rfl, e⟩ := kR_in h
    obtain ⟨h0, hc⟩ := hT
    obtain ⟨f0, f1, f2, f3, f4⟩ := hc i hi
    dsimp only
    rw [e]
    clear e hc h
    obtain ⟨r, hr⟩ : ∃ r, kT.getD i kz = r := ⟨_, rfl⟩
    rw [hr] at f0 f1 f2 f3 f4 ⊢
    clear hr
    have g0 : (i : Int) < 19 := by omega
    have g1 : ¬ (i : Int) < 0 := by omega
    go_enter Tryd.func11, Tryd.ntmps11
    go_wp2
    refine bodyPost_ret (v := kV r) (by simp [results, Tryd.results11, go_sem, kV]) rfl ⟨rfl, ?_⟩
    exact two_new _ _ _
  · obtain ⟨e, _, _⟩ := kR_out h
    dsimp only
    rw [e]
    clear e
    have g : k < 0 ∨ (0 ≤ k ∧ 19 ≤ k) := by omega
    rcases g with g | ⟨g, g1⟩
    · go_enter Tryd.func11, Tryd.ntmps11
      go_wp2
      refine bodyPost_ret (v := kV kz) (by simp [results, Tryd.results11, go_sem, kV, kz]) rfl ⟨rfl, ?_⟩
      exact two_new _ _ _
    · have g2 : ¬ k < 0 := by omega
      go_enter Tryd.func11, Tryd.ntmps11
      go_wp2
      refine bodyPost_ret (v := kV kz) (by simp [results, Tryd.results11, go_sem, kV, kz]) rfl ⟨rfl, ?_⟩
      exact two_new _ _ _
end Go.Proofs.YtpkjepbeeebdoaaDoor
