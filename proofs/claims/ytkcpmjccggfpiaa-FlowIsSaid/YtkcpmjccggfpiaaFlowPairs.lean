/-
  Words in pairs: which word each number picks, and what the words do to the kinds on the marks.
-/
import Derived.Test.YtkcpmjccggfpiaaFlowMore
import Derived.Test.YtkcpmjccggfpiaaCellMath
namespace Go.Proofs.Ytkcpmjccggfpiaa
open Go.RowKit

def pFst : Nat → List UInt8
  | 0 => [105, 102] | 1 => [98, 101, 103, 105, 110] | 2 => [100, 111] | 3 => [63, 100, 111] | 4 => [98, 101, 103, 105, 110] | _ => [105, 102]
def pMid : Nat → List UInt8
  | 0 => [101, 108, 115, 101] | 1 => [] | 2 => [108, 101, 97, 118, 101] | 3 => [] | 4 => [119, 104, 105, 108, 101] | _ => []
def pLst : Nat → List UInt8
  | 0 => [116, 104, 101, 110] | 1 => [117, 110, 116, 105, 108] | 2 => [108, 111, 111, 112] | 3 => [43, 108, 111, 111, 112] | 4 => [114, 101, 112, 101, 97, 116] | _ => [116, 104, 101, 110]
/-- The kinds on the marks behind the first word; behind the middle one. -/
def pK1 : Nat → List Int
  | 0 => [1] | 1 => [2] | 2 => [3] | 3 => [3] | 4 => [2] | _ => [1]
def pK2 : Nat → List Int
  | 0 => [1] | 1 => [2] | 2 => [3] | 3 => [3] | 4 => [1, 2] | _ => [1]
/-- Which pair a number picks. -/
def pQ (x : Int) : Nat := (x % 256 % 6).toNat
theorem pQ_lt (x : Int) : pQ x < 6 := by unfold pQ; omega
theorem and255' (x : Int) : bits .and .i64 x 255 = x % 256 := bits_and_low 8 (by decide) x
theorem pQ_is (x : Int) : (bits .and .i64 x 255).tmod 6 = (pQ x : Int) := by
  rw [and255', Int.tmod_eq_emod_of_nonneg (by omega)]
  unfold pQ
  omega
/-- The kinds on the marks behind the pairs of some numbers. -/
def pKs (l : List Int) : List Int := (l.map fun x => pK2 (pQ x)).flatten
theorem pKs_next (l : List Int) (j : Nat) (hj : j < l.length) : pKs (l.take (j + 1)) = pKs (l.take j) ++ pK2 (pQ (l.getD j 0)) := by
  unfold pKs
  rw [show l.getD j 0 = l[j] by simp [List.getD, hj], List.take_succ_eq_append_getElem hj, List.map_append, List.flatten_append, List.map_cons, List.map_nil, List.flatten_cons, List.flatten_nil, List.append_nil]

theorem wdN_of {b : Bd} {d : Wd} (h : wdE b d = 0) : wdN b d = wdB b d := by unfold wdN; rw [if_pos h]
theorem last_snoc (l : List Int) (k : Int) : (l ++ [k]).getLastD 0 = k := by simp [List.getLastD_eq_getLast?]
theorem drop_snoc (l : List Int) (k : Int) : (l ++ [k]).dropLast = l := by simp
theorem flK_ahead (b : Bd) (o : Int) : flK (aheadB b o) = flK b ++ [1] := by unfold aheadB; rw [flK_mark, flK_lay]
theorem flK_begin (b : Bd) (o : Int) : flK (beginB b o) = flK b ++ [3] := by unfold beginB; rw [flK_mark, flK_lay]
theorem flK_back {b : Bd} {k o : Int} (h : topK b = k) : flK (backB b k o) = (flK b).dropLast := by unfold backB; rw [if_pos h, flK_lay, flK_take]
theorem flK_end {b : Bd} {o : Int} (h : topK b = 3) (hE : backE b 3 = 0) : flK (endB b o) = (flK b).dropLast := by
  unfold endB
  rw [if_pos hE, flK_res]
  show flK (backB b 3 o) = _
  exact flK_back h
/-- A step of words in pairs: taken, sane, grown, K the kinds on its marks. -/
def Stp (N : Nat) (b : Bd) (l : List UInt8) (K : List Int) : Prop :=
  ∃ C ok, Answers b ⟨l.toArray⟩ C ok 0 ∧ Took b C 2 ∧ Few (N + 2) C ∧ flK C = K
theorem stp_wd {N : Nat} {b : Bd} (hs : flSane b = true) (hF : Few N b) (hN : N ≤ 3000) (l : List UInt8) (hl : l.length ≤ 2000) (d : Wd) (hd : wdF (l.map scU) = some d) (hE : wdE b d = 0) {K : List Int} (hK : flK (wdB b d) = K) :
    ∃ C, Answers b ⟨l.toArray⟩ C true 0 ∧ Took b C 2 ∧ Few (N + 2) C ∧ flK C = K := by
  have h := answers_wd hs (hF.mono (by omega)) l hl d hd
  rw [hE, wdN_of hE] at h
  have t := wd_took hs d hE
  have g := t.grow.len
  have m1 := wd_marks b d hE
  have o1 := wd_outs b d
  obtain ⟨f1, f2, f3⟩ := hF
  exact ⟨_, h, t, ⟨by omega, by omega, by omega⟩, hK⟩
theorem stp_no {N : Nat} {b : Bd} (hs : flSane b = true) (hF : Few N b) (hN : N ≤ 3000) (l : List UInt8) (hl : l.length ≤ 2000) (hd : wdF (l.map scU) = none) : Stp N b l (flK b) :=
  ⟨b, false, answers_no hs (hF.mono (by omega)) l hl hd, ⟨hs, flGrow.refl _ _, id⟩, hF.mono (by omega), rfl⟩
theorem pair_first {N : Nat} {b : Bd} (hs : flSane b = true) (hF : Few N b) (hN : N ≤ 3000) (q : Nat) (hq : q < 6) : Stp N b (pFst q) (flK b ++ pK1 q) := by
  have hc := hF.1
  have h1 : layE b 1 = 0 := layE_of (by omega)
  have i0 := stp_wd hs hF hN [105, 102] (by decide) .if_ rfl h1 (flK_ahead b 2)
  have i1 := stp_wd hs hF hN [98, 101, 103, 105, 110] (by decide) .begin_ rfl rfl (flK_mark b 2 _)
  have i2 := stp_wd hs hF hN [100, 111] (by decide) .do_ rfl h1 (flK_begin b 5)
  have i3 := stp_wd hs hF hN [63, 100, 111] (by decide) .mayDo rfl h1 (K := flK b ++ [3]) ((flK_out _ _).trans (flK_begin b 6))
  match q, hq with
  | 0, _ => obtain ⟨C, h⟩ := i0; exact ⟨C, true, h⟩
  | 1, _ => obtain ⟨C, h⟩ := i1; exact ⟨C, true, h⟩
  | 2, _ => obtain ⟨C, h⟩ := i2; exact ⟨C, true, h⟩
  | 3, _ => obtain ⟨C, h⟩ := i3; exact ⟨C, true, h⟩
  | 4, _ => obtain ⟨C, h⟩ := i1; exact ⟨C, true, h⟩
  | 5, _ => obtain ⟨C, h⟩ := i0; exact ⟨C, true, h⟩
theorem pair_mid {N : Nat} {b : Bd} (hs : flSane b = true) (hF : Few N b) (hN : N ≤ 3000) (q : Nat) (hq : q < 6) {K : List Int} (hK : flK b = K ++ pK1 q) : Stp N b (pMid q) (K ++ pK2 q) := by
  have hc := hF.1
  have h1 : layE b 1 = 0 := layE_of (by omega)
  have h2 : layE b 2 = 0 := layE_of (by omega)
  have no : Stp N b [] (flK b) := stp_no hs hF hN [] (by decide) rfl
  have ht := flK_top b
  match q, hq with
  | 0, _ =>
    have hk : topK b = 1 := by rw [ht, hK]; exact last_snoc _ _
    obtain ⟨C, h⟩ := stp_wd hs hF hN [101, 108, 115, 101] (by decide) .else_ rfl (by show (if topK b = 1 then layE b 1 else -22) = 0; rw [if_pos hk]; exact h1) (K := K ++ [1]) (by
      simp only [wdB, if_pos hk]; rw [flK_res, flK_ahead, flK_take, hK]; show (K ++ [1]).dropLast ++ [1] = _; rw [drop_snoc])
    exact ⟨C, true, h⟩
  | 1, _ => rw [hK] at no; exact no
  | 2, _ =>
    have hd : ¬ flDeep b.marks = 0 := by rw [flK_deep, hK]; simp [pK1]
    obtain ⟨C, h⟩ := stp_wd hs hF hN [108, 101, 97, 118, 101] (by decide) .leave rfl (by show (if flDeep b.marks = 0 then (-22 : Int) else layE b 2) = 0; rw [if_neg hd]; exact h2) (K := K ++ [3]) (by
      simp only [wdB, if_neg hd]; rw [flK_out, flK_lay, hK]; rfl)
    exact ⟨C, true, h⟩
  | 3, _ => rw [hK] at no; exact no
  | 4, _ =>
    have hk : topK b = 2 := by rw [ht, hK]; exact last_snoc _ _
    obtain ⟨C, h⟩ := stp_wd hs hF hN [119, 104, 105, 108, 101] (by decide) .while_ rfl (by show (if topK b = 2 then layE b 1 else -22) = 0; rw [if_pos hk]; exact h1) (K := K ++ [1, 2]) (by
      simp only [wdB, if_pos hk]; rw [flK_mark, flK_ahead, flK_take, hK]; show (K ++ [2]).dropLast ++ [1] ++ [2] = _; rw [drop_snoc]; simp)
    exact ⟨C, true, h⟩
  | 5, _ => rw [hK] at no; exact no
theorem pair_last {N : Nat} {b : Bd} (hs : flSane b = true) (hF : Few N b) (hN : N ≤ 3000) (q : Nat) (hq : q < 6) {K : List Int} (hK : flK b = K ++ pK2 q) :
    (∃ C, Answers b ⟨(pLst q).toArray⟩ C true 0 ∧ Took b C 2 ∧ Few (N + 2) C ∧ flK C = K) ∧ 0 < b.marks.length := by
  have hc := hF.1
  have h1 : layE b 1 = 0 := layE_of (by omega)
  have ht := flK_top b
  have hm : 0 < b.marks.length := by
    rw [← flK_len, hK]
    match q, hq with
    | 0, _ | 1, _ | 2, _ | 3, _ | 4, _ | 5, _ => simp [pK2]
  refine ⟨?_, hm⟩
  have then_ : ∀ _ : flK b = K ++ [1], ∃ C, Answers b ⟨#[116, 104, 101, 110]⟩ C true 0 ∧ Took b C 2 ∧ Few (N + 2) C ∧ flK C = K := by
    intro hK1
    have hk : topK b = 1 := by rw [ht, hK1]; exact last_snoc _ _
    exact stp_wd hs hF hN [116, 104, 101, 110] (by decide) .then_ rfl (by show (if topK b = 1 then (0 : Int) else -22) = 0; rw [if_pos hk]) (by
      simp only [wdB, if_pos hk]; rw [flK_res, flK_take, hK1, drop_snoc])
  match q, hq with
  | 0, _ => exact then_ hK
  | 1, _ =>
    have hk : topK b = 2 := by rw [ht, hK]; exact last_snoc _ _
    exact stp_wd hs hF hN [117, 110, 116, 105, 108] (by decide) .until_ rfl (by show backE b 2 = 0; unfold backE; rw [if_pos hk, layE_take]; exact h1) (by
      show flK (backB b 2 2) = K; rw [flK_back hk, hK]; exact drop_snoc _ _)
  | 2, _ =>
    have hk : topK b = 3 := by rw [ht, hK]; exact last_snoc _ _
    have hE : backE b 3 = 0 := by unfold backE; rw [if_pos hk, layE_take]; exact h1
    exact stp_wd hs hF hN [108, 111, 111, 112] (by decide) .loop_ rfl hE (by show flK (endB b 7) = K; rw [flK_end hk hE, hK]; exact drop_snoc _ _)
  | 3, _ =>
    have hk : topK b = 3 := by rw [ht, hK]; exact last_snoc _ _
    have hE : backE b 3 = 0 := by unfold backE; rw [if_pos hk, layE_take]; exact h1
    exact stp_wd hs hF hN [43, 108, 111, 111, 112] (by decide) .plusLoop rfl hE (by show flK (endB b 8) = K; rw [flK_end hk hE, hK]; exact drop_snoc _ _)
  | 4, _ =>
    have hK2 : flK b = (K ++ [1]) ++ [2] := by rw [hK]; simp [pK2]
    have hk : topK b = 2 := by rw [ht, hK2]; exact last_snoc _ _
    have hk2 : topK (takeB b) = 1 := by rw [flK_top, flK_take, hK2, drop_snoc]; exact last_snoc _ _
    exact stp_wd hs hF hN [114, 101, 112, 101, 97, 116] (by decide) .repeat_ rfl (by show (if topK b = 2 then (if topK (takeB b) = 1 then layE b 1 else -22) else -22) = 0; rw [if_pos hk, if_pos hk2]; exact h1) (by
      simp only [wdB, if_pos hk, if_pos hk2]; rw [flK_res, flK_lay, flK_take, flK_take, hK2, drop_snoc, drop_snoc])
  | 5, _ => exact then_ hK
end Go.Proofs.Ytkcpmjccggfpiaa
