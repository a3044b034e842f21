/-
  Plain facts on the dictionary: a word is a name, a flag and four numbers; a dictionary is a list of them.
-/
import Derived.Test.YtkpomphjicoaeaaOpNames
import Derived.Test.YtkpomphjicoaeaaScanWordMath
import Derived.Test.YtkpomphjicoaeaaScanUpper
import Derived.Lib.SmallJoins
namespace Go.Proofs.Ytkpomphjicoaeaa

/-- A word. -/
structure En where
  s : ByteArray
  m : Bool
  k : Int
  v : Int
  t : Int
  p : Int
def e0 : En := ⟨⟨#[]⟩, false, 0, 0, 0, 0⟩
theorem En.ext' {a b : En} (h1 : a.s = b.s) (h2 : a.m = b.m) (h3 : a.k = b.k) (h4 : a.v = b.v) (h5 : a.t = b.t) (h6 : a.p = b.p) : a = b := by
  cases a; cases b; cases h1; cases h2; cases h3; cases h4; cases h5; cases h6; rfl
/-- A name in capitals. -/
def up (S : ByteArray) : ByteArray := ⟨(S.data.toList.map scU).toArray⟩
theorem up_data (S : ByteArray) : (up S).data.toList = S.data.toList.map scU := by unfold up; simp
theorem len_size (S : ByteArray) : S.data.toList.length = S.size := Array.length_toList
theorem up_size (S : ByteArray) : (up S).size = S.size := by rw [← len_size, ← len_size, up_data, List.length_map]
theorem own_mk (S : ByteArray) : S = ⟨S.data.toList.toArray⟩ := (Joins.bytes_eta S).symm
theorem bytes_ext {S T : ByteArray} (h : S.data.toList = T.data.toList) : S = T := by rw [own_mk S, own_mk T, h]
theorem up_up (S : ByteArray) : up (up S) = up S := by
  apply bytes_ext
  rw [up_data, up_data, List.map_map]
  congr 1
  funext c
  exact scU_twice c
def aU (e : En) : En := ⟨up e.s, e.m, e.k, e.v, e.t, e.p⟩
theorem aU_aU (e : En) : aU (aU e) = aU e := by unfold aU; simp only [up_up]
/-- Are two names one? -/
def nEq (S T : ByteArray) : Bool := decide (S.data.toList = T.data.toList)
theorem nEq_iff {S T : ByteArray} : nEq S T = true ↔ S = T := by
  unfold nEq
  simp only [decide_eq_true_eq]
  exact ⟨bytes_ext, fun h => by rw [h]⟩
theorem nEq_no {S T : ByteArray} : nEq S T = false ↔ S ≠ T := by
  rw [← Bool.not_eq_true, nEq_iff]
theorem nEq_self (S : ByteArray) : nEq S S = true := nEq_iff.2 rfl
theorem toL (S : ByteArray) : S.toList = S.data.toList := by
  conv => lhs; rw [own_mk S]
  exact ByteArray.toList_mk _
theorem nEq_toL {S T : ByteArray} {b : Bool} (h : nEq S T = b) : (S.toList == T.toList) = b := by
  rw [← h]; unfold nEq; rw [toL, toL, Bool.eq_iff_iff]; simp
theorem nEq_bne {S T : ByteArray} {b : Bool} (h : nEq S T = b) : (S.toList != T.toList) = !b := by
  unfold bne; rw [nEq_toL h]
/-- A place's number. -/
def dP (t p : Int) : Int := if 0 ≤ t ∧ t ≤ 1000000 ∧ 0 ≤ p ∧ p < 4096 then t * 4096 + p else -1
theorem dP_yes {t p : Int} (h : 0 ≤ t ∧ t ≤ 1000000 ∧ 0 ≤ p ∧ p < 4096) : dP t p = t * 4096 + p := if_pos h
theorem dP_no {t p : Int} (h : ¬ (0 ≤ t ∧ t ≤ 1000000 ∧ 0 ≤ p ∧ p < 4096)) : dP t p = -1 := if_neg h
/-- A number's place. -/
def dOk (n : Int) : Bool := decide (0 ≤ n ∧ n / 4096 ≤ 1000000)
def dT (n : Int) : Int := if dOk n then n / 4096 else 0
def dQ (n : Int) : Int := if dOk n then n % 4096 else 0
theorem dOk_dP (t p : Int) : dOk (dP t p) = decide (0 ≤ dP t p) := by
  unfold dOk
  by_cases h : 0 ≤ t ∧ t ≤ 1000000 ∧ 0 ≤ p ∧ p < 4096
  · rw [dP_yes h, Bool.eq_iff_iff]; simp; omega
  · rw [dP_no h]; rfl
theorem dT_dP {t p : Int} (h : 0 ≤ dP t p) : dT (dP t p) = t ∧ dQ (dP t p) = p := by
  by_cases h2 : 0 ≤ t ∧ t ≤ 1000000 ∧ 0 ≤ p ∧ p < 4096
  · have : dOk (dP t p) = true := by rw [dOk_dP]; simpa using h
    unfold dT dQ
    rw [if_pos this, if_pos this, dP_yes h2]
    omega
  · rw [dP_no h2] at h; omega
theorem dP_dT {n : Int} (h : dOk n = true) : dP (dT n) (dQ n) = n := by
  unfold dT dQ
  rw [if_pos h, if_pos h]
  unfold dOk at h
  simp at h
  rw [dP_yes (by omega)]
  omega
/-- May a word have a name? -/
def nmB (S : ByteArray) : Bool := decide (1 ≤ S.size ∧ S.size ≤ 31)
def cpB (S : ByteArray) : Bool := nEq S (up S)
def bkB (S : ByteArray) : Bool := S.data.toList.all fun c => !scB c
/-- Is a number an operation's that is found? -/
def opB (v : Int) : Bool := decide (0 ≤ v ∧ v < 111) && !opH (opR v).1
def kdB (e : En) : Bool := if e.k = 0 then opB e.v && (e.t == 0 && e.p == 0) else if e.k = 2 ∨ e.k = 3 then true else if e.k = 1 ∨ e.k = 4 then decide (0 ≤ dP e.t e.p) else false
def saneB (e : En) : Bool := (nmB e.s && (cpB e.s && bkB e.s)) && kdB e
theorem cpB_up (S : ByteArray) : cpB (up S) = true := by unfold cpB; rw [up_up]; exact nEq_self _
theorem nmB_up (S : ByteArray) : nmB (up S) = nmB S := by unfold nmB; rw [up_size]
theorem saneB_name {e : En} (h : saneB e = true) : nmB e.s = true ∧ up e.s = e.s := by
  unfold saneB at h
  simp only [Bool.and_eq_true] at h
  exact ⟨h.1.1, (nEq_iff.1 h.1.2.1).symm⟩
/-- Where the last one of a name is, among the first n. -/
def dG (l : List En) (U : ByteArray) : Nat → Option Nat
  | 0 => none
  | n + 1 => if nEq (l.getD n e0).s U then some n else dG l U n
theorem dG_yes {l : List En} {U : ByteArray} {n : Nat} (h : nEq (l.getD n e0).s U = true) : dG l U (n + 1) = some n := by unfold dG; rw [if_pos h]
theorem dG_no {l : List En} {U : ByteArray} {n : Nat} (h : nEq (l.getD n e0).s U = false) : dG l U (n + 1) = dG l U n := by rw [dG, h]; rfl
def dV (o : Option Nat) : Int := match o with | some j => (j : Int) | none => 0
def dF (l : List En) (S : ByteArray) : Option Nat := if S.size = 0 then none else dG l (up S) l.length
/-- What is laid of a word. -/
def cdL (e : En) : List (Int × Int) := if e.k = 0 then [(e.v, 0)] else if e.k = 1 then [(3, dP e.t e.p)] else if e.k = 4 then [(0, e.v), (3, dP e.t e.p)] else [(0, e.v)]
def dCb (l : List En) (i : Int) : Bool := decide (0 ≤ i ∧ i < (l.length : Int)) && saneB (l.getD i.toNat e0)
def dC (l : List En) (i : Int) : List (Int × Int) := if dCb l i then cdL (l.getD i.toNat e0) else []
/-- What comes of adding a word. -/
def adE (l : List En) (e : En) : Int := if nmB e.s = false then -16 else if saneB (aU e) = false then -21 else if 512 ≤ l.length then -8 else 0
def adL (l : List En) (e : En) : List En := if adE l e = 0 then l ++ [aU e] else l
/-- The first dictionary, of the first k operations. -/
def bsE (o : Nat) : En := ⟨⟨(opR (o : Int)).1.toArray⟩, false, 0, (o : Int), 0, 0⟩
def bsT (k : Nat) : List En := ((List.range k).filter fun o : Nat => !opH (opR (o : Int)).1).map bsE
theorem bsT_hid (k : Nat) (h : opH (opR (k : Int)).1 = true) : bsT (k + 1) = bsT k := by
  unfold bsT
  rw [List.range_succ, List.filter_append, List.filter_cons, h]
  simp
theorem bsT_new (k : Nat) (h : opH (opR (k : Int)).1 = false) : bsT (k + 1) = bsT k ++ [bsE k] := by
  unfold bsT
  rw [List.range_succ, List.filter_append, List.filter_cons, h]
  simp
theorem bsT_le (k : Nat) : (bsT k).length ≤ k := by
  unfold bsT
  rw [List.length_map]
  have := List.length_filter_le (fun o : Nat => !opH (opR (o : Int)).1) (List.range k)
  simpa using this
theorem takeWhile_all {p : UInt8 → Bool} {l : List UInt8} (h : ∀ c ∈ l, p c = true) : l.takeWhile p = l := by
  induction l with
  | nil => rfl
  | cons c l ih => rw [List.takeWhile_cons, if_pos (h c (by simp)), ih fun d hd => h d (by simp [hd])]
/-- A text without blanks is its own first word, and no other one is. -/
theorem unbroken_iff (l : List UInt8) : scT l (scS scB l 0) (scS (scN 32) l (scS scB l 0)) = l ↔ (l.all fun c => !scB c) = true := by
  have hf := word_facts l 0 _ _ _ (Nat.zero_le _) rfl rfl rfl
  constructor
  · intro h
    rw [List.all_eq_true]
    intro c hc
    have := hf.2.2.2.2.1 c (by rw [h]; exact hc)
    rw [this]
    rfl
  · intro h
    rw [List.all_eq_true] at h
    cases l with
    | nil => rfl
    | cons c l =>
      have h0 : scS scB (c :: l) 0 = 0 := scS_here scB (c :: l) 0 (by simp) (by simpa using h c (by simp))
      rw [h0]
      have h1 : scS (scN 32) (c :: l) 0 = (c :: l).length := by
        unfold scS
        rw [List.drop_zero, takeWhile_all (by intro d hd; rw [scN32]; exact h d hd)]
        simp
      rw [h1, scT_own]
      rfl
end Go.Proofs.Ytkpomphjicoaeaa
