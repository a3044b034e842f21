/-
  Plain facts on stacks as lists of cells: what the calls of package stk answer, said of lists, and what the statements of layer 4 ask for. Nothing of a translated program is imported.
-/
namespace Go.Proofs.Ytpkfmbknbdlnpaa

/-- Is there no such number of cells? -/
def popB (L : Nat) (n : Int) : Bool := decide (n < 0 ∨ (L : Int) < n)
/-- Is there no such place? -/
def pickB (L : Nat) (n : Int) : Bool := decide (n < 0 ∨ (L : Int) ≤ n)
/-- Is it more than fits? -/
def pushB (L : Nat) (most : Int) : Bool := decide (most < (L : Int))
def pushE (L : Nat) (most : Int) : Int := if pushB L most = true then -3 else 0
def pushL (l x : List Int) (most : Int) : List Int := if pushB (l.length + x.length) most = true then l else l ++ x
def popE (L : Nat) (n : Int) : Int := if popB L n = true then -4 else 0
def popL (l : List Int) (n : Int) : List Int := if popB l.length n = true then l else l.take (l.length - n.toNat)
def popX (l : List Int) (n : Int) : List Int := if popB l.length n = true then [] else l.drop (l.length - n.toNat)
def pickE (L : Nat) (n : Int) : Int := if pickB L n = true then -4 else 0
def pickX (l : List Int) (n : Int) : Int := if pickB l.length n = true then 0 else l.getD (l.length - 1 - n.toNat) 0
/-- A list with the cell at a place behind all others. -/
def lastly (l : List Int) (k : Nat) : List Int := l.take k ++ (l.drop (k + 1) ++ [l.getD k 0])
def rollL (l : List Int) (n : Int) : List Int := if pickB l.length n = true then l else lastly l (l.length - 1 - n.toNat)
/-- Is a place named that is not there? -/
def nameB (L : Nat) (to : List Int) : Bool := to.any (pickB L)
def nameL (x to : List Int) : List Int := to.map fun i => x.getD i.toNat 0
def permE (l : List Int) (n : Int) (to : List Int) (most : Int) : Int :=
  if popB l.length n = true then -4 else if nameB (popX l n).length to = true then -4 else pushE ((popL l n).length + to.length) most
def permL (l : List Int) (n : Int) (to : List Int) (most : Int) : List Int :=
  if permE l n to most = 0 then popL l n ++ nameL (popX l n) to else l

theorem popB_no {L : Nat} {n : Int} (h : popB L n = false) : ∃ k : Nat, n = k ∧ k ≤ L := by
  have h' : ¬ (n < 0 ∨ (L : Int) < n) := of_decide_eq_false h
  exact ⟨n.toNat, by omega, by omega⟩
theorem popB_yes {L : Nat} {n : Int} (h : popB L n = true) : n < 0 ∨ (L : Int) < n := of_decide_eq_true h
theorem pickB_no {L : Nat} {n : Int} (h : pickB L n = false) : ∃ k : Nat, n = k ∧ k < L := by
  have h' : ¬ (n < 0 ∨ (L : Int) ≤ n) := of_decide_eq_false h
  exact ⟨n.toNat, by omega, by omega⟩
theorem pickB_yes {L : Nat} {n : Int} (h : pickB L n = true) : n < 0 ∨ (L : Int) ≤ n := of_decide_eq_true h
theorem popB_nat {L k : Nat} (h : k ≤ L) : popB L (k : Int) = false := decide_eq_false (by omega)
theorem pickB_nat {L k : Nat} (h : k < L) : pickB L (k : Int) = false := decide_eq_false (by omega)
theorem pushB_no {L : Nat} {m : Int} (h : (L : Int) ≤ m) : pushB L m = false := decide_eq_false (by omega)
theorem pushB_yes {L : Nat} {m : Int} (h : m < (L : Int)) : pushB L m = true := decide_eq_true h

theorem pushE_ok {L : Nat} {m : Int} (h : pushB L m = false) : pushE L m = 0 := by simp [pushE, h]
theorem pushE_over {L : Nat} {m : Int} (h : pushB L m = true) : pushE L m = -3 := by simp [pushE, h]
theorem pushL_ok {l x : List Int} {m : Int} (h : pushB (l.length + x.length) m = false) : pushL l x m = l ++ x := by simp [pushL, h]
theorem pushL_over {l x : List Int} {m : Int} (h : pushB (l.length + x.length) m = true) : pushL l x m = l := by simp [pushL, h]
theorem popE_ok {L : Nat} {n : Int} (h : popB L n = false) : popE L n = 0 := by simp [popE, h]
theorem popE_under {L : Nat} {n : Int} (h : popB L n = true) : popE L n = -4 := by simp [popE, h]
theorem popL_ok {l : List Int} {n : Int} (h : popB l.length n = false) : popL l n = l.take (l.length - n.toNat) := by simp [popL, h]
theorem popX_ok {l : List Int} {n : Int} (h : popB l.length n = false) : popX l n = l.drop (l.length - n.toNat) := by simp [popX, h]
theorem popL_under {l : List Int} {n : Int} (h : popB l.length n = true) : popL l n = l := by simp [popL, h]
theorem popX_under {l : List Int} {n : Int} (h : popB l.length n = true) : popX l n = [] := by simp [popX, h]
theorem pickE_ok {L : Nat} {n : Int} (h : pickB L n = false) : pickE L n = 0 := by simp [pickE, h]
theorem pickE_under {L : Nat} {n : Int} (h : pickB L n = true) : pickE L n = -4 := by simp [pickE, h]
theorem pickX_ok {l : List Int} {n : Int} (h : pickB l.length n = false) : pickX l n = l.getD (l.length - 1 - n.toNat) 0 := by simp [pickX, h]
theorem pickX_under {l : List Int} {n : Int} (h : pickB l.length n = true) : pickX l n = 0 := by simp [pickX, h]
theorem rollL_ok {l : List Int} {n : Int} (h : pickB l.length n = false) : rollL l n = lastly l (l.length - 1 - n.toNat) := by simp [rollL, h]
theorem rollL_under {l : List Int} {n : Int} (h : pickB l.length n = true) : rollL l n = l := by simp [rollL, h]
theorem permE_pop {l : List Int} {n : Int} {to : List Int} {m : Int} (h : popB l.length n = true) : permE l n to m = -4 := by simp [permE, h]
theorem permE_name {l : List Int} {n : Int} {to : List Int} {m : Int} (h : popB l.length n = false) (k : nameB (popX l n).length to = true) : permE l n to m = -4 := by simp [permE, h, k]
theorem permE_push {l : List Int} {n : Int} {to : List Int} {m : Int} (h : popB l.length n = false) (k : nameB (popX l n).length to = false) : permE l n to m = pushE ((popL l n).length + to.length) m := by simp [permE, h, k]
theorem permL_bad {l : List Int} {n : Int} {to : List Int} {m : Int} (h : permE l n to m ≠ 0) : permL l n to m = l := by unfold permL; rw [if_neg h]
theorem permL_ok {l : List Int} {n : Int} {to : List Int} {m : Int} (h : permE l n to m = 0) : permL l n to m = popL l n ++ nameL (popX l n) to := by unfold permL; rw [if_pos h]

theorem lastly_length (l : List Int) (k : Nat) (h : k < l.length) : (lastly l k).length = l.length := by
  unfold lastly
  simp
  omega
theorem nameL_length (x to : List Int) : (nameL x to).length = to.length := by simp [nameL]
theorem nameB_nil (L : Nat) : nameB L [] = false := rfl
theorem nameB_get {L : Nat} {to : List Int} (h : nameB L to = false) {j : Nat} (hj : j < to.length) : pickB L to[j] = false := by
  unfold nameB at h
  rw [List.any_eq_false] at h
  have := h to[j] (List.getElem_mem hj)
  simpa using this
theorem nameB_some {L : Nat} {to : List Int} {j : Nat} (hj : j < to.length) (h : pickB L to[j] = true) : nameB L to = true := by
  unfold nameB
  rw [List.any_eq_true]
  exact ⟨_, List.getElem_mem hj, h⟩
theorem nameB_of {L : Nat} {to : List Int} (h : ∀ j (hj : j < to.length), pickB L to[j] = false) : nameB L to = false := by
  unfold nameB
  rw [List.any_eq_false]
  intro x hx
  obtain ⟨j, hj, rfl⟩ := List.mem_iff_getElem.1 hx
  rw [h j hj]
  simp

/-- Some cells, gone round by so many. -/
def turned (d : List Int) (i : Nat) : List Int := d.drop i ++ d.take i
theorem turned_all (d : List Int) : turned d d.length = d := by simp [turned]
theorem turned_none (d : List Int) : turned d 0 = d := by simp [turned]
theorem turned_length (d : List Int) (i : Nat) (h : i ≤ d.length) : (turned d i).length = d.length := by simp [turned]; omega
theorem lastly_at (a t : List Int) (x : Int) : lastly (a ++ x :: t) a.length = a ++ (t ++ [x]) := by
  unfold lastly
  have e2 : (a ++ x :: t).drop (a.length + 1) = t := by
    rw [show a ++ x :: t = (a ++ [x]) ++ t by simp]
    exact List.drop_left' (by simp)
  rw [e2]
  simp [List.getD]
theorem lastly_turned (a d : List Int) (i : Nat) (h : i < d.length) : lastly (a ++ turned d i) a.length = a ++ turned d (i + 1) := by
  unfold turned
  have h1 : d.drop i = d[i] :: d.drop (i + 1) := List.drop_eq_getElem_cons h
  have h2 : d.take (i + 1) = d.take i ++ [d[i]] := List.take_succ_eq_append_getElem h
  rw [h1, h2, List.cons_append, lastly_at]
  simp
/-- Numbers from 1 on, and 0 behind them. -/
def ups (k : Nat) : List Int := (List.range k).map fun i : Nat => ((i : Int) + 1)
theorem ups_length (k : Nat) : (ups k).length = k := by simp [ups]
theorem ups_succ (k : Nat) : ups (k + 1) = ups k ++ [(k : Int) + 1] := by simp [ups, List.range_succ]
theorem name_ups (d : List Int) (k : Nat) (h : d.length = k + 1) : nameL d (ups k ++ [0]) = d.drop 1 ++ [d.getD 0 0] := by
  unfold nameL ups
  rw [List.map_append, List.map_map]
  congr 1
  apply List.ext_getElem
  · simp; omega
  · intro j h1 h2
    simp at h1
    simp [List.getD]
    rw [List.getElem?_eq_getElem (show j + 1 < d.length by omega)]
    rfl
theorem nameB_ups (k : Nat) : nameB (k + 1) (ups k ++ [0]) = false := by
  unfold nameB ups
  rw [List.any_eq_false]
  intro x hx
  simp at hx
  rcases hx with ⟨i, hi, rfl⟩ | rfl <;> (unfold pickB; simp; try omega)
theorem lastly_parts (l : List Int) (p : Nat) : lastly l p = l.take p ++ ((l.drop p).drop 1 ++ [(l.drop p).getD 0 0]) := by
  unfold lastly
  simp [List.getD, List.drop_drop]
end Go.Proofs.Ytpkfmbknbdlnpaa
