/-
  Who holds a lock, how many signals are left: what is told of others changes neither. Nothing of a translated program is imported.
-/
import Derived.Test.YtpkjepbeeebdoaaDoorHistMath
namespace Go.Proofs.YtpkjepbeeebdoaaDoor

/-- Who holds, how many at most, the next ticket, whether all went well. -/
structure Hd where
  h : List Int
  m : Int
  x : Int
  g : Bool
def hdS (a : Int) (s : Hd) (e : Evt) : Hd :=
  if e.a ≠ a then s
  else if e.k = 11 then ⟨s.h.filter (· ≠ e.t), max s.m (s.h.filter (· ≠ e.t)).length, s.x, s.g⟩
  else if e.k = 12 then ⟨if s.h.contains e.t then s.h else s.h ++ [e.t], max s.m (if s.h.contains e.t then s.h else s.h ++ [e.t]).length, s.x + 1, s.g && decide (e.v = s.x)⟩
  else if e.k = 13 then ⟨s.h.filter (· ≠ e.t), max s.m (s.h.filter (· ≠ e.t)).length, s.x, s.g && s.h.contains e.t⟩
  else ⟨s.h, max s.m s.h.length, s.x, s.g⟩
def hdA (l : List Evt) (a : Int) : Hd := l.foldl (hdS a) ⟨[], 0, 0, true⟩
def hdN (l : List Evt) (a : Int) : Int := (hdA l a).m
def hdB (l : List Evt) (a : Int) : Bool := (hdA l a).g
theorem hd_app (h o : List Evt) (a : Int) (ho : ∀ e ∈ o, e.a ≠ a) : hdA (h ++ o) a = hdA h a := by
  unfold hdA
  rw [List.foldl_append]
  generalize h.foldl (hdS a) ⟨[], 0, 0, true⟩ = s
  induction o generalizing s with
  | nil => rfl
  | cons e o ih =>
    rw [List.foldl_cons, show hdS a s e = s from if_pos (ho e (by simp))]
    exact ih (fun x hx => ho x (by simp [hx])) s
theorem hdN_app (h o : List Evt) (a : Int) (ho : ∀ e ∈ o, e.a ≠ a) : hdN (h ++ o) a = hdN h a := by unfold hdN; rw [hd_app h o a ho]
theorem hdB_app (h o : List Evt) (a : Int) (ho : ∀ e ∈ o, e.a ≠ a) : hdB (h ++ o) a = hdB h a := by unfold hdB; rw [hd_app h o a ho]
/-- How many fewer signals there are than at first, and were at the most. -/
def sgS (a : Int) (s : Int × Int) (e : Evt) : Int × Int :=
  if e.a ≠ a then s else (if e.k = 17 then s.1 - 1 else if e.k = 16 then s.1 + 1 else s.1, max s.2 (if e.k = 17 then s.1 - 1 else if e.k = 16 then s.1 + 1 else s.1))
def sgA (l : List Evt) (a : Int) : Int × Int := l.foldl (sgS a) (0, 0)
def sgN (l : List Evt) (a n : Int) : Int := n - (sgA l a).2
def sgB (l : List Evt) (a n : Int) : Bool := decide ((sgA l a).2 ≤ n)
theorem sg_app (h o : List Evt) (a : Int) (ho : ∀ e ∈ o, e.a ≠ a) : sgA (h ++ o) a = sgA h a := by
  unfold sgA
  rw [List.foldl_append]
  generalize h.foldl (sgS a) (0, 0) = s
  induction o generalizing s with
  | nil => rfl
  | cons e o ih =>
    rw [List.foldl_cons, show sgS a s e = s from if_pos (ho e (by simp))]
    exact ih (fun x hx => ho x (by simp [hx])) s
theorem sgN_app (h o : List Evt) (a n : Int) (ho : ∀ e ∈ o, e.a ≠ a) : sgN (h ++ o) a n = sgN h a n := by unfold sgN; rw [sg_app h o a ho]
theorem sgB_app (h o : List Evt) (a n : Int) (ho : ∀ e ∈ o, e.a ≠ a) : sgB (h ++ o) a n = sgB h a n := by unfold sgB; rw [sg_app h o a ho]
/-- The first so many: one more. -/
theorem hd_more (l : List Evt) (a : Int) (k : Nat) (h : k < l.length) : hdA (l.take (k + 1)) a = hdS a (hdA (l.take k) a) (l.getD k ez) := by
  have e : l.take (k + 1) = l.take k ++ [l.getD k ez] := by rw [List.take_add_one, List.getElem?_eq_getElem h]; simp [List.getD, h]
  unfold hdA
  rw [e, List.foldl_append]
  rfl
theorem sg_more (l : List Evt) (a : Int) (k : Nat) (h : k < l.length) : sgA (l.take (k + 1)) a = sgS a (sgA (l.take k) a) (l.getD k ez) := by
  have e : l.take (k + 1) = l.take k ++ [l.getD k ez] := by rw [List.take_add_one, List.getElem?_eq_getElem h]; simp [List.getD, h]
  unfold sgA
  rw [e, List.foldl_append]
  rfl
/-- Events of another object, by another task. -/
def evO (a t : Int) (x : Int) (e : Evt) : Evt := if e.a = a then ⟨t, e.k, x, e.v⟩ else ⟨t, e.k, e.a, e.v⟩
theorem evO_a {a t x : Int} (hx : x ≠ a) (e : Evt) : (evO a t x e).a ≠ a := by
  unfold evO
  split
  · exact hx
  · next h => exact h
theorem evO_all {a t x : Int} (hx : x ≠ a) (l : List Evt) : ∀ e ∈ l.map (evO a t x), e.a ≠ a := by
  intro e he
  obtain ⟨y, _, rfl⟩ := List.mem_map.1 he
  exact evO_a hx y
end Go.Proofs.YtpkjepbeeebdoaaDoor
