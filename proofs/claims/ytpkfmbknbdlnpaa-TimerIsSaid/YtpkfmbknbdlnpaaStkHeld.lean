/-
  A stack that lies in a world: a slice of ints that reads as a list; nil let in. It reads so in every world in which of what was there nothing has changed.
-/
import Derived.Test.YtpkfmbknbdlnpaaProg
import Derived.Test.YtpkfmbknbdlnpaaBelowThen
import Derived.Test.YtpkfmbknbdlnpaaStkMath
import Derived.Below
import Derived.Laws.OwnMore
import Derived.Deep.AppendLies
import Derived.Deep.OwnRows
import Derived.Deep.Draws
import Derived.WalkKit
import Derived.WalkMore
import Derived.OwnWalk
import Derived.Lib.Hide
namespace Go.Proofs.Ytpkfmbknbdlnpaa
open Go.RowKit

/-- The cells of some ints. -/
def intsOf (l : List Int) : List Value := l.map (Value.int .i64)
theorem intsOf_length (l : List Int) : (intsOf l).length = l.length := by simp [intsOf]
theorem intsOf_append (l m : List Int) : intsOf (l ++ m) = intsOf l ++ intsOf m := by simp [intsOf]
theorem intsOf_get {l : List Int} {j : Nat} {v : Value} (h : (intsOf l)[j]? = some v) : ∃ hj : j < l.length, v = .int .i64 l[j] := by
  unfold intsOf at h
  rw [List.getElem?_map] at h
  obtain ⟨b, hb, rfl⟩ := Option.map_eq_some_iff.1 h
  obtain ⟨hj, rfl⟩ := List.getElem?_eq_some_iff.1 hb
  exact ⟨hj, rfl⟩
theorem intsOf_one (l : List Int) : ∀ v ∈ intsOf l, v.oneCell' = true := by
  intro v hv
  obtain ⟨b, _, rfl⟩ := List.mem_map.1 hv
  rfl

/-- The slice A, n, c holds the ints l. -/
def Stk (w : World) (A : Option Addr) (n c : Nat) (l : List Int) : Prop :=
  l.length = n ∧ n ≤ c ∧ (0 < n → ∃ b o, A = some ⟨b, o, none⟩ ∧ b < w.heap.size ∧ ∀ j (hj : j < l.length), w.cell? ⟨b, o + j, none⟩ = some (.int .i64 l[j])) ∧ (A = none → c = 0)

section
variable {w w' : World} {A : Option Addr} {n c : Nat} {l l' : List Int}
theorem Stk.len (h : Stk w A n c l) : l.length = n := h.1
theorem Stk.le (h : Stk w A n c l) : n ≤ c := h.2.1
theorem Stk.at0 (h : Stk w A n c l) : 0 < n → ∃ b o, A = some ⟨b, o, none⟩ ∧ b < w.heap.size ∧ ∀ j (hj : j < l.length), w.cell? ⟨b, o + j, none⟩ = some (.int .i64 l[j]) := h.2.2.1
theorem Stk.keep (h : Stk w A n c l) (hs : w.heap.size ≤ w'.heap.size) (hk : ∀ b o, b < w.heap.size → w'.cell? ⟨b, o, none⟩ = w.cell? ⟨b, o, none⟩) : Stk w' A n c l :=
  ⟨h.1, h.2.1, fun hn => by
    obtain ⟨b, o, e, hb, hc⟩ := h.at0 hn
    exact ⟨b, o, e, Nat.lt_of_lt_of_le hb hs, fun j hj => (hk b _ hb).trans (hc j hj)⟩, h.2.2.2⟩
theorem Stk.below (h : Stk w A n c l) (hb : Below w.heap.size w w') : Stk w' A n c l :=
  h.keep hb.size fun b o hlt => hb.cell (p := ⟨b, o, none⟩) hlt
theorem Stk.alloc (h : Stk w A n c l) (o : Obj) : Stk (w.alloc o) A n c l := h.below ((Below.refl _ _).alloc (Nat.le_refl _) o)
theorem Stk.drewN (h : Stk w A n c l) (k : Nat) : Stk (w.drewN k) A n c l := h
theorem Stk.drew (h : Stk w A n c l) : Stk w.drew A n c l := h
theorem Stk.as (h : Stk w A n c l) (e : l = l') : Stk w A n c l' := e ▸ h
theorem Stk.nil : Stk w none 0 0 [] := ⟨rfl, Nat.zero_le _, fun h => absurd h (by omega), fun _ => rfl⟩
/-- A place of it. -/
theorem Stk.at_ (h : Stk w A n c l) (q : Nat) (hq : q < n) : ∃ b o, A = some ⟨b, o, none⟩ ∧ b < w.heap.size ∧ w.cell? ⟨b, o + q, none⟩ = some (.int .i64 (l.getD q 0)) := by
  obtain ⟨b, o, rfl, hb, hc⟩ := h.at0 (by omega)
  have hl : q < l.length := by rw [h.1]; exact hq
  exact ⟨b, o, rfl, hb, by rw [hc q hl]; simp [List.getD, hl]⟩
/-- As what is appended: with an address, or none and nothing in it. -/
theorem Stk.src {a : Addr} (h : Stk w (some a) n c l) : ∀ j u, (intsOf l)[j]? = some u → w.cell? (a.add j) = some u := by
  intro j u hu
  obtain ⟨hj, rfl⟩ := intsOf_get hu
  obtain ⟨b, o, e, _, hc⟩ := h.at0 (by have := h.1; omega)
  cases e
  rw [Addr.add_lit]
  exact hc j hj
theorem Stk.none_ (h : Stk w none n c l) : n = 0 ∧ c = 0 ∧ l = [] := by
  have h0 : n = 0 := by
    rcases Nat.eq_zero_or_pos n with h0 | h0
    · exact h0
    · obtain ⟨b, o, e, _⟩ := h.at0 h0; cases e
  subst h0
  exact ⟨rfl, h.2.2.2 rfl, List.eq_nil_of_length_eq_zero h.1⟩
/-- Out of a row of the call's own. -/
theorem Stk.of_own {base : Nat} {e : TypeId} (h : w.ownsRow base e 1 (.slice A n c) n (intsOf l)) : Stk w A n c l := by
  have hl : l.length = n := by have := h.1; rw [intsOf_length] at this; omega
  refine ⟨hl, ?_, fun hn => ?_, fun ha => ?_⟩
  rotate_right
  · rcases h.2 with ⟨e1, _⟩ | ⟨g, cap, cur, hv, _⟩
    · injection e1
    · injection hv with h1 _ _; rw [ha] at h1; cases h1
  · rcases h.2 with ⟨e1, e2⟩ | ⟨g, cap, cur, hv, _, _, hnc, _⟩
    · omega
    · injection hv with _ _ h3; omega
  · obtain ⟨g, cap, hv, _, hlt⟩ := h.form hn
    injection hv with h1 _ _
    subst h1
    refine ⟨g, 0, rfl, hlt, fun j hj => ?_⟩
    have := h.cells (g := g) rfl j (.int .i64 l[j]) (by simp [intsOf, hj])
    rw [Addr.add_lit] at this
    exact this
end
theorem sizeI (w : World) : (Go.sizeOf 3).run Try.prog w = .ok 1 w := by
  have h : (Try.prog.info? 3).map (·.size) = some 1 := by kernel_rfl
  obtain ⟨i, hi, hs⟩ := Option.map_eq_some_iff.1 h
  simp [Go.sizeOf, typeInfo, hi, hs]
theorem elemI : Try.prog.elem 30 = 3 := by kernel_rfl
theorem underI : Try.prog.underlying 30 = some (.slice (Try.prog.elem 30)) := by rw [elemI]; exact Try.underlying30
theorem infoI : (Try.prog.info? 3).map (fun i => (i.zero, i.size, i.bytes)) = some (some (.int .i64 0), 1, 8) := by kernel_rfl
theorem cut_none {A : Option Addr} {c k : Nat} (h : (if c = k then A else A.map (·.add k)) = none) : A = none := by
  split at h
  · exact h
  · simpa using h
/-- What stands ahead of a place. -/
theorem Stk.head {w : World} {A : Option Addr} {n c : Nat} {l : List Int} (h : Stk w A n c l) (k : Nat) (hk : k ≤ n) :
    ∃ A' c', (∀ W : World, (Instr.slice 30 (.slice A n c) none (some (.int .i64 (k : Int))) none).run Try.prog W = .ok (.slice A' k c') W) ∧ Stk w A' k c' (l.take k) := by
  obtain ⟨rfl, hc, hp, hz⟩ := h
  refine ⟨A, c, fun W => ?_, by simp; omega, by omega, fun h0 => ?_, hz⟩
  · rw [run_slice_h (P := Try.prog) W 30 A l.length c underI .i64 (k : Int) (by omega) (by omega), elemI, sizeI]
    show Result.ok (sliced A 0 (k : Int).toNat c 1) W = _
    unfold sliced
    simp
    intro _
    cases A <;> simp [Addr.add]
  · obtain ⟨b, o, rfl, hb, hcell⟩ := hp (by omega)
    refine ⟨b, o, rfl, hb, fun j hj => ?_⟩
    simp at hj
    rw [hcell j (by omega)]
    simp
/-- What stands from a place on. -/
theorem Stk.tail {w : World} {A : Option Addr} {n c : Nat} {l : List Int} (h : Stk w A n c l) (k : Nat) (hk : k ≤ n) :
    ∃ A' c', (∀ W : World, (Instr.slice 30 (.slice A n c) (some (.int .i64 (k : Int))) none none).run Try.prog W = .ok (.slice A' (n - k) c') W) ∧ Stk w A' (n - k) c' (l.drop k) := by
  obtain ⟨rfl, hc, hp, hz⟩ := h
  refine ⟨if c = k then A else A.map (·.add k), c - k, fun W => ?_, by simp, by omega, fun h0 => ?_, fun ha => by rw [hz (cut_none ha)]; omega⟩
  · rw [run_slice_l (P := Try.prog) W 30 A l.length c underI .i64 (k : Int) (by omega) (by omega), elemI, sizeI]
    show Result.ok (sliced A (k : Int).toNat l.length c 1) W = _
    unfold sliced
    simp
  · obtain ⟨b, o, rfl, hb, hcell⟩ := hp (by omega)
    rw [if_neg (by omega)]
    refine ⟨b, o + k, by simp [Addr.add_lit], hb, fun j hj => ?_⟩
    simp at hj
    have e := hcell (k + j) (by omega)
    rw [Nat.add_assoc, e]
    simp
/-- What stands between two places. -/
theorem Stk.mid {w : World} {A : Option Addr} {n c : Nat} {l : List Int} (h : Stk w A n c l) (lo hi : Nat) (hk : lo ≤ hi) (hn : hi ≤ n) :
    ∃ A' c', (∀ W : World, (Instr.slice 30 (.slice A n c) (some (.int .i64 (lo : Int))) (some (.int .i64 (hi : Int))) none).run Try.prog W = .ok (.slice A' (hi - lo) c') W) ∧ Stk w A' (hi - lo) c' ((l.drop lo).take (hi - lo)) := by
  obtain ⟨rfl, hc, hp, hz⟩ := h
  refine ⟨if c = lo then A else A.map (·.add lo), c - lo, fun W => ?_, by simp; omega, by omega, fun h0 => ?_, fun ha => by rw [hz (cut_none ha)]; omega⟩
  · rw [run_slice_lh (P := Try.prog) W 30 A l.length c underI .i64 .i64 (lo : Int) (hi : Int) (by omega) (by omega) (by omega), elemI, sizeI]
    show Result.ok (sliced A (lo : Int).toNat (hi : Int).toNat c 1) W = _
    unfold sliced
    simp
  · obtain ⟨b, o, rfl, hb, hcell⟩ := hp (by omega)
    rw [if_neg (by omega)]
    refine ⟨b, o + lo, by simp [Addr.add_lit], hb, fun j hj => ?_⟩
    simp at hj
    have e := hcell (lo + j) (by omega)
    rw [Nat.add_assoc, e]
    simp
theorem below_drewN {B : Nat} {a w : World} (h : Below B a w) (n : Nat) : Below B a (w.drewN n) := ⟨h.os, h.tape, h.output, h.size, h.block⟩
end Go.Proofs.Ytpkfmbknbdlnpaa
