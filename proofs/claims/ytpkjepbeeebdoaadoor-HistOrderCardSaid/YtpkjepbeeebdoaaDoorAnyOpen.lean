/-
  A slice of any kind that is handed in, each element of so many cells: it reads as a list.
-/
import Derived.Test.YtpkjepbeeebdoaaDoorAnyRows
import Derived.Test.YtpkjepbeeebdoaaDoorKeeps
import Derived.Deep.Slices
import Derived.SliceStrings
import Derived.WideKeyArgs
import Derived.Lib.SmallJoins
import Derived.ProofKit
import Derived.OpenShut
import Derived.Carry
import Derived.ChangeSlices
namespace Go.Proofs.YtpkjepbeeebdoaaDoor
open Go.ChangeShapes Go.WideShapes Go.ChangeAt Go.RowKit Go.Joins Go.Deep

theorem laidA : laidOutB Tryd.prog = true := by kernel_rfl
section
variable {H : Type} {enc : TypeId × Value → H} {w : World} {fuel : Nat} {cs : List Value} {x : DataW H × List MemPlace} {α : Type} {K : Kd α}
theorem rows_cells {T E : TypeId} (hT : Tryd.prog.underlying T = some (.slice E)) (hc : Tryd.prog.cellsOf E = K.k) (hk : 0 < K.k)
    (he : ∀ {fuel : Nat} {cs : List Value} {x : DataW H × List MemPlace}, DataW.trod enc Tryd.prog w 0 (fun _ => true) true fuel E cs = some x → ∃ e : α, cs = K.v e)
    (h : DataW.trod enc Tryd.prog w 0 (fun _ => true) true fuel T cs = some x) : ∃ (A : Option Addr) (n c : Nat) (l : List α), cs = [.slice A n c] ∧ Rw K w A n c l := by
  rcases open_slice hT h with ⟨hcs, _⟩ | ⟨a, len', cap', m, n, D, Pl, hcs, _, hl, hm, hmm, _, hx⟩
  · exact ⟨_, _, _, [], hcs, Rw.nil⟩
  · simp only [if_true] at hmm
    subst hmm
    rw [hc] at hx
    have each : ∀ i : Nat, ∃ e : α, i < len' → (∀ j, j < K.k → w.cell? ((a.add (i * K.k)).add j) = (K.v e)[j]?) := by
      intro i
      by_cases hi : i < len'
      · obtain ⟨cs', h1, h2⟩ := hx i (by omega)
        obtain ⟨_, hlen, hcell⟩ := World.cells?_some h1
        obtain ⟨e, rfl⟩ := he h2
        exact ⟨e, fun _ j hj => hcell j hj⟩
      · exact ⟨K.z, fun h => absurd h hi⟩
    obtain ⟨g, hg⟩ := Classical.axiomOfChoice each
    refine ⟨some a, len', m, (List.range len').map fun i => g i, hcs, ⟨by simp, hl, fun h0 => ?_, fun h => by cases h⟩⟩
    obtain ⟨ab, ao, spot⟩ := a
    have h01 := (hg 0 h0) 0 hk
    have h02 : (K.v (g 0))[0]? = some ((K.v (g 0))[0]'(by rw [K.len]; exact hk)) := List.getElem?_eq_getElem _
    rw [h02] at h01
    have hspot : spot = none := by simpa [Addr.add] using World.cell?_spot h01
    subst hspot
    rw [Addr.add_lit, Addr.add_lit] at h01
    refine ⟨ab, ao, rfl, World.block_lt_of_cell? w _ h01, fun j hj => ?_⟩
    simp only [List.length_map, List.length_range] at hj
    have hd : j / K.k < len' := (Nat.div_lt_iff_lt_mul hk).2 hj
    have hj2 : j / K.k * K.k + j % K.k = j := by rw [Nat.mul_comm]; exact Nat.div_add_mod j K.k
    have h2 := (hg (j / K.k) hd) (j % K.k) (Nat.mod_lt _ hk)
    rw [Addr.add_lit, Addr.add_lit, Nat.add_assoc, hj2] at h2
    rw [h2]
    have e1 := Kd.get (K := K) ((List.range len').map fun i => g i) (j / K.k) (by simpa using hd) (j % K.k) (Nat.mod_lt _ hk)
    rw [hj2] at e1
    rw [e1]
    simp
theorem rows_len {T E : TypeId} {A : Option Addr} {n c : Nat} (hT : Tryd.prog.underlying T = some (.slice E)) (h : DataW.trod enc Tryd.prog w 0 (fun _ => true) true fuel T [.slice A n c] = some x) : n ≤ maxLen := by
  rcases open_slice hT h with ⟨hcs, _⟩ | ⟨a, len', cap', m, k, D, Pl, hcs, _, hl, hm, hmm, _, hx⟩
  · simp at hcs
    obtain ⟨_, rfl, _⟩ := hcs
    exact Nat.zero_le _
  · simp at hcs
    obtain ⟨_, rfl, _⟩ := hcs
    omega
set_option maxRecDepth 8000 in
/-- A slice of any kind. -/
theorem open_rows {T E : TypeId} {r : Reach} {b0 : Nat} {v : Value} {d : DataW H} {p : List MemPlace} (hT : Tryd.prog.underlying T = some (.slice E)) (hc : Tryd.prog.cellsOf E = K.k) (hk : 0 < K.k)
    (he : ∀ {fuel : Nat} {cs : List Value} {x : DataW H × List MemPlace}, DataW.trod enc Tryd.prog w 0 (fun _ => true) true fuel E cs = some x → ∃ e : α, cs = K.v e)
    (hv : Value.okWide Tryd.prog w r b0 T v) (h : DataW.Trod enc Tryd.prog w 0 (fun _ => true) true T v d p) :
    ∃ (A : Option Addr) (n c : Nat) (l : List α), v = .slice A n c ∧ Rw K w A n c l := by
  obtain ⟨a1, len, cap, rfl⟩ := okWide_slice (P := Tryd.prog) (t := T) (e := E) hT hv
  obtain ⟨fuel, hf⟩ := h
  obtain ⟨A, n, c, l, hcs, hp⟩ := rows_cells hT hc hk (fun h => he h) hf
  simp [Value.cells] at hcs
  obtain ⟨rfl, rfl, rfl⟩ := hcs
  exact ⟨_, _, _, l, rfl, hp⟩
/-- The same, where each element has a property. -/
theorem rows_cellsQ {T E : TypeId} (Q : α → Prop) (hT : Tryd.prog.underlying T = some (.slice E)) (hc : Tryd.prog.cellsOf E = K.k) (hk : 0 < K.k)
    (he : ∀ {fuel : Nat} {cs : List Value} {x : DataW H × List MemPlace}, DataW.trod enc Tryd.prog w 0 (fun _ => true) true fuel E cs = some x → ∃ e : α, cs = K.v e ∧ Q e)
    (h : DataW.trod enc Tryd.prog w 0 (fun _ => true) true fuel T cs = some x) : ∃ (A : Option Addr) (n c : Nat) (l : List α), cs = [.slice A n c] ∧ Rw K w A n c l ∧ ∀ e ∈ l, Q e := by
  rcases open_slice hT h with ⟨hcs, _⟩ | ⟨a, len', cap', m, n, D, Pl, hcs, _, hl, hm, hmm, _, hx⟩
  · exact ⟨_, _, _, [], hcs, Rw.nil, fun e h => by cases h⟩
  · simp only [if_true] at hmm
    subst hmm
    rw [hc] at hx
    have each : ∀ i : Nat, ∃ e : α, i < len' → (Q e ∧ ∀ j, j < K.k → w.cell? ((a.add (i * K.k)).add j) = (K.v e)[j]?) := by
      intro i
      by_cases hi : i < len'
      · obtain ⟨cs', h1, h2⟩ := hx i (by omega)
        obtain ⟨_, hlen, hcell⟩ := World.cells?_some h1
        obtain ⟨e, rfl, hq⟩ := he h2
        exact ⟨e, fun _ => ⟨hq, fun j hj => hcell j hj⟩⟩
      · exact ⟨K.z, fun h => absurd h hi⟩
    obtain ⟨g, hg⟩ := Classical.axiomOfChoice each
    refine ⟨some a, len', m, (List.range len').map fun i => g i, hcs, ⟨by simp, hl, fun h0 => ?_, fun h => by cases h⟩, fun e h => by
      obtain ⟨i, hi, rfl⟩ := List.mem_map.1 h
      exact (hg i (List.mem_range.1 hi)).1⟩
    obtain ⟨ab, ao, spot⟩ := a
    have h01 := (hg 0 h0).2 0 hk
    have h02 : (K.v (g 0))[0]? = some ((K.v (g 0))[0]'(by rw [K.len]; exact hk)) := List.getElem?_eq_getElem _
    rw [h02] at h01
    have hspot : spot = none := by simpa [Addr.add] using World.cell?_spot h01
    subst hspot
    rw [Addr.add_lit, Addr.add_lit] at h01
    refine ⟨ab, ao, rfl, World.block_lt_of_cell? w _ h01, fun j hj => ?_⟩
    simp only [List.length_map, List.length_range] at hj
    have hd : j / K.k < len' := (Nat.div_lt_iff_lt_mul hk).2 hj
    have hj2 : j / K.k * K.k + j % K.k = j := by rw [Nat.mul_comm]; exact Nat.div_add_mod j K.k
    have h2 := (hg (j / K.k) hd).2 (j % K.k) (Nat.mod_lt _ hk)
    rw [Addr.add_lit, Addr.add_lit, Nat.add_assoc, hj2] at h2
    rw [h2]
    have e1 := Kd.get (K := K) ((List.range len').map fun i => g i) (j / K.k) (by simpa using hd) (j % K.k) (Nat.mod_lt _ hk)
    rw [hj2] at e1
    rw [e1]
    simp
set_option maxRecDepth 8000 in
theorem open_rowsQ {T E : TypeId} (Q : α → Prop) {r : Reach} {b0 : Nat} {v : Value} {d : DataW H} {p : List MemPlace} (hT : Tryd.prog.underlying T = some (.slice E)) (hc : Tryd.prog.cellsOf E = K.k) (hk : 0 < K.k)
    (he : ∀ {fuel : Nat} {cs : List Value} {x : DataW H × List MemPlace}, DataW.trod enc Tryd.prog w 0 (fun _ => true) true fuel E cs = some x → ∃ e : α, cs = K.v e ∧ Q e)
    (hv : Value.okWide Tryd.prog w r b0 T v) (h : DataW.Trod enc Tryd.prog w 0 (fun _ => true) true T v d p) :
    ∃ (A : Option Addr) (n c : Nat) (l : List α), v = .slice A n c ∧ Rw K w A n c l ∧ ∀ e ∈ l, Q e := by
  obtain ⟨a1, len, cap, rfl⟩ := okWide_slice (P := Tryd.prog) (t := T) (e := E) hT hv
  obtain ⟨fuel, hf⟩ := h
  obtain ⟨A, n, c, l, hcs, hp⟩ := rows_cellsQ Q hT hc hk (fun h => he h) hf
  simp [Value.cells] at hcs
  obtain ⟨rfl, rfl, rfl⟩ := hcs
  exact ⟨_, _, _, l, rfl, hp⟩
end
end Go.Proofs.YtpkjepbeeebdoaaDoor
