/-
  What the statements of layer 17 are handed: a slice of naps; it reads behind the call as it read before, if of what was there nothing has changed.
-/
import Derived.Test.YtpkfmbknbdlnpaaTimerHeld
import Derived.Test.YtpkfmbknbdlnpaaStkOpen
import Derived.Deep.Slices
import Derived.SliceStrings
import Derived.WideKeyArgs
import Derived.Lib.SmallJoins
namespace Go.Proofs.Ytpkfmbknbdlnpaa
open Go.ChangeShapes Go.WideShapes Go.ChangeAt Go.RowKit Go.Joins Go.Deep

section
variable {H : Type} {enc : TypeId × Value → H} {w : World} {fuel : Nat} {cs : List Value} {x : DataW H × List MemPlace}
theorem list2 {α : Type} {l : List α} (h : l.length = 2) : ∃ a b, l = [a, b] := by
  match l, h with
  | [a, b], _ => exact ⟨a, b, rfl⟩
theorem nap_cells (h : DataW.trod enc Try.prog w 0 (fun _ => true) true fuel 57 cs = some x) : ∃ e : Np, cs = npV e := by
  obtain ⟨xs, n, _, _, hl, hlen, hf⟩ := DataW.trod_struct Try.underlying57 h
  have hc : Try.prog.cellsOf 57 = 2 := by kernel_rfl
  rw [hc] at hl
  obtain ⟨c0, c1, rfl⟩ := list2 hl
  obtain ⟨y0, y1, rfl⟩ := list2 (show xs.length = 2 from hlen)
  have hi : Try.prog.cellsOf 3 = 1 := by kernel_rfl
  have h0 := hf 0 _ rfl
  have h1 := hf 1 _ rfl
  simp [hi] at h0 h1
  obtain ⟨d, e0, _, _⟩ := DataW.trod_int Try.underlying3 h0
  obtain ⟨p, e1, _, _⟩ := DataW.trod_int Try.underlying3 h1
  simp at e0 e1
  subst e0 e1
  exact ⟨⟨d, p⟩, rfl⟩
theorem naps_cells (h : DataW.trod enc Try.prog w 0 (fun _ => true) true fuel 22 cs = some x) : ∃ (A : Option Addr) (n c : Nat) (l : List Np), cs = [.slice A n c] ∧ Nps w A n c l := by
  have hc : Try.prog.cellsOf 57 = 2 := by kernel_rfl
  rcases open_slice Try.underlying22 h with ⟨hcs, _⟩ | ⟨a, len', cap', m, n, D, Pl, hcs, _, hl, hm, hmm, _, hx⟩
  · exact ⟨_, _, _, [], hcs, Nps.nil⟩
  · simp only [if_true] at hmm
    subst hmm
    rw [hc] at hx
    have each : ∀ i : Nat, ∃ e : Np, i < len' → (∀ j, j < 2 → w.cell? ((a.add (i * 2)).add j) = (npV e)[j]?) := by
      intro i
      by_cases hi : i < len'
      · obtain ⟨cs', h1, h2⟩ := hx i (by omega)
        obtain ⟨_, hlen, hcell⟩ := World.cells?_some h1
        obtain ⟨e, rfl⟩ := nap_cells h2
        refine ⟨e, fun _ j hj => ?_⟩
        have := hcell j (by simpa [npV] using hj)
        rw [this]
      · exact ⟨nz, fun h => absurd h hi⟩
    obtain ⟨g, hg⟩ := Classical.axiomOfChoice each
    refine ⟨some a, len', m, (List.range len').map fun i => g i, hcs, ⟨by simp, hl, fun h0 => ?_, fun h => by cases h⟩⟩
    obtain ⟨ab, ao, spot⟩ := a
    have h00 := (hg 0 h0) 0 (by omega)
    have h01 : w.cell? (((⟨ab, ao, spot⟩ : Addr).add (0 * 2)).add 0) = some (.int .i64 (g 0).d) := h00
    have hspot : spot = none := by simpa [Addr.add] using World.cell?_spot h01
    subst hspot
    rw [Addr.add_lit, Addr.add_lit] at h01
    refine ⟨ab, ao, rfl, World.block_lt_of_cell? w _ h01, fun j hj => ?_⟩
    simp only [List.length_map, List.length_range] at hj
    have h2 := (hg (j / 2) (by omega)) (j % 2) (by omega)
    rw [Addr.add_lit, Addr.add_lit, Nat.add_assoc, show j / 2 * 2 + j % 2 = j by omega] at h2
    rw [h2]
    have e1 := npsOf_get ((List.range len').map fun i => g i) (j / 2) (by simp; omega) (j % 2) (by omega)
    rw [show j / 2 * 2 + j % 2 = j by omega] at e1
    rw [e1]
    simp
/-- A slice of naps. -/
theorem open_naps {r : Reach} {b0 : Nat} {v : Value} {d : DataW H} {p : List MemPlace}
    (hv : Value.okWide Try.prog w r b0 22 v) (h : DataW.Trod enc Try.prog w 0 (fun _ => true) true 22 v d p) :
    ∃ (A : Option Addr) (n c : Nat) (l : List Np), v = .slice A n c ∧ Nps w A n c l := by
  obtain ⟨a1, len, cap, rfl⟩ := okWide_slice Try.underlying22 hv
  obtain ⟨fuel, hf⟩ := h
  obtain ⟨A, n, c, l, hcs, hp⟩ := naps_cells hf
  simp [Value.cells] at hcs
  obtain ⟨rfl, rfl, rfl⟩ := hcs
  exact ⟨_, _, _, l, rfl, hp⟩
end
theorem stays_naps {H : Type} {enc : TypeId × Value → H} {W W' : World} {v : Value} {d : DataW H} {p : List MemPlace} (h : DataW.Trod enc Try.prog W 0 (fun _ => true) true 22 v d p)
    (hb : Below W.heap.size W W') (hlt : ∀ x ∈ p, x.block < W.heap.size) {sp : Nat → Bool} (hs : ∀ x ∈ p, sp x.block = true) : DataW.Trod enc Try.prog W' 0 sp true 22 v d p :=
  WideElems.Trod_stays laidI (by kernel_rfl) (of_decide_eq_true (by kernel_rfl)) h (fun x hx => hb.same (hlt x hx)) hs
end Go.Proofs.Ytpkfmbknbdlnpaa
