/-
  What the statements of layer 11 are handed: dictionaries (slices of words), a word by value, a place by value; each reads behind the call as it read before, if of what was there nothing has changed.
-/
import Derived.Test.YtkpomphjicoaeaaDictHeld
import Derived.Test.YtkpomphjicoaeaaScanOpen
import Derived.Deep.Slices
import Derived.SliceStrings
import Derived.WideKeyArgs
namespace Go.Proofs.Ytkpomphjicoaeaa
open Go.ChangeShapes Go.WideShapes Go.ChangeAt Go.RowKit Go.Joins Go.Deep

theorem laidD : laidOutB Try.prog = true := by kernel_rfl
section
variable {H : Type} {enc : TypeId × Value → H} {w : World} {fuel : Nat} {cs : List Value} {x : DataW H × List MemPlace}
theorem list2 {α : Type} {l : List α} (h : l.length = 2) : ∃ a b, l = [a, b] := by
  match l, h with
  | [a, b], _ => exact ⟨a, b, rfl⟩
theorem list6 {α : Type} {l : List α} (h : l.length = 6) : ∃ a b c d e f, l = [a, b, c, d, e, f] := by
  match l, h with
  | [a, b, c, d, e, f], _ => exact ⟨a, b, c, d, e, f, rfl⟩
theorem place_cells (h : DataW.trod enc Try.prog w 0 (fun _ => true) true fuel 24 cs = some x) : ∃ t p : Int, cs = [.int .i64 t, .int .i64 p] := by
  obtain ⟨xs, n, _, _, hl, hlen, hf⟩ := DataW.trod_struct Try.underlying24 h
  have hc : Try.prog.cellsOf 24 = 2 := by kernel_rfl
  rw [hc] at hl
  obtain ⟨c0, c1, rfl⟩ := list2 hl
  obtain ⟨y0, y1, rfl⟩ := list2 (show xs.length = 2 from hlen)
  have hi : Try.prog.cellsOf 3 = 1 := by kernel_rfl
  have h0 := hf 0 _ rfl
  have h1 := hf 1 _ rfl
  simp [hi] at h0 h1
  obtain ⟨t, e0, _, _⟩ := DataW.trod_int Try.underlying3 h0
  obtain ⟨p, e1, _, _⟩ := DataW.trod_int Try.underlying3 h1
  simp at e0 e1
  subst e0 e1
  exact ⟨t, p, rfl⟩
theorem word_cells {T : TypeId} {f0 f1 f2 f3 f4 : Field} (hs : Try.prog.underlying T = some (.struct #[f0, f1, f2, f3, f4])) (hc : Try.prog.cellsOf T = 6)
    (o0 : f0.offset = 0) (o1 : f1.offset = 1) (o2 : f2.offset = 2) (o3 : f3.offset = 3) (o4 : f4.offset = 4)
    (t0 : f0.type = 9) (t1 : f1.type = 4) (t2 : f2.type = 3) (t3 : f3.type = 3) (t4 : f4.type = 24)
    (h : DataW.trod enc Try.prog w 0 (fun _ => true) true fuel T cs = some x) : ∃ e : En, cs = enV e ∧ e.s.size ≤ maxLen ∧ e.v ≤ 9223372036854775807 := by
  obtain ⟨xs, n, _, _, hl, hlen, hf⟩ := DataW.trod_struct hs h
  rw [hc] at hl
  obtain ⟨c0, c1, c2, c3, c4, c5, rfl⟩ := list6 hl
  have hi : Try.prog.cellsOf 3 = 1 := by kernel_rfl
  have hb : Try.prog.cellsOf 4 = 1 := by kernel_rfl
  have hst : Try.prog.cellsOf 9 = 1 := by kernel_rfl
  have hp : Try.prog.cellsOf 24 = 2 := by kernel_rfl
  have hsz : xs.length = 5 := hlen
  have g0 := hf 0 f0 rfl
  have g1 := hf 1 f1 rfl
  have g2 := hf 2 f2 rfl
  have g3 := hf 3 f3 rfl
  have g4 := hf 4 f4 rfl
  rw [o0, t0, hst, List.getElem?_eq_getElem (by omega)] at g0
  rw [o1, t1, hb, List.getElem?_eq_getElem (by omega)] at g1
  rw [o2, t2, hi, List.getElem?_eq_getElem (by omega)] at g2
  rw [o3, t3, hi, List.getElem?_eq_getElem (by omega)] at g3
  rw [o4, t4, hp, List.getElem?_eq_getElem (by omega)] at g4
  obtain ⟨S, e0, _, hS⟩ := DataW.trod_string Try.underlying9 g0
  obtain ⟨m, e1, _⟩ := DataW.trod_bool Try.underlying4 g1
  obtain ⟨k, e2, _, _⟩ := DataW.trod_int Try.underlying3 g2
  obtain ⟨v, e3, _, hv⟩ := DataW.trod_int Try.underlying3 g3
  obtain ⟨t, p, e4⟩ := place_cells g4
  simp at e0 e1 e2 e3 e4
  obtain ⟨e4, e5⟩ := e4
  subst e0 e1 e2 e3 e4 e5
  exact ⟨⟨S, m, k, v, t, p⟩, rfl, hS, (bounds_i64 hv).2⟩
theorem wordR_cells (h : DataW.trod enc Try.prog w 0 (fun _ => true) true fuel 26 cs = some x) : ∃ e : En, cs = enV e ∧ e.s.size ≤ maxLen ∧ e.v ≤ 9223372036854775807 :=
  word_cells Try.underlying26 (by kernel_rfl) rfl rfl rfl rfl rfl rfl rfl rfl rfl rfl h
/-- A dictionary. -/
theorem open_ens {r : Reach} {b0 : Nat} {v : Value} {d : DataW H} {p : List MemPlace}
    (hv : Value.okWide Try.prog w r b0 22 v) (h : DataW.Trod enc Try.prog w 0 (fun _ => true) true 22 v d p) :
    ∃ (A : Option Addr) (n c : Nat) (l : List En), v = .slice A n c ∧ Ens w A n c l ∧ n ≤ maxLen ∧ ∀ e ∈ l, e.v ≤ 9223372036854775807 := by
  obtain ⟨a1, len, cap, rfl⟩ := okWide_slice Try.underlying22 hv
  obtain ⟨fuel, hf⟩ := h
  have hc : Try.prog.cellsOf 26 = 6 := by kernel_rfl
  rcases open_slice Try.underlying22 hf with ⟨hcs, _⟩ | ⟨a, len', cap', m, n, D, Pl, hcs, _, hl, hm, hmm, _, hx⟩
  · simp [Value.cells] at hcs
    obtain ⟨rfl, rfl, rfl⟩ := hcs
    exact ⟨_, _, _, [], rfl, Ens.nil, Nat.zero_le _, by simp⟩
  · simp [Value.cells] at hcs
    obtain ⟨rfl, rfl, rfl⟩ := hcs
    simp only [if_true] at hmm
    subst hmm
    rw [hc] at hx
    have each : ∀ i : Nat, ∃ e : En, i < len → (∀ j, j < 6 → w.cell? ((a.add (i * 6)).add j) = (enV e)[j]?) ∧ e.v ≤ 9223372036854775807 := by
      intro i
      by_cases hi : i < len
      · obtain ⟨cs', h1, h2⟩ := hx i (by omega)
        obtain ⟨_, hlen, hcell⟩ := World.cells?_some h1
        obtain ⟨e, rfl, _, hv⟩ := wordR_cells h2
        refine ⟨e, fun _ => ⟨fun j hj => ?_, hv⟩⟩
        have := hcell j (by simpa [enV] using hj)
        rw [this]
      · exact ⟨e0, fun h => absurd h hi⟩
    obtain ⟨g, hg⟩ := Classical.axiomOfChoice each
    refine ⟨some a, len, m, (List.range len).map fun i => g i, rfl, ⟨by simp, hl, fun h0 => ?_, fun h => by cases h⟩, by omega, fun e he => ?_⟩
    rotate_left
    · obtain ⟨i, hi, rfl⟩ := List.mem_map.1 he
      exact (hg i (List.mem_range.1 hi)).2
    obtain ⟨ab, ao, spot⟩ := a
    have h00 := (hg 0 h0).1 0 (by omega)
    have h01 : w.cell? (((⟨ab, ao, spot⟩ : Addr).add (0 * 6)).add 0) = some (.string (g 0).s) := h00
    have hspot : spot = none := by simpa [Addr.add] using World.cell?_spot h01
    subst hspot
    rw [Addr.add_lit, Addr.add_lit] at h01
    refine ⟨ab, ao, rfl, World.block_lt_of_cell? w _ h01, fun j hj => ?_⟩
    simp only [List.length_map, List.length_range] at hj
    have h2 := (hg (j / 6) (by omega)).1 (j % 6) (by omega)
    rw [Addr.add_lit, Addr.add_lit, Nat.add_assoc, show j / 6 * 6 + j % 6 = j by omega] at h2
    rw [h2]
    have e1 := ensOf_get ((List.range len).map fun i => g i) (j / 6) (by simp; omega) (j % 6) (by omega)
    rw [show j / 6 * 6 + j % 6 = j by omega] at e1
    rw [e1]
    simp
/-- A word by value. -/
theorem open_word {r : Reach} {b0 : Nat} {v : Value} {d : DataW H} {p : List MemPlace}
    (hv : Value.okWide Try.prog w r b0 26 v) (h : DataW.Trod enc Try.prog w 0 (fun _ => true) true 26 v d p) :
    ∃ e : En, v = .agg #[.string e.s, .bool e.m, .int .i64 e.k, .int .i64 e.v, .int .i64 e.t, .int .i64 e.p] ∧ e.s.size ≤ maxLen := by
  obtain ⟨cs, rfl, hsz⟩ := okWide_struct Try.underlying26 hv
  obtain ⟨fuel, hf⟩ := h
  obtain ⟨e, he, hS, _⟩ := wordR_cells hf
  obtain ⟨l⟩ := cs
  simp [Value.cells] at he
  subst he
  exact ⟨e, rfl, hS⟩
/-- A place by value. -/
theorem open_place {r : Reach} {b0 : Nat} {v : Value} {d : DataW H} {p : List MemPlace}
    (hv : Value.okWide Try.prog w r b0 24 v) (h : DataW.Trod enc Try.prog w 0 (fun _ => true) true 24 v d p) :
    ∃ t q : Int, v = .agg #[.int .i64 t, .int .i64 q] := by
  obtain ⟨cs, rfl, hsz⟩ := okWide_struct Try.underlying24 hv
  obtain ⟨fuel, hf⟩ := h
  obtain ⟨t, q, he⟩ := place_cells hf
  obtain ⟨l⟩ := cs
  simp [Value.cells] at he
  subst he
  exact ⟨t, q, rfl⟩
end
theorem stays_ens {H : Type} {enc : TypeId × Value → H} {W W' : World} {v : Value} {d : DataW H} {p : List MemPlace} (h : DataW.Trod enc Try.prog W 0 (fun _ => true) true 22 v d p)
    (hb : Below W.heap.size W W') (hlt : ∀ x ∈ p, x.block < W.heap.size) {sp : Nat → Bool} (hs : ∀ x ∈ p, sp x.block = true) : DataW.Trod enc Try.prog W' 0 sp true 22 v d p :=
  WideElems.Trod_stays laidD (by kernel_rfl) (of_decide_eq_true (by kernel_rfl)) h (fun x hx => hb.same (hlt x hx)) hs
theorem stays_word {H : Type} {enc : TypeId × Value → H} {W W' : World} {v : Value} {d : DataW H} {p : List MemPlace} (h : DataW.Trod enc Try.prog W 0 (fun _ => true) true 26 v d p)
    (hb : Below W.heap.size W W') (hlt : ∀ x ∈ p, x.block < W.heap.size) {sp : Nat → Bool} (hs : ∀ x ∈ p, sp x.block = true) : DataW.Trod enc Try.prog W' 0 sp true 26 v d p :=
  WideElems.Trod_stays laidD (by kernel_rfl) (of_decide_eq_true (by kernel_rfl)) h (fun x hx => hb.same (hlt x hx)) hs
theorem stays_place {H : Type} {enc : TypeId × Value → H} {W W' : World} {v : Value} {d : DataW H} {p : List MemPlace} (h : DataW.Trod enc Try.prog W 0 (fun _ => true) true 24 v d p)
    (hb : Below W.heap.size W W') (hlt : ∀ x ∈ p, x.block < W.heap.size) {sp : Nat → Bool} (hs : ∀ x ∈ p, sp x.block = true) : DataW.Trod enc Try.prog W' 0 sp true 24 v d p :=
  WideElems.Trod_stays laidD (by kernel_rfl) (of_decide_eq_true (by kernel_rfl)) h (fun x hx => hb.same (hlt x hx)) hs
end Go.Proofs.Ytkpomphjicoaeaa
