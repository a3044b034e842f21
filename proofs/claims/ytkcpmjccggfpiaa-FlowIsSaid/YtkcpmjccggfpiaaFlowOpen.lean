/-
  What the statements of layer 8 are handed: threads (slices of pairs), a thread as far as it is built, by value, slices of ints and of texts; each reads behind the call as it read before, if of what was there nothing has changed.
-/
import Derived.Test.YtkcpmjccggfpiaaFlowEnd
import Derived.Test.YtkcpmjccggfpiaaScanOpen
import Derived.Deep.SlicePairs
import Derived.SliceStrings
namespace Go.Proofs.Ytkcpmjccggfpiaa
open Go.ChangeShapes Go.WideShapes Go.ChangeAt Go.RowKit Go.Joins Go.Deep

theorem laidF : laidOutB Try.prog = true := by kernel_rfl
/-- The core: a slice of pairs. -/
theorem open_pairs {H : Type} {enc : TypeId × Value → H} {w : World} {T E : TypeId} {f0 f1 : Field} {fuel : Nat} {cs : List Value} {x : DataW H × List MemPlace} (ht : Try.prog.underlying T = some (.slice E)) (he : Try.prog.underlying E = some (.struct #[f0, f1]))
    (ce : Try.prog.cellsOf E = 2) (o0 : f0.offset = 0) (o1 : f1.offset = 1) (c0 : Try.prog.cellsOf f0.type = 1) (c1 : Try.prog.cellsOf f1.type = 1) (t0 : f0.type = 3) (t1 : f1.type = 3)
    (h : DataW.trod enc Try.prog w 0 (fun _ => true) true fuel T cs = some x) : ∃ (A : Option Addr) (n c : Nat) (l : List (Int × Int)), cs = [.slice A n c] ∧ Prs w A n c l := by
  rcases open_slice_pairs ht he ce o0 o1 c0 c1 h with ⟨rfl, _⟩ | ⟨a, len, cap, m, q, V0, V1, D0, D1, P0, P1, rfl, _, hl, _, hm, _, hcell⟩
  · exact ⟨none, 0, 0, [], rfl, Prs.nil⟩
  · simp only [if_true] at hm
    subst hm
    have each : ∀ i, i < m → ∃ p : Int × Int, w.cell? (a.add (i * 2)) = some (.int .i64 p.1) ∧ w.cell? (a.add (i * 2 + 1)) = some (.int .i64 p.2) := by
      intro i hi
      obtain ⟨k0, k1, k2, k3⟩ := hcell i hi
      rw [t0] at k2
      rw [t1] at k3
      obtain ⟨z0, e0, _, _⟩ := DataW.trod_int Try.underlying3 k2
      obtain ⟨z1, e1, _, _⟩ := DataW.trod_int Try.underlying3 k3
      simp at e0 e1
      exact ⟨(z0, z1), by rw [k0, e0], by rw [k1, e1]⟩
    have each2 : ∀ i : Nat, ∃ p : Int × Int, i < m → w.cell? (a.add (i * 2)) = some (.int .i64 p.1) ∧ w.cell? (a.add (i * 2 + 1)) = some (.int .i64 p.2) := by
      intro i
      by_cases hi : i < m
      · obtain ⟨p, hp⟩ := each i hi
        exact ⟨p, fun _ => hp⟩
      · exact ⟨(0, 0), fun h => absurd h hi⟩
    obtain ⟨g, hg⟩ := Classical.axiomOfChoice each2
    refine ⟨some a, len, m, (List.range len).map fun i => g i, rfl, by simp, hl, fun h0 => ?_, fun h => by cases h⟩
    obtain ⟨ab, ao, spot⟩ := a
    have h00 := (hg 0 (by omega)).1
    have hspot : spot = none := by simpa [Addr.add] using World.cell?_spot h00
    subst hspot
    rw [Addr.add_lit] at h00
    refine ⟨ab, ao, rfl, World.block_lt_of_cell? w ⟨ab, ao + 0 * 2, none⟩ h00, fun j hj => ?_⟩
    simp only [List.length_map, List.length_range] at hj
    have hj2 := hg j (by omega)
    rw [Addr.add_lit, Addr.add_lit] at hj2
    simp only [List.getElem_map, List.getElem_range]
    exact ⟨hj2.1, by rw [Nat.add_assoc]; exact hj2.2⟩
theorem open_codes {H : Type} {enc : TypeId × Value → H} {w : World} {fuel : Nat} {cs : List Value} {x : DataW H × List MemPlace} (h : DataW.trod enc Try.prog w 0 (fun _ => true) true fuel 22 cs = some x) : ∃ (A : Option Addr) (n c : Nat) (l : List (Int × Int)), cs = [.slice A n c] ∧ Prs w A n c l :=
  open_pairs Try.underlying22 Try.underlying53 (by kernel_rfl) rfl rfl (by kernel_rfl) (by kernel_rfl) rfl rfl h
theorem open_marks {H : Type} {enc : TypeId × Value → H} {w : World} {fuel : Nat} {cs : List Value} {x : DataW H × List MemPlace} (h : DataW.trod enc Try.prog w 0 (fun _ => true) true fuel 23 cs = some x) : ∃ (A : Option Addr) (n c : Nat) (l : List (Int × Int)), cs = [.slice A n c] ∧ Prs w A n c l :=
  open_pairs Try.underlying23 Try.underlying57 (by kernel_rfl) rfl rfl (by kernel_rfl) (by kernel_rfl) rfl rfl h
theorem open_code {H : Type} {enc : TypeId × Value → H} {w : World} {r : Reach} {b0 : Nat} {v : Value} {d : DataW H} {p : List MemPlace}
    (hv : Value.okWide Try.prog w r b0 22 v) (h : DataW.Trod enc Try.prog w 0 (fun _ => true) true 22 v d p) : ∃ (A : Option Addr) (n c : Nat) (l : List (Int × Int)), v = .slice A n c ∧ Prs w A n c l := by
  obtain ⟨a1, len, cap, rfl⟩ := okWide_slice Try.underlying22 hv
  obtain ⟨fuel, hf⟩ := h
  obtain ⟨A, n, c, l, hcs, hp⟩ := open_codes hf
  simp [Value.cells] at hcs
  obtain ⟨rfl, rfl, rfl⟩ := hcs
  exact ⟨_, _, _, l, rfl, hp⟩
theorem open_build {H : Type} {enc : TypeId × Value → H} {w : World} {r : Reach} {b0 : Nat} {v : Value} {d : DataW H} {p : List MemPlace}
    (hv : Value.okWide Try.prog w r b0 25 v) (h : DataW.Trod enc Try.prog w 0 (fun _ => true) true 25 v d p) :
    ∃ (A : Option Addr) (n c : Nat) (B : Option Addr) (m d : Nat) (C : Option Addr) (k f : Nat) (b : Bd), v = .agg #[.slice A n c, .slice B m d, .slice C k f] ∧ Bl w A n c B m d C k f b := by
  obtain ⟨v0, v1, v2, y0, y1, y2, q, rfl, _, _, h0, h1, h2⟩ := open_agg3 Try.underlying25 (by kernel_rfl) (by kernel_rfl) hv h
  obtain ⟨A, n, c, l0, e0, p0⟩ := open_codes h0
  obtain ⟨B, m, d, l1, e1, p1⟩ := open_marks h1
  obtain ⟨C, k, f, l2, e2, p2⟩ := open_marks h2
  simp at e0 e1 e2
  subst e0 e1 e2
  exact ⟨A, n, c, B, m, d, C, k, f, ⟨l0, l1, l2⟩, rfl, p0, p1, p2⟩
theorem cellsIF : Try.prog.cellsOf 3 = 1 := by kernel_rfl
theorem open_row {H : Type} {enc : TypeId × Value → H} {w : World} {r : Reach} {b0 : Nat} {v : Value} {d : DataW H} {p : List MemPlace}
    (hv : Value.okWide Try.prog w r b0 51 v) (h : DataW.Trod enc Try.prog w 0 (fun _ => true) true 51 v d p) : ∃ (A : Option Addr) (n c : Nat) (l : List Int), v = .slice A n c ∧ Ints w A n l := by
  obtain ⟨a1, len, cap, rfl⟩ := okWide_slice Try.underlying51 hv
  obtain ⟨fuel, hf⟩ := h
  rcases open_ints Try.underlying51 Try.underlying3 cellsIF hf with ⟨hcs, hx⟩ | ⟨a, len', cap', zs, hcs, _, hl, hm, hz, hx, hcell, hwz⟩
  · simp [Value.cells] at hcs
    obtain ⟨rfl, rfl, rfl⟩ := hcs
    exact ⟨_, _, _, [], rfl, rfl, fun h => absurd h (by omega)⟩
  · simp [Value.cells] at hcs
    obtain ⟨rfl, rfl, rfl⟩ := hcs
    simp only [if_true] at hz
    have hlen : (zs.take len).length = len := by simp; omega
    refine ⟨_, _, _, zs.take len, rfl, hlen, fun h0 => ?_⟩
    obtain ⟨ab, ao, spot⟩ := a
    have hspot : spot = none := by simpa [Addr.add] using World.cell?_spot (hcell 0 (by omega))
    subst hspot
    have h0c := hcell 0 (by omega)
    rw [Addr.add_lit] at h0c
    refine ⟨ab, ao, rfl, World.block_lt_of_cell? w ⟨ab, ao + 0, none⟩ h0c, fun j hj => ?_⟩
    rw [hlen] at hj
    have hcj := hcell j (by omega)
    rw [Addr.add_lit] at hcj
    rw [hcj]
    have e : zs.getD j 0 = zs[j]'(by omega) := by simp [List.getD, List.getElem?_eq_getElem (show j < zs.length by omega)]
    rw [e]
    simp only [List.getElem_take]
/-- The slice A, n holds the texts l. -/
def Strs (w : World) (A : Option Addr) (n : Nat) (l : List (List UInt8)) : Prop :=
  l.length = n ∧ (0 < n → ∃ b o, A = some ⟨b, o, none⟩ ∧ b < w.heap.size ∧ ∀ j (hj : j < l.length), w.cell? ⟨b, o + j, none⟩ = some (.string ⟨l[j].toArray⟩)) ∧ ∀ s ∈ l, s.length ≤ maxLen
theorem open_texts {H : Type} {enc : TypeId × Value → H} {w : World} {r : Reach} {b0 : Nat} {v : Value} {d : DataW H} {p : List MemPlace}
    (hv : Value.okWide Try.prog w r b0 50 v) (h : DataW.Trod enc Try.prog w 0 (fun _ => true) true 50 v d p) : ∃ (A : Option Addr) (n c : Nat) (l : List (List UInt8)), v = .slice A n c ∧ Strs w A n l := by
  obtain ⟨a1, len, cap, rfl⟩ := okWide_slice Try.underlying50 hv
  obtain ⟨fuel, hf⟩ := h
  rcases open_strings Try.underlying50 Try.underlying9 (by kernel_rfl) hf with ⟨hcs, hx⟩ | ⟨a, len', cap', ss, hcs, _, hl, hm, hz, hx, hcell, hws⟩
  · simp [Value.cells] at hcs
    obtain ⟨rfl, rfl, rfl⟩ := hcs
    exact ⟨_, _, _, [], rfl, rfl, fun h => absurd h (by omega), by simp⟩
  · simp [Value.cells] at hcs
    obtain ⟨rfl, rfl, rfl⟩ := hcs
    simp only [if_true] at hz
    have hlen : ((ss.take len).map fun s => s.data.toList).length = len := by simp; omega
    refine ⟨_, _, _, (ss.take len).map fun s => s.data.toList, rfl, hlen, fun h0 => ?_, fun s hs => ?_⟩
    · obtain ⟨ab, ao, spot⟩ := a
      have hspot : spot = none := by simpa [Addr.add] using World.cell?_spot (hcell 0 (by omega))
      subst hspot
      have h0c := hcell 0 (by omega)
      rw [Addr.add_lit] at h0c
      refine ⟨ab, ao, rfl, World.block_lt_of_cell? w ⟨ab, ao + 0, none⟩ h0c, fun j hj => ?_⟩
      rw [hlen] at hj
      have hcj := hcell j (by omega)
      rw [Addr.add_lit] at hcj
      rw [hcj]
      have e : ss.getD j ByteArray.empty = ss[j]'(by omega) := by simp [List.getD, List.getElem?_eq_getElem (show j < ss.length by omega)]
      rw [e]
      simp only [List.getElem_map, List.getElem_take, Lib.mk_data]
    · obtain ⟨t, ht, rfl⟩ := List.mem_map.1 hs
      have := hws t (List.mem_of_mem_take ht)
      simpa using this
theorem stays_code {H : Type} {enc : TypeId × Value → H} {W W' : World} {v : Value} {d : DataW H} {p : List MemPlace} (h : DataW.Trod enc Try.prog W 0 (fun _ => true) true 22 v d p)
    (hb : Below W.heap.size W W') (hlt : ∀ x ∈ p, x.block < W.heap.size) {sp : Nat → Bool} (hs : ∀ x ∈ p, sp x.block = true) : DataW.Trod enc Try.prog W' 0 sp true 22 v d p :=
  WideElems.Trod_stays laidF (by kernel_rfl) (of_decide_eq_true (by kernel_rfl)) h (fun x hx => hb.same (hlt x hx)) hs
theorem stays_build {H : Type} {enc : TypeId × Value → H} {W W' : World} {v : Value} {d : DataW H} {p : List MemPlace} (h : DataW.Trod enc Try.prog W 0 (fun _ => true) true 25 v d p)
    (hb : Below W.heap.size W W') (hlt : ∀ x ∈ p, x.block < W.heap.size) {sp : Nat → Bool} (hs : ∀ x ∈ p, sp x.block = true) : DataW.Trod enc Try.prog W' 0 sp true 25 v d p :=
  WideElems.Trod_stays laidF (by kernel_rfl) (of_decide_eq_true (by kernel_rfl)) h (fun x hx => hb.same (hlt x hx)) hs
theorem stays_row {H : Type} {enc : TypeId × Value → H} {W W' : World} {v : Value} {d : DataW H} {p : List MemPlace} (h : DataW.Trod enc Try.prog W 0 (fun _ => true) true 51 v d p)
    (hb : Below W.heap.size W W') (hlt : ∀ x ∈ p, x.block < W.heap.size) {sp : Nat → Bool} (hs : ∀ x ∈ p, sp x.block = true) : DataW.Trod enc Try.prog W' 0 sp true 51 v d p :=
  WideElems.Trod_stays laidF (by kernel_rfl) (of_decide_eq_true (by kernel_rfl)) h (fun x hx => hb.same (hlt x hx)) hs
theorem stays_texts {H : Type} {enc : TypeId × Value → H} {W W' : World} {v : Value} {d : DataW H} {p : List MemPlace} (h : DataW.Trod enc Try.prog W 0 (fun _ => true) true 50 v d p)
    (hb : Below W.heap.size W W') (hlt : ∀ x ∈ p, x.block < W.heap.size) {sp : Nat → Bool} (hs : ∀ x ∈ p, sp x.block = true) : DataW.Trod enc Try.prog W' 0 sp true 50 v d p :=
  WideElems.Trod_stays laidF (by kernel_rfl) (of_decide_eq_true (by kernel_rfl)) h (fun x hx => hb.same (hlt x hx)) hs
end Go.Proofs.Ytkcpmjccggfpiaa
