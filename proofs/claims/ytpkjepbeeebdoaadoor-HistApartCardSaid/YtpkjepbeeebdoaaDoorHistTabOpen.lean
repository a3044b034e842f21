/-
  What the statements of layer 21 list of package hist's table, and what follows of it: it lies as it should.
-/
import Derived.Test.YtpkjepbeeebdoaaDoorRows
import Derived.Test.YtpkjepbeeebdoaaDoorHistOpen
import Derived.Test.YtpkjepbeeebdoaaDoorHistTab
import Derived.Lib.LaidU8
import Derived.LaidMore
import Derived.Lay
import Derived.Stop.Joined
import Derived.KernelRfl
namespace Go.Proofs.YtpkjepbeeebdoaaDoor
open Go.RowKit Go.Shelf Go.Lib

theorem list5 {α : Type} {l : List α} (h : l.length = 5) : ∃ a b c d e, l = [a, b, c, d, e] := by
  match l, h with
  | [a, b, c, d, e], _ => exact ⟨a, b, c, d, e, rfl⟩
section
variable {H : Type} {enc : TypeId × Value → H} {w : World} {base : Nat} {sp : Nat → Bool} {held : Bool} {fuel : Nat} {cs : List Value} {q : List MemPlace}
theorem row_cells {r : Krow} (h : DataW.trod enc Tryd.prog w base sp held fuel 41 cs = some (.agg [.lit (.int .i64 r.s), .lit (.int .i64 r.o), .lit (.int .i64 r.f), .lit (.int .i64 r.d), .lit (.bool r.r)], q)) :
    cs = [.int .i64 r.s, .int .i64 r.o, .int .i64 r.f, .int .i64 r.d, .bool r.r] := by
  obtain ⟨xs, n, _, hx, hl, hlen, hf⟩ := DataW.trod_struct Tryd.underlying41 h
  have hc : Tryd.prog.cellsOf 41 = 5 := by kernel_rfl
  rw [hc] at hl
  obtain ⟨c0, c1, c2, c3, c4, rfl⟩ := list5 hl
  obtain ⟨y0, y1, y2, y3, y4, rfl⟩ := list5 (show xs.length = 5 from hlen)
  have hi : Tryd.prog.cellsOf 3 = 1 := by kernel_rfl
  have hj : Tryd.prog.cellsOf 4 = 1 := by kernel_rfl
  have h0 := hf 0 _ rfl
  have h1 := hf 1 _ rfl
  have h2 := hf 2 _ rfl
  have h3 := hf 3 _ rfl
  have h4 := hf 4 _ rfl
  simp [hi, hj] at h0 h1 h2 h3 h4
  simp at hx
  obtain ⟨t0, e0, g0, _⟩ := DataW.trod_int Tryd.underlying3 h0
  obtain ⟨t1, e1, g1, _⟩ := DataW.trod_int Tryd.underlying3 h1
  obtain ⟨t2, e2, g2, _⟩ := DataW.trod_int Tryd.underlying3 h2
  obtain ⟨t3, e3, g3, _⟩ := DataW.trod_int Tryd.underlying3 h3
  obtain ⟨t4, e4, g4⟩ := DataW.trod_bool Tryd.underlying4 h4
  subst g0 g1 g2 g3 g4
  simp at hx e0 e1 e2 e3 e4
  obtain ⟨⟨rfl, rfl, rfl, rfl, rfl⟩, _⟩ := hx
  rw [e0, e1, e2, e3, e4]
end
/-- What the statements list. -/
def laidL : List (String × DataW Unit) := Rows.histOrderRow.laid
theorem laid_rows : (Rows.laid_tenterhook_hist_rows : DataW Unit) = .agg ((List.range 19).map fun i => .agg [.lit (.int .i64 (kT.getD i kz).s), .lit (.int .i64 (kT.getD i kz).o), .lit (.int .i64 (kT.getD i kz).f), .lit (.int .i64 (kT.getD i kz).d), .lit (.bool (kT.getD i kz).r)]) := by kernel_rfl
theorem tab_of_laid {W : World} (h : laidMetH Tryd.prog laidL W) : TabH W := by
  rw [MakeChecks.laidMetH_plain _ _ _ (by kernel_rfl)] at h
  obtain ⟨g, t, cs, fuel, p, hg, hty, hvar, hd⟩ := Lib.laidMet.reads h (.head _)
  obtain rfl := Option.some.inj ((show Tryd.prog.globalNamed _ = some 0 by kernel_rfl).symm.trans hg)
  obtain rfl := Option.some.inj ((show (Tryd.prog.globals[0]?).map (·.type) = some 49 by kernel_rfl).symm.trans hty)
  rw [laid_rows] at hd
  have hc : Tryd.prog.cellsOf 41 = 5 := by kernel_rfl
  have key : ∀ i, i < 19 → W.cell? ⟨0, i * 5, none⟩ = some (.int .i64 (kT.getD i kz).s) ∧ W.cell? ⟨0, i * 5 + 1, none⟩ = some (.int .i64 (kT.getD i kz).o) ∧ W.cell? ⟨0, i * 5 + 2, none⟩ = some (.int .i64 (kT.getD i kz).f) ∧
      W.cell? ⟨0, i * 5 + 3, none⟩ = some (.int .i64 (kT.getD i kz).d) ∧ W.cell? ⟨0, i * 5 + 4, none⟩ = some (.bool (kT.getD i kz).r) := by
    intro i hi
    obtain ⟨fuel', d, q, hdi, he⟩ := array_elem Tryd.underlying49 hd i hi
    simp only [List.getElem?_map, List.getElem?_range hi, Option.map_some, Option.some.injEq] at hdi
    subst hdi
    rw [hc] at he
    have hcs := row_cells he
    have e0 := congrArg (·[0]?) hcs
    have e1 := congrArg (·[1]?) hcs
    have e2 := congrArg (·[2]?) hcs
    have e3 := congrArg (·[3]?) hcs
    have e4 := congrArg (·[4]?) hcs
    simp only [List.getElem?_take, List.getElem?_drop] at e0 e1 e2 e3 e4
    refine ⟨?_, ?_, ?_, ?_, ?_⟩
    · rw [World.var?_cell hg hvar, ← Array.getElem?_toList]; simpa using e0
    · rw [World.var?_cell hg hvar, ← Array.getElem?_toList]; simpa using e1
    · rw [World.var?_cell hg hvar, ← Array.getElem?_toList]; simpa using e2
    · rw [World.var?_cell hg hvar, ← Array.getElem?_toList]; simpa using e3
    · rw [World.var?_cell hg hvar, ← Array.getElem?_toList]; simpa using e4
  refine ⟨?_, key⟩
  have h0 := (key 0 (by decide)).1
  rcases Nat.eq_zero_or_pos W.heap.size with h1 | h1
  · unfold World.cell? at h0
    rw [Array.getElem?_eq_none (by omega)] at h0
    cases h0
  · exact h1
theorem own : ownKnob Tryd.prog.godebug = none := by kernel_rfl
end Go.Proofs.YtpkjepbeeebdoaaDoor
