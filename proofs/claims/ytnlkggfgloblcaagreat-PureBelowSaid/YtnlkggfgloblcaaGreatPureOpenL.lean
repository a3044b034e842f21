/-
  A slice of ints that is handed in is a stack of cells, and no longer than a slice may be.
-/
import Derived.Test.YtnlkggfgloblcaaGreatPureOpen
import Derived.SizedLaws
namespace Go.Proofs.YtnlkggfgloblcaaGreat
open Go.ChangeShapes Go.WideShapes Go.ChangeAt Go.RowKit

theorem open_stkL {H : Type} {enc : TypeId × Value → H} {w : World} {r : Reach} {b0 : Nat} {v : Value} {d : DataW H} {p : List MemPlace}
    (hv : Value.okWide Tryz.prog w r b0 22 v) (h : DataW.Trod enc Tryz.prog w 0 (fun _ => true) true 22 v d p)
    (hz : ∀ elems spare, d = .slice elems spare → (elems.length + spare.length) * Tryz.prog.bytesOf 3 ≤ reachBytes) :
    ∃ (A : Option Addr) (n c : Nat) (l : List Int), v = .slice A n c ∧ Stk w A n c l ∧ AllC l ∧ n ≤ 140737488355328 := by
  have hzz := hz
  clear hz
  obtain ⟨a1, len, cap, rfl⟩ := okWide_slice Tryz.underlying22 hv
  obtain ⟨fuel, hf⟩ := h
  rcases open_ints Tryz.underlying22 Tryz.underlying3 cellsI hf with ⟨hcs, hx⟩ | ⟨a, len', cap', zs, hcs, _, hl, hm, hz, hx, hcell, hwz⟩
  · simp [Value.cells] at hcs
    obtain ⟨rfl, rfl, rfl⟩ := hcs
    exact ⟨_, _, _, [], rfl, Stk.nil, allC_nil, Nat.zero_le _⟩
  · simp [Value.cells] at hcs
    obtain ⟨rfl, rfl, rfl⟩ := hcs
    simp only [if_true] at hz
    have hlen : (zs.take len).length = len := by simp; omega
    refine ⟨_, _, _, zs.take len, rfl, ⟨hlen, hl, fun h0 => ?_, fun h => by cases h⟩, fun x hx => inC_of_wf (hwz x (List.mem_of_mem_take hx)), by
      have h8 : Tryz.prog.bytesOf 3 = 8 := by kernel_rfl
      have hx1 : d = .slice (lits .i64 (zs.take len)) (lits .i64 (zs.drop len)) := congrArg Prod.fst hx
      have h9 := hzz _ _ hx1
      have hr := reachBytes_lt
      rw [h8] at h9
      simp [lits] at h9
      omega⟩
    obtain ⟨ab, ao, spot⟩ := a
    have hspot : spot = none := by simpa [Addr.add] using World.cell?_spot (hcell 0 (by omega))
    subst hspot
    have h0c := hcell 0 (by omega)
    rw [Addr.add_lit] at h0c
    refine ⟨ab, ao, rfl, World.block_lt_of_cell? w ⟨ab, ao + 0, none⟩ h0c, fun j hj => ?_⟩
    rw [hlen] at hj
    have hcj := hcell j (by omega)
    rw [Addr.add_lit] at hcj
    rw [hcj]
    have e : zs.getD j 0 = zs[j]'(by omega) := by simp [List.getD, List.getElem?_eq_getElem (show j < zs.length by omega)]
    rw [e]
    simp only [List.getElem_take]
end Go.Proofs.YtnlkggfgloblcaaGreat
