/-
  A store of one with several cells at a step of a region that draws its order; the cells written one by one, as one word.
-/
import Derived.Test.YtpkjepbeeebdoaaDoorAnyPut
import Derived.Deep.MidRow
import Derived.BigQuiet
namespace Go.Proofs.YtpkjepbeeebdoaaDoor
open Go.RowKit

theorem setW_cells (w : World) (g j : Nat) (vs : List Value) : setW w g j vs = w.setCells g j vs := by
  induction vs generalizing w j with
  | nil => rfl
  | cons v vs ih => exact ih _ _
theorem step_store {w : World} {ops : Array Oper} {o : Oper} {a : Act} {J : Act → World → Prop} {Q : Exit → Act → World → Prop} {E' : Prop} (hgd : o.guard = none) (ty : TypeId) (x y : Operand) (ho : o.op = .store ty x y)
    (b k : Nat) (cells : Array Value) (hx : a.eval x = .pointer (some ⟨b, k, none⟩)) (hy : a.eval y = .agg cells)
    (ht : w.there b k cells.size) (hi : (Tryd.prog.info? ty).map (·.size) = some cells.size) (h1 : cells.all (·.oneCell') = true)
    (h : J (a.put o.dst undef) (w.setCells b k cells.toList)) : if Region.wanted o (yielded ops a.tmps) = true then Oper.wp Tryd.prog o a w J Q else E' := by
  have hw : Region.wanted o (yielded ops a.tmps) = true := by simp [Region.wanted, hgd]
  rw [if_pos hw]
  exact wp_store_mid ty x y ho b k cells hx hy ht hi h1 h
end Go.Proofs.YtpkjepbeeebdoaaDoor
