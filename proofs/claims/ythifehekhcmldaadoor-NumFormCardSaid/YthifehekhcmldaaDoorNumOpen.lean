/-
  What the statements of layer 5 list of the library's tables, and what follows of it: the tables of utf8 lie as they should.
-/
import Derived.Test.YthifehekhcmldaaDoorRows
import Derived.Test.YthifehekhcmldaaDoorNumHead
import Derived.Lib.LaidU8T
import Derived.LaidMore
import Derived.Lay
import Derived.Stop.Joined
import Derived.KernelRfl
namespace Go.Proofs.YthifehekhcmldaaDoor
open Go.RowKit Go.Shelf Go.Lib
/-- What the statements list. -/
def laidL : List (String × DataW Unit) := Rows.numCaseRow.laid
theorem laid_first : Rows.laid_unicode_utf8_first = firstData := by kernel_rfl
theorem laid_accept : (Rows.laid_unicode_utf8_acceptRanges : DataW Unit) = acceptData := by kernel_rfl
theorem tabs_of_laid {W : World} (h : laidMetH Tryd.prog laidL W) : Tabs W := by
  rw [MakeChecks.laidMetH_plain _ _ _ (by kernel_rfl)] at h
  have h1 := Lib.laidMet.reads h (.tail _ (.head _))
  have h2 := Lib.laidMet.reads h (.head _)
  rw [laid_first] at h1
  rw [laid_accept] at h2
  exact utf8Tabs_of_readsT (ρ := renNum) (U8Types.of260 { laysDec with }) ⟨by kernel_rfl, by kernel_rfl, by kernel_rfl, by kernel_rfl, by kernel_rfl, by kernel_rfl, by kernel_rfl⟩ h1 h2
theorem own : ownKnob Tryd.prog.godebug = none := by kernel_rfl
end Go.Proofs.YthifehekhcmldaaDoor
