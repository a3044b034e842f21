/-
  What the document's own calls of layer 7 answer (tenterhookref07): the same as the calls of package op, in the words of the plain facts (XOpMath).
-/
import Derived.Test.YtkpomphjicoaeaaRef06Calls
import Derived.Test.YtkpomphjicoaeaaRef07Math
import Derived.Test.YtkpomphjicoaeaaOpFew
namespace Go.Proofs.Ytkpomphjicoaeaa
open Go.RowKit

set_option maxRecDepth 10000 in
theorem rnames_is (S : ByteArray) (hS : S = ⟨opNames.toArray⟩) (w : World) : Calls Try.prog 50 #[] w fun e w' => e = .returned (.string S) ∧ w = w' := by
  go_enter Try.func50, Try.ntmps50
  go_wp2
  go_ret
  exact ⟨by rw [hS]; kernel_rfl, rfl⟩
set_option maxHeartbeats 400000 in
theorem rin_is (n : Int) (b : Bool) (h : decide (0 ≤ n ∧ n < 111) = b) (w : World) : Calls Try.prog 49 #[.int .i64 n] w fun e w' => e = .returned (.bool b) ∧ w = w' := by
  by_cases h1 : 0 ≤ n
  · by_cases h2 : n < 111
    · obtain rfl : b = true := by rw [← h]; simp [h1, h2]
      clear h
      go_enter Try.func49, Try.ntmps49
      go_wp2
      go_ret
      exact ⟨rfl, rfl⟩
    · obtain rfl : b = false := by rw [← h]; simp; omega
      clear h
      go_enter Try.func49, Try.ntmps49
      go_wp2
      go_ret
      exact ⟨rfl, rfl⟩
  · obtain rfl : b = false := by rw [← h]; simp; omega
    clear h
    go_enter Try.func49, Try.ntmps49
    go_wp2
    go_ret
    exact ⟨rfl, rfl⟩
theorem sign_at {l : List UInt8} {S : ByteArray} (hS : S = ⟨l.toArray⟩) {k : Nat} {c : UInt8} (h : l[k]? = some c) : k < S.size ∧ ∀ hk : k < S.size, S[k]'hk = c := by
  subst hS
  obtain ⟨hk, e⟩ := List.getElem?_eq_some_iff.1 h
  exact ⟨by rw [size_mk]; exact hk, fun _ => e⟩
end Go.Proofs.Ytkpomphjicoaeaa
