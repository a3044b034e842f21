/-
  Plain facts on some operations in a row: one step after the other, said of lists.
-/
import Derived.Test.YtnlkggfgloblcaaGreatPureFacts
namespace Go.Proofs.YtnlkggfgloblcaaGreat
open Go.RowKit

/-- What comes of one operation. -/
theorem do_step {k : Nat} (h1 : 18 ≤ k) (h2 : k ≤ 74) (hk : k ≠ 31) {l x y : List Int} (hx : x.length = puNs.getD (k - 18) 0) (hL : l.length + x.length ≤ 64) (hT : puT k l x = 0) (hY : puY k l x = y) (hy : l.length + y.length ≤ 64) :
    doE (k : Int) (l ++ x) = 0 ∧ doL (k : Int) (l ++ x) = l ++ y := by
  have hg : puG (k : Int) = true := by rw [puG_is]; exact decide_eq_true (by omega)
  have hn : puN (k : Int) = x.length := by rw [puN_at k h1 h2, hx]
  have e1 : (l ++ x).length - puN (k : Int) = l.length := by rw [hn]; simp
  have e2 : (l ++ x).take l.length = l := by simp
  have e3 : (l ++ x).drop l.length = x := by simp
  have hE : puE k l x = 0 := by rw [puE_lay hk, hT, unE_ok, hY]; exact pushE_ok (pushB_no (by omega))
  have hEE : doE (k : Int) (l ++ x) = 0 := by
    unfold doE
    rw [if_neg (by rw [hg]; decide), if_neg (by rw [hn]; simp), if_neg (by simp; omega), e1, e2, e3]
    exact hE
  refine ⟨hEE, ?_⟩
  unfold doL
  rw [if_pos hEE, e1, e2, e3]
  show puL k l x = _
  rw [puL_lay hk, hT, hY, unL_ok]
  exact pushL_ok (pushB_no (by omega))
/-- Some in a row that throw nothing. -/
def AlOk (ops d L : List Int) : Prop := alE ops d = 0 ∧ alL ops d = L
theorem al_nil (d : List Int) : AlOk [] d d := ⟨rfl, rfl⟩
theorem al_cons (k : Nat) (l x y : List Int) {r d d' L : List Int} (h1 : 18 ≤ k) (h2 : k ≤ 74) (hk : k ≠ 31) (hd : d = l ++ x) (hx : x.length = puNs.getD (k - 18) 0) (hL : l.length + x.length ≤ 64) (hT : puT k l x = 0) (hY : puY k l x = y) (hy : l.length + y.length ≤ 64)
    (hd' : l ++ y = d') (h : AlOk r d' L) : AlOk ((k : Int) :: r) d L := by
  subst hd hd'
  obtain ⟨e1, e2⟩ := do_step h1 h2 hk hx hL hT hY hy
  unfold AlOk at *
  rw [alE_cons_ok e1, alL_cons_ok e1, e2]
  exact h
end Go.Proofs.YtnlkggfgloblcaaGreat
