/-
  The document's example of layer 9 holds (awake), and a stack is the same as itself (tenterhookref04.Same).
-/
import Derived.Test.YtnlkggfgloblcaaGreatPureAll
import Derived.Test.YtnlkggfgloblcaaGreatPureLaws
import Derived.Test.YtnlkggfgloblcaaGreatStkAwake
namespace Go.Proofs.YtnlkggfgloblcaaGreat
open Go.RowKit

theorem aw_ok : doE 38 [5, 7, 2] = 0 ∧ doL 38 [5, 7, 2] = [5, 1, 3] := do_step (k := 38) (l := [5]) (x := [7, 2]) (y := [1, 3]) (by decide) (by decide) (by decide) rfl (by decide) (by decide) (by decide +kernel) (by decide)
theorem aw_do (A : Option Addr) (w : World) (h : Stk w A 3 3 [5, 7, 2]) : Calls Tryz.prog 12 #[.int .i64 38, .slice A 3 3] w (PuPost w [5, 1, 3] 0) := by
  have h1 := do_any 38 A 3 3 [5, 7, 2] w (by omega) h (allC_cons (by unfold InC; omega) (allC_cons (by unfold InC; omega) (allC_cons (by unfold InC; omega) allC_nil)))
  rw [aw_ok.1, aw_ok.2] at h1
  exact h1
theorem stk3 {w : World} {A : Option Addr} {n c : Nat} {x y z : Int} (h : Stk w A n c [x, y, z]) : n = 3 ∧ ∃ b o, A = some ⟨b, o, none⟩ ∧ w.cell? ⟨b, o, none⟩ = some (.int .i64 x) ∧ w.cell? ⟨b, o + 1, none⟩ = some (.int .i64 y) ∧ w.cell? ⟨b, o + 2, none⟩ = some (.int .i64 z) := by
  obtain rfl : 3 = n := h.len
  obtain ⟨b, o, rfl, _, hc⟩ := h.at0 (by decide)
  exact ⟨rfl, b, o, rfl, hc 0 (by simp), hc 1 (by simp), hc 2 (by simp)⟩
theorem stk1 {w : World} {A : Option Addr} {n c : Nat} {x : Int} (h : Stk w A n c [x]) : n = 1 ∧ ∃ b o, A = some ⟨b, o, none⟩ ∧ b < w.heap.size ∧ w.cell? ⟨b, o, none⟩ = some (.int .i64 x) := by
  obtain rfl : 1 = n := h.len
  obtain ⟨b, o, rfl, hb, hc⟩ := h.at0 (by decide)
  exact ⟨rfl, b, o, rfl, hb, hc 0 (by simp)⟩
set_option maxHeartbeats 400000 in
theorem pawake_any (w : World) : Calls Tryz.prog 11 #[] w fun e w' => e = .returned (.bool true) ∧ Keeps w w' := by
  go_enter Tryz.func11, Tryz.ntmps11
  go_wp2_with (go_at_call 12; refine (aw_do _ _ (stk_at _ _ [5, 7, 2] 3 _ rfl rfl (by decide))).mono ?_; rintro e w1 ⟨A1, n1, q1, rfl, ho, hb⟩; obtain ⟨rfl, b1, o1, rfl, e0, e1, e2⟩ := stk3 ho; have HB := Lib.hid (Keeps.trans ((Keeps.refl _).alloc _) hb); clear ho hb)
  go_ret
  exact ⟨rfl, HB.out⟩
/-- Two stacks that are the same, in any world behind the one in which they lie. -/
theorem same_k (A B : Option Addr) (n c m d : Nat) (l l' : List Int) (w : World) (hn : n ≤ 10000) (h1 : Stk w A n c l) (h2 : Stk w B m d l') (e : l = l') :
    Calls Tryz.prog 16 #[.slice A n c, .slice B m d] w fun e w' => e = .returned (.bool true) ∧ Keeps w w' := by
  subst e
  exact (same_any A B n c m d l w hn h1 h2).mono fun e w' ⟨he, k, hk⟩ => ⟨he, hk ▸ (Keeps.refl w).drewN k⟩
/-- All of some that throw nothing. -/
theorem all_ok (B : Option Addr) (m b : Nat) (ops : List Int) (A : Option Addr) (n q : Nat) (d L : List Int) (w : World) (hm : m ≤ 10000) (hn : n ≤ 10000) (h2 : Stk w B m b ops) (h1 : Stk w A n q d) (hC : AllC d) (h : AlOk ops d L) :
    Calls Tryz.prog 14 #[.slice B m b, .slice A n q] w (PuPost w L 0) := by
  have := all_any B m b ops A n q d w hm hn h2 h1 hC
  rw [h.1, h.2] at this
  exact this
end Go.Proofs.YtnlkggfgloblcaaGreat
