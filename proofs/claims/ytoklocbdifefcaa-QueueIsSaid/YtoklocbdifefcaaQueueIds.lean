/-
  What package queue answers of Ids: who stands in a queue, in order.
-/
import Derived.Test.YtoklocbdifefcaaQueueNth
namespace Go.Proofs.Ytoklocbdifefcaa
open Go.RowKit

theorem Own.grow {W w W2 : World} {A : Option Addr} {n c : Nat} {l : List Int} (h : Own W w A n c l) (hb : Below w.heap.size w W2) : Own W W2 A n c l := by
  refine ⟨⟨h.1.1, ?_⟩, below_then h.2 hb⟩
  rcases h.1.2 with h0 | ⟨g, cap, cur, h1, h2, h3, h4⟩
  · exact .inl h0
  · exact .inr ⟨g, cap, cur, h1, h2, (hb.block g (Array.getElem?_eq_some_iff.1 h3).1).trans h3, h4⟩
theorem stk_one (w : World) (t : TypeId) (x : Int) (g : Nat) (hg : w.heap.size = g) : Stk (w.alloc (.cells #[.int .i64 x] t)) (some ⟨g, 0, none⟩) 1 1 [x] := by
  subst hg
  refine ⟨rfl, Nat.le_refl _, fun _ => ⟨_, 0, rfl, by simp, fun j hj => ?_⟩, fun h => by cases h⟩
  rw [Nat.zero_add, cell_of_row _ _ j _ t (0, 0) (heap_alloc_new w _)]
  match j, hj with
  | 0, _ => rfl
theorem id_next (l : List It) (j : Nat) (h : j < l.length) : idL (l.take (j + 1)) = idL (l.take j) ++ [(l.getD j i0).d] := by
  unfold idL
  rw [take_snoc l j h, List.map_append]
  rfl
/-- The numbers that a call hands back. -/
def IdPost (l : List Int) (w : World) (e : Ending) (w' : World) : Prop := ∃ A n c, e = .returned (.slice A n c) ∧ Stk w' A n c l ∧ Below w.heap.size w w'
set_option maxHeartbeats 2000000 in
theorem ids_is (N : Int) (A : Option Addr) (n c : Nat) (l : List It) (w : World) (hn : n ≤ 4611686018427387904) (h : Its w A n c l) :
    Calls Try.prog 21 #[.agg #[.int .i64 N, .slice A n c]] w (IdPost (idL (tkL N l)) w) := by
  have hsq := sq_tk N l
  obtain ⟨N1, hN1⟩ : ∃ x, tkN N l = x := ⟨_, rfl⟩
  obtain ⟨l1, hl1⟩ : ∃ x, tkL N l = x := ⟨_, rfl⟩
  rw [hN1, hl1] at hsq
  rw [hl1]
  have HN1 := Lib.hid hN1
  have HL1 := Lib.hid hl1
  have HB := Lib.hid (below_one w (.cells #[.int .i64 N, .slice A n c] 28))
  have H := Lib.hid (h.below HB.out)
  have h8 : l1.length ≤ 8 := hsq.2.1
  clear hN1 hl1 hsq h
  have hfl : ∀ (M : Int) (B : Option Addr) (m d : Nat) (W : World), (Instr.field 28 (.agg #[.int .i64 M, .slice B m d]) 1).run Try.prog W = .ok (.slice B m d) W := fun _ _ _ _ _ => by kernel_rfl
  go_enter Try.func21, Try.ntmps21
  go_wp2_with (go_at_call 25; refine (taken_at N A n c l N1 l1 _ hn H.out HN1.out HL1.out).mono ?_; rintro e w1 ⟨A1, n1, c1, rfl, hi, hb, hbo⟩; have HI := Lib.hid hi; have HC := Lib.hid (below_then HB.out hb); clear hi hb hbo)
  have hn1 : n1 ≤ 8 := by rw [← HI.out.len]; exact h8
  have HL := Lib.hid HI.out.len
  go_loopw [3, 10] (fun v i wr => ∃ (j : Nat) (A' : Option Addr) (c' : Nat), j ≤ n1 ∧ i = .int .i64 j ∧ v = .slice A' j c' ∧ Own w1 wr A' j c' (idL (l1.take j))) (fun _ i _ => ((n1 : Int) - intOf i).toNat)
  case atStart => exact ⟨0, none, 0, by omega, rfl, rfl, Own.nil _⟩
  case round =>
    obtain ⟨j, A', c', hj, rfl, rfl, hO⟩ := hrel
    have HO := Lib.hid hO
    clear hO
    by_cases hlt : j < n1
    · have hjl : j < l1.length := by rw [HL.out]; exact hlt
      obtain ⟨xb, xo, rfl, hbl, f0, f1, f2⟩ := (HI.out.below HO.out.below).at_ j hlt
      have HX := Lib.hid (id_next l1 j hjl)
      generalize l1.getD j i0 = e at HX f0 f1 f2
      obtain ⟨d, p, t⟩ := e
      simp only at f0 f1 f2
      go_wp2_with (at_builtin; refine wpList_app (W := w1) rfl (.tmp 14) (.tmp 17) rfl rfl rfl (HO.out.grow (two_new wr (.cells #[.int .i64 d, .int .i64 p, .int .i64 t] 59) (.cells #[.int .i64 d] 3))) (stk_one _ _ d _ (by simp)) (by omega) ?_; intro A3 c3 w3 hw3; have HW := Lib.hid hw3; clear hw3)
      go_roundw
      case rel => exact ⟨j + 1, A3, c3, by omega, by go_num, by go_num, by rw [HX.out]; exact HW.out⟩
      case measure => simp [intOf]; omega
    · obtain rfl : j = n1 := by omega
      go_wp2
      go_ret
      have hO := HO.out
      rw [List.take_of_length_le (by rw [HL.out]; exact Nat.le_refl _)] at hO
      exact ⟨A', j, c', rfl, hO.stk, below_then HC.out hO.below⟩
end Go.Proofs.Ytoklocbdifefcaa
