/-
  Who is put into a queue and dropped again: the queue is as it was; who stands in a queue without one of a place. Nothing of a translated program is imported.
-/
import Derived.Test.YtoklocbdifefcaaQueueMath
namespace Go.Proofs.Ytoklocbdifefcaa

theorem in_get_lt (x : It) (l : List It) (i : Nat) (h : i < bhA x l) : (inL x l).getD i i0 = l.getD i i0 := by
  have hb := bh_le x l
  rw [getD_lt (by rw [in_length]; omega), getD_lt (by omega)]
  unfold inL
  rw [List.getElem_append_left (by simp; omega)]
  simp
theorem in_get_at (x : It) (l : List It) : (inL x l).getD (bhA x l) i0 = x := by
  have hb := bh_le x l
  rw [getD_lt (by rw [in_length]; omega)]
  unfold inL
  rw [List.getElem_append_right (by simp; omega)]
  simp [hb]
theorem ou_in (x : It) (l : List It) : ouL (bhA x l) (inL x l) = l := by
  have hb := bh_le x l
  have e : (l.take (bhA x l)).length = bhA x l := by simp; omega
  unfold ouL inL
  rw [List.take_append_of_le_length (by rw [e]; exact Nat.le_refl _), List.take_of_length_le (by rw [e]; exact Nat.le_refl _), List.drop_append, List.drop_of_length_le (by rw [e]; omega), e, show bhA x l + 1 - bhA x l = 1 by omega]
  simp
theorem back_put {n : Int} {l : List It} {d p : Int} (h : puB n l d p = true) : puN n l d p = n + 1 ∧ drB (puL n l d p) d = true ∧ drL (puL n l d p) d = l := by
  have hd : ∀ o ∈ l, o.d ≠ d := by unfold puB at h; exact (of_decide_eq_true h).2.2.2.2.2
  have e : puL n l d p = inL ⟨d, p, n⟩ l := by unfold puL; rw [h, if_pos rfl]
  have hb := bh_le ⟨d, p, n⟩ l
  have hp : plA d (inL ⟨d, p, n⟩ l) = bhA ⟨d, p, n⟩ l := by
    refine pl_eq _ _ _ (by rw [in_length]; omega) (fun i hi => ?_) (fun _ => by rw [in_get_at])
    rw [in_get_lt _ _ _ hi, getD_lt (by omega)]
    exact hd _ (List.getElem_mem _)
  have hl : plA d (inL ⟨d, p, n⟩ l) < (inL ⟨d, p, n⟩ l).length := by rw [hp, in_length]; omega
  rw [e]
  refine ⟨by unfold puN; rw [h, if_pos rfl], by unfold drB; exact decide_eq_true hl, ?_⟩
  unfold drL
  rw [if_pos hl, hp, ou_in]
theorem id_ou (k : Nat) (l : List It) : idL (ouL k l) = (idL l).take k ++ (idL l).drop (k + 1) := by
  unfold idL ouL
  rw [List.map_append, List.map_take, List.map_drop]
theorem id_get (l : List It) (k : Nat) (h : k < l.length) : (idL l).getD k 0 = (l.getD k i0).d := by
  rw [getD_lt h]
  simp [idL, List.getD, h]
end Go.Proofs.Ytoklocbdifefcaa
