/-
  NumDoubles at every text: the ways of its walk put together.
-/
import Derived.Test.YthifehekhcmldaaDoorNumDoublesWalk
namespace Go.Proofs.YthifehekhcmldaaDoor
open Go.RowKit

theorem beq39 {a : UInt8} (h : a ≠ 39) : ((a.toNat : Int) == 39) = false := by rw [u8_eq]; exact beq_eq_false_iff_ne.2 h
theorem beq46 {a : UInt8} (h : a ≠ 46) : ((a.toNat : Int) == 46) = false := by rw [u8_eq46]; exact beq_eq_false_iff_ne.2 h
/-- The calls of Parse that the walk meets, at a text that is no number. -/
theorem point_no {l i : List UInt8} {z : UInt8} {b : Int} (hl : l = i ++ [z]) (hz : z ≠ 46) (hq : qB l = false) (hn : l.length ≤ 200) (hp : pB b l = false) :
    Hid (∀ w, Tabs w → Calls Tryd.prog 10 #[.string ⟨l.toArray⟩, .int .i64 b] w (Non w)) ∧ Hid (∀ w, Tabs w → Calls Tryd.prog 10 #[.string (⟨l.toArray⟩ ++ ⟨#[46]⟩), .int .i64 b] w (Non w)) := by
  have h := point_form (b := b) hl (beq_eq_false_iff_ne.2 hz) hq
  exact ⟨Lib.hid (parse_non l b _ rfl hp (by omega)), Lib.hid (parse_non (l ++ [46]) b _ (ByteArray.mk_append_mk l [46]) (h.1.trans hp) (by simp; omega))⟩
theorem point_yes {l i : List UInt8} {z : UInt8} {b : Int} (hl : l = i ++ [z]) (hz : z ≠ 46) (hq : qB l = false) (hn : l.length ≤ 200) (hp : pB b l = true) :
    ∃ x y, Hid (∀ w, Tabs w → Calls Tryd.prog 10 #[.string ⟨l.toArray⟩, .int .i64 b] w (One w x)) ∧ Hid (∀ w, Tabs w → Calls Tryd.prog 10 #[.string (⟨l.toArray⟩ ++ ⟨#[46]⟩), .int .i64 b] w (Two w x y)) := by
  have h := point_form (b := b) hl (beq_eq_false_iff_ne.2 hz) hq
  obtain ⟨x, h1, h2⟩ := h.2 hp
  exact ⟨_, _, Lib.hid (parse_one l b _ _ rfl hp h1 (by omega)), Lib.hid (parse_two (l ++ [46]) b _ _ _ (ByteArray.mk_append_mk l [46]) (h.1.trans hp) h2 (by simp; omega))⟩
theorem numDoubles_walk (l : List UInt8) (b : Int) (W : World) (hT : Tabs W) :
    Calls Tryd.prog 7 #[.string ⟨l.toArray⟩, .int .i64 b] W fun e w' => e = .returned (.bool true) ∧ Keeps W w' := by
  by_cases hlen : 200 < l.length
  · exact numDoubles_long l b W hT hlen
  · by_cases hne : l = []
    · subst hne; exact numDoubles_nil b W hT
    · obtain ⟨i, z, hl⟩ : ∃ i z, l = i ++ [z] := ⟨l.dropLast, l.getLast hne, (List.dropLast_concat_getLast hne).symm⟩
      have hi : i.length ≤ 199 := by rw [hl] at hlen; simp at hlen; omega
      by_cases hz : z = 46
      · subst hz; subst hl; exact numDoubles_dot i b W hT hi
      · cases hq : qB l with
        | true =>
          have h3 : l.length = 3 := by unfold qB at hq; simp at hq; exact hq.1
          match l, h3, hq with
          | [x, c, y], _, hq =>
            have hxy : x = 39 ∧ y = 39 := by simpa [qB] using hq
            obtain ⟨rfl, rfl⟩ := hxy
            exact numDoubles_quoted c b W hT
        | false =>
          have hsz : ¬ 9223372036854775807 < (⟨l.toArray⟩ : ByteArray).size + (⟨#[46]⟩ : ByteArray).size := by rw [size_mk]; simp [ByteArray.size]; omega
          cases hp : pB b l with
          | false =>
            obtain ⟨H1, H2⟩ := point_no hl hz hq (by omega) hp
            match i, hl, hi with
            | [a, c], hl, _ =>
              subst hl
              by_cases ha : a = 39
              · subst ha
                refine numDoubles_three1_no _ z rfl (fun _ => rfl) (fun _ => rfl) (beq46 hz) (beq39 ?_) b W hT H1 H2
                rintro rfl; cases hq
              · exact numDoubles_three2_no _ a z rfl (fun _ => rfl) (fun _ => rfl) (beq46 hz) (beq39 ha) b W hT H1 H2
            | [a], hl, _ =>
              subst hl
              by_cases ha : a = 39
              · subst ha; exact numDoubles_two1_no _ z rfl (fun _ => rfl) (fun _ => rfl) (beq46 hz) b W hT H1 H2
              · exact numDoubles_two2_no _ a z rfl (fun _ => rfl) (fun _ => rfl) (beq46 hz) (beq39 ha) b W hT H1 H2
            | [], hl, _ =>
              subst hl
              exact numDoubles_any_no _ 0 z rfl (by omega) (by omega) (by omega) (fun _ => rfl) (beq46 hz) hsz b W hT H1 H2
            | a :: c :: d :: r, hl, hi =>
              subst hl
              exact numDoubles_any_no _ (r.length + 3) z (by rw [size_mk]; simp) (by simp at hi; omega) (by omega) (by omega) (fun _ => by simp [ByteArray.getElem_eq_getElem_data]) (beq46 hz) hsz b W hT H1 H2
          | true =>
            obtain ⟨x, y, H1, H2⟩ := point_yes hl hz hq (by omega) hp
            match i, hl, hi with
            | [a, c], hl, _ =>
              subst hl
              by_cases ha : a = 39
              · subst ha
                refine numDoubles_three1_yes _ z rfl (fun _ => rfl) (fun _ => rfl) (beq46 hz) (beq39 ?_) b x y W hT H1 H2
                rintro rfl; cases hq
              · exact numDoubles_three2_yes _ a z rfl (fun _ => rfl) (fun _ => rfl) (beq46 hz) (beq39 ha) b x y W hT H1 H2
            | [a], hl, _ =>
              subst hl
              by_cases ha : a = 39
              · subst ha; exact numDoubles_two1_yes _ z rfl (fun _ => rfl) (fun _ => rfl) (beq46 hz) b x y W hT H1 H2
              · exact numDoubles_two2_yes _ a z rfl (fun _ => rfl) (fun _ => rfl) (beq46 hz) (beq39 ha) b x y W hT H1 H2
            | [], hl, _ =>
              subst hl
              exact numDoubles_any_yes _ 0 z rfl (by omega) (by omega) (by omega) (fun _ => rfl) (beq46 hz) hsz b x y W hT H1 H2
            | a :: c :: d :: r, hl, hi =>
              subst hl
              exact numDoubles_any_yes _ (r.length + 3) z (by rw [size_mk]; simp) (by simp at hi; omega) (by omega) (by omega) (fun _ => by simp [ByteArray.getElem_eq_getElem_data]) (beq46 hz) hsz b x y W hT H1 H2
end Go.Proofs.YthifehekhcmldaaDoor
