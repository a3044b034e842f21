/-
  GuardApart walked: no task touches another one's area.
-/
import Derived.Test.YtkehlaphiillpaaGuardCalls
namespace Go.Proofs.Ytkehlaphiillpaa
open Go.RowKit

theorem and127 (x : Int) : bits .and .i64 x 127 = x % 128 := bits_and_low 7 (by decide) x
set_option maxHeartbeats 4000000 in
theorem apart_core (a b at_ s t x y k z xm : Int) (lib m3 o : Bool) (w : World) (hs : bits .and .i64 a 7 = s) (ht : bits .and .i64 b 7 = t) (hk : bits .and .i64 at_ 127 = k)
    (hx1 : wrap64 (x - 1) = xm) (hz1 : wrap64 (y + k) = z) (ho : (s == t) = o)
    (xb : x ≤ 9223372036854775807) (xmb : xm ≤ 9223372036854775807) (zc : InC z)
    (U0 : Hid (gU s = x)) (U1 : Hid (gUo s = true)) (V0 : Hid (gU t = y)) (V1 : Hid (gUo t = true))
    (H1 : Hid (gM s lib x 128 true = true)) (H2 : Hid (gM s lib x 129 true = false)) (H3 : Hid (gM s lib xm 2 true = m3)) (h3 : m3 = false ∨ lib = true)
    (H4 : Hid (gM s lib z 1 false = o)) (K0 : Hid (gK z = 2)) (K1 : Hid (gT z = t)) (H5 : Hid (gM (-1) false z 1 true = true)) :
    Calls Try.prog 4 #[.int .i64 a, .int .i64 b, .int .i64 at_, .bool lib] w fun e w' => e = .returned (.bool true) ∧ Below w.heap.size w w' := by
  have hx2 : IntKind.i64.wrap (x - 1) = xm := (wrapi64 _).trans hx1
  have hz2 : IntKind.i64.wrap (y + k) = z := (wrapi64 _).trans hz1
  have zb : z ≤ 9223372036854775807 := by unfold InC at zc; omega
  rcases h3 with rfl | rfl
  case' inl => cases lib
  case' inr => cases m3
  all_goals
    cases o
    all_goals
      go_enter Try.func4, Try.ntmps4
      go_wp2_with (first
        | (go_at_call 9; refine (awake_any _).mono ?_; rintro e we ⟨rfl, hb⟩; have HB := Lib.hid hb; clear hb)
        | (go_at_call 10; (with_reducible refine (userAt_is s x true U0.out U1.out _).mono ?_); rintro e we ⟨rfl, rfl⟩)
        | (go_at_call 10; (with_reducible refine (userAt_is t y true V0.out V1.out _).mono ?_); rintro e we ⟨rfl, rfl⟩)
        | (go_at_call 19; (with_reducible refine (may_is s _ x 128 true _ xb H1.out _).mono ?_); rintro e we ⟨rfl, hb⟩; have HB := Lib.hid (below_then HB.out hb); clear hb)
        | (go_at_call 19; (with_reducible refine (may_is s _ x 129 true _ xb H2.out _).mono ?_); rintro e we ⟨rfl, hb⟩; have HB := Lib.hid (below_then HB.out hb); clear hb)
        | (go_at_call 19; (with_reducible refine (may_is s _ xm 2 true _ xmb H3.out _).mono ?_); rintro e we ⟨rfl, hb⟩; have HB := Lib.hid (below_then HB.out hb); clear hb)
        | (go_at_call 19; (with_reducible refine (may_is s _ z 1 false _ zb H4.out _).mono ?_); rintro e we ⟨rfl, hb⟩; have HB := Lib.hid (below_then HB.out hb); clear hb)
        | (go_at_call 19; (with_reducible refine (may_is (-1) false z 1 true _ zb H5.out _).mono ?_); rintro e we ⟨rfl, hb⟩; have HB := Lib.hid (below_then HB.out hb); clear hb)
        | (go_at_call 12; (with_reducible refine (region_is z _ _ zc K0.out K1.out _).mono ?_); rintro e we ⟨rfl, hb⟩; have HB := Lib.hid (below_then HB.out hb); clear hb))
      go_ret
      exact ⟨rfl, HB.out⟩
theorem guardApart_any (a b at_ : Int) (lib : Bool) (w : World) :
    Calls Try.prog 4 #[.int .i64 a, .int .i64 b, .int .i64 at_, .bool lib] w fun e w' => e = .returned (.bool true) ∧ Below w.heap.size w w' := by
  obtain ⟨s, hs⟩ : ∃ s, bits .and .i64 a 7 = s := ⟨_, rfl⟩
  obtain ⟨t, ht⟩ : ∃ t, bits .and .i64 b 7 = t := ⟨_, rfl⟩
  obtain ⟨k, hk⟩ : ∃ k, bits .and .i64 at_ 127 = k := ⟨_, rfl⟩
  have hs2 : 0 ≤ s ∧ s < 8 := by rw [← hs, and7]; omega
  have ht2 : 0 ≤ t ∧ t < 8 := by rw [← ht, and7]; omega
  have hk2 : 0 ≤ k ∧ k < 128 := by rw [← hk, and127]; omega
  have user : ∀ {u : Int} {l : Bool} {p : Int} {wr : Bool}, 4096 ≤ p → p < 5120 → gB u l p wr = ((p - 4096) / 128 == u) := fun h1 h2 => gB_user h1 h2
  refine apart_core a b at_ s t (4096 + 128 * s) (4096 + 128 * t) k (4096 + 128 * t + k) (4096 + 128 * s - 1) lib (gM s lib (4096 + 128 * s - 1) 2 true) (s == t) w hs ht hk
    (by unfold wrap64; omega) (by unfold wrap64; omega) rfl (by omega) (by omega) (by unfold InC; omega)
    (Lib.hid (by unfold gU; rw [if_pos hs2])) (Lib.hid (by unfold gUo; exact decide_eq_true hs2)) (Lib.hid (by unfold gU; rw [if_pos ht2])) (Lib.hid (by unfold gUo; exact decide_eq_true ht2))
    (Lib.hid (gM_iff.2 ⟨by omega, .inr fun j hj => ?_⟩)) (Lib.hid ?_) (Lib.hid rfl) ?_ (Lib.hid ?_) (Lib.hid ?_) (Lib.hid ?_) (Lib.hid ?_)
  · rw [user (by omega) (by omega), beq_iff_eq]; omega
  · cases hg : gM s lib (4096 + 128 * s) 129 true
    · rfl
    · obtain ⟨h1, h2⟩ := gM_iff.1 hg
      rcases h2 with h2 | h2
      · omega
      · have := h2 128 (by omega)
        rw [user (by omega) (by omega), beq_iff_eq] at this
        omega
  · cases lib
    · refine .inl ?_
      cases hg : gM s false (4096 + 128 * s - 1) 2 true
      · rfl
      · obtain ⟨h1, h2⟩ := gM_iff.1 hg
        rcases h2 with h2 | h2
        · omega
        · have := h2 0 (by omega)
          rcases Int.lt_or_le 0 s with h0 | h0
          · rw [user (by omega) (by omega), beq_iff_eq] at this
            omega
          · rw [gB_heap (by omega) (by omega)] at this
            cases this
    · exact .inr rfl
  · rw [gM_one _ _ _ _ (by omega), user (by omega) (by omega), Bool.eq_iff_iff, Bool.or_eq_true, beq_iff_eq, beq_iff_eq, beq_iff_eq]
    omega
  · rcases gK_cases (4096 + 128 * t + k) with ⟨f1, f2, g⟩ | ⟨f1, f2, g1, g2⟩ | ⟨f1, f2, g1, g2⟩ | ⟨f1, f2, g1, g2⟩ <;> omega
  · rcases gK_cases (4096 + 128 * t + k) with ⟨f1, f2, g⟩ | ⟨f1, f2, g1, g2⟩ | ⟨f1, f2, g1, g2⟩ | ⟨f1, f2, g1, g2⟩ <;> omega
  · exact gM_iff.2 ⟨by omega, .inl rfl⟩
end Go.Proofs.Ytkehlaphiillpaa
