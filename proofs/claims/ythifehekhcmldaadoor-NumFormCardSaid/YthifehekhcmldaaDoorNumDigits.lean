/-
  What the calls divided and digits of package num answer: what is left of a double without a sign, divided by a base, and the quotient; its text.
-/
import Derived.Test.YthifehekhcmldaaDoorNumNumber
namespace Go.Proofs.YthifehekhcmldaaDoor
open Go.RowKit

theorem div_one (u b : Int) (h0 : 0 ≤ u) (h1 : u < 340282366920938463463374607431768211456) (hb : 2 ≤ b ∧ b ≤ 36) :
    dLo (u / 18446744073709551616) = dHi u ∧ dHi (u / 18446744073709551616) = 0 ∧ uR (u / 18446744073709551616) b = u / 18446744073709551616 % b ∧ uQ (u / 18446744073709551616) b = wrap64 (u / 18446744073709551616 / b) := by
  obtain ⟨h, hh⟩ : ∃ h, u / 18446744073709551616 = h := ⟨_, rfl⟩
  have hb0 : b % 18446744073709551616 = b := by omega
  have hx : h % 340282366920938463463374607431768211456 = h := by omega
  have hq : h / b ≤ h := Int.ediv_le_self _ (by omega)
  have hE : uE h b = 0 := by unfold uE; rw [if_neg (by omega), hx, hb0, if_neg (by omega)]
  rw [hh]
  refine ⟨?_, ?_, ?_, ?_⟩
  · unfold dLo dHi; rw [hh]
  · unfold dHi wrap64; omega
  · have := Int.emod_lt_of_pos h (show 0 < b by omega)
    have := Int.emod_nonneg h (show b ≠ 0 by omega)
    unfold uR; rw [if_pos hE, hx, hb0]; unfold wrap64; omega
  · unfold uQ; rw [if_pos hE, hx, hb0]
theorem div_two (u b : Int) (hb : 2 ≤ b ∧ b ≤ 36) :
    dLo (u % 18446744073709551616 + 18446744073709551616 * (u / 18446744073709551616 % b)) = dLo u ∧ dHi (u % 18446744073709551616 + 18446744073709551616 * (u / 18446744073709551616 % b)) = u / 18446744073709551616 % b ∧
    uR (u % 18446744073709551616 + 18446744073709551616 * (u / 18446744073709551616 % b)) b = u % b ∧ uQ (u % 18446744073709551616 + 18446744073709551616 * (u / 18446744073709551616 % b)) b = dLo (u / b) ∧ wrap64 (u / 18446744073709551616 / b) = dHi (u / b) := by
  obtain ⟨h, hh⟩ : ∃ h, u / 18446744073709551616 = h := ⟨_, rfl⟩
  obtain ⟨l, hl⟩ : ∃ l, u % 18446744073709551616 = l := ⟨_, rfl⟩
  obtain ⟨r, hr⟩ : ∃ r, h % b = r := ⟨_, rfl⟩
  obtain ⟨q, hq⟩ : ∃ q, h / b = q := ⟨_, rfl⟩
  have hr1 := Int.emod_lt_of_pos h (show 0 < b by omega)
  have hr0 := Int.emod_nonneg h (show b ≠ 0 by omega)
  have hb0 : b % 18446744073709551616 = b := by omega
  rw [hh, hl, hr]
  have hx : (l + 18446744073709551616 * r) % 340282366920938463463374607431768211456 = l + 18446744073709551616 * r := by omega
  have hlt : (l + 18446744073709551616 * r) / b < 18446744073709551616 := by
    apply Int.ediv_lt_of_lt_mul (by omega)
    have : 18446744073709551616 * r ≤ 18446744073709551616 * (b - 1) := Int.mul_le_mul_of_nonneg_left (by omega) (by omega)
    omega
  have hp : 0 ≤ (l + 18446744073709551616 * r) / b := Int.ediv_nonneg (by omega) (by omega)
  have hE : uE (l + 18446744073709551616 * r) b = 0 := by unfold uE; rw [if_neg (by omega), hx, hb0, if_neg (by omega)]
  have hu : u = (l + 18446744073709551616 * r) + (18446744073709551616 * q) * b := by
    have e1 : u = l + 18446744073709551616 * h := by omega
    have e2 : h = r + b * q := by rw [← hr, ← hq]; exact (Int.emod_add_mul_ediv h b).symm
    rw [e1, e2]; grind
  have hm : u % b = (l + 18446744073709551616 * r) % b := by rw [hu, Int.add_mul_emod_self_right]
  have hd : u / b = (l + 18446744073709551616 * r) / b + 18446744073709551616 * q := by rw [hu, Int.add_mul_ediv_right _ _ (by omega)]
  have hm1 := Int.emod_lt_of_pos (l + 18446744073709551616 * r) (show 0 < b by omega)
  have hm0 := Int.emod_nonneg (l + 18446744073709551616 * r) (show b ≠ 0 by omega)
  refine ⟨?_, ?_, ?_, ?_, ?_⟩
  · unfold dLo wrap64; omega
  · unfold dHi wrap64; omega
  · unfold uR; rw [if_pos hE, hx, hb0, hm]; unfold wrap64; omega
  · unfold uQ; rw [if_pos hE, hx, hb0]; unfold dLo; rw [hd]; unfold wrap64; omega
  · unfold dHi; rw [hd, hq]; congr 1; omega
theorem dumod_is (x u lo hi r q : Int) (hu : InC u) (h1 : dLo x = lo) (h2 : dHi x = hi) (h3 : uR x u = r) (h4 : uQ x u = q) (w : World) :
    Calls Tryd.prog 40 #[.agg #[.int .i64 lo, .int .i64 hi], .int .i64 u] w fun e w' => (∃ t, e = .returned (.tuple #[.int .i64 r, .int .i64 q, .int .i64 t])) ∧ Grown w w' := by
  subst h1; subst h2; subst h3; subst h4
  exact (dumod_any x u hu w).mono fun _ _ h => ⟨⟨_, h.1⟩, h.2⟩
theorem ret_id {a a' l l' h h' : Int} (e1 : a = a') (e2 : l = l') (e3 : h = h') : Ending.returned (.tuple #[.int .i64 a, .agg #[.int .i64 l, .int .i64 h]]) = .returned (.tuple #[.int .i64 a', .agg #[.int .i64 l', .int .i64 h']]) := by rw [e1, e2, e3]
set_option maxHeartbeats 400000 in
theorem divided_any (u b : Int) (h0 : 0 ≤ u) (h1 : u < 340282366920938463463374607431768211456) (hb : baB b = true) (w : World) :
    Calls Tryd.prog 33 #[.agg #[.int .i64 (dLo u), .int .i64 (dHi u)], .int .i64 b] w fun e w' => e = .returned (.tuple #[.int .i64 (u % b), .agg #[.int .i64 (dLo (u / b)), .int .i64 (dHi (u / b))]]) ∧ Grown w w' := by
  have hb2 := baB_iff.1 hb
  have hbc : InC b := by unfold InC; omega
  have HA := Lib.hid (div_one u b h0 h1 hb2)
  have HB := Lib.hid (div_two u b hb2)
  clear hb hb2 h0 h1
  go_enter Tryd.func33, Tryd.ntmps33
  go_wp2_with (first
    | (go_at_call 40; have hw1' := hw1; refine (dumod_is (u % 18446744073709551616 + 18446744073709551616 * (u / 18446744073709551616 % b)) b _ _ _ _ hbc HB.out.1 HB.out.2.1 HB.out.2.2.1 HB.out.2.2.2.1 _).mono ?_; rintro e w2 ⟨⟨t2, rfl⟩, hw2⟩; obtain ⟨c0, c1, f0, f1⟩ := resD (grown_trans hw1' hw2) (R := w.heap.size + 1) (by simp) ⟨by simp [go_sem]; rfl, by simp [go_sem]; rfl, by simp [go_sem], by simp [go_sem]⟩)
    | (go_at_call 40; refine (dumod_is (u / 18446744073709551616) b _ _ _ _ hbc HA.out.1 HA.out.2.1 HA.out.2.2.1 HA.out.2.2.2 _).mono ?_; rintro e w1 ⟨⟨t1, rfl⟩, hw1⟩; obtain ⟨d0, d1, g0, g1⟩ := resD hw1 (R := w.heap.size) (by simp; omega) ⟨by simp [go_sem]; rfl, by simp [go_sem]; rfl, by simp [go_sem], by simp [go_sem]⟩; have z1 := grown_lt hw1 (n := w.heap.size + 1) (by simp); have z0 := grown_lt hw1 (n := w.heap.size) (by simp; omega)))
  refine bodyPost_ret (v := .tuple #[.int .i64 (u % b), .agg #[.int .i64 (dLo (u / b)), .int .i64 (wrap64 (u / 18446744073709551616 / b))]]) (by simp [results, Tryd.results33, go_sem, c0, c1]) rfl ⟨ret_id rfl rfl HB.out.2.2.2.2, ?_⟩
  exact (((grown_trans (grown_trans (((Grown.refl w).alloc _ _).alloc _ _) hw1) hw2)).setCell (by simp) _).setCell (by simp) _
end Go.Proofs.YthifehekhcmldaaDoor
