/-
  A user's area in a memory of 128 bytes, said as a list: its base, its held place, and the picture's bytes; what is held, digit by digit and all at once. Nothing of a translated program is imported.
-/
import Derived.Test.YticeeckahdjjmaaPicMath
namespace Go.Proofs.Yticeeckahdjjmaa
open Go.RowKit

theorem splice_mid {α : Type} (a b b' r : List α) (off : Nat) (ho : a.length = off) (h : b'.length = b.length) : splice (a ++ (b ++ r)) off b' = a ++ (b' ++ r) := by
  subst ho
  unfold splice
  rw [List.take_left, h, ← List.append_assoc a b r, show a.length + b.length = (a ++ b).length by simp, List.drop_left]
/-- A memory of an area: its base, and the picture w. -/
def piM (b : Int) (w : List UInt8) : List UInt8 := mB b ++ (mB (128 - (w.length : Int)) ++ (List.replicate (112 - w.length) 0 ++ w))
theorem piM_length (b : Int) {w : List UInt8} (h : w.length ≤ 96) : (piM b w).length = 128 := by
  unfold piM
  simp only [List.length_append, mB_length, List.length_replicate]
  omega
theorem piM_new (b : Int) : splice (splice (List.replicate 128 0) 0 (mB b)) 8 (mB 128) = piM b [] := by
  have e : List.replicate 128 (0 : UInt8) = [] ++ (List.replicate 8 0 ++ (List.replicate 8 0 ++ List.replicate 112 0)) := by simp
  rw [e, splice_mid [] (List.replicate 8 0) (mB b) _ 0 rfl (by simp [mB_length]), List.nil_append, splice_mid (mB b) (List.replicate 8 0) (mB 128) _ 8 (mB_length b) (by simp [mB_length])]
  unfold piM
  simp
theorem piM_base (b : Int) (w : List UInt8) : mT (piM b w) 0 8 = mB b := by
  unfold mT piM
  rw [List.drop_zero, show 8 = (mB b).length from (mB_length b).symm, List.take_left]
theorem piM_held (b : Int) (w : List UInt8) : mT (piM b w) 8 8 = mB (128 - (w.length : Int)) := by
  unfold mT piM
  rw [List.drop_left' (mB_length b)]
  conv => lhs; rw [show 8 = (mB (128 - (w.length : Int))).length from (mB_length _).symm]
  rw [List.take_left]
theorem piM_text (b : Int) {w : List UInt8} (h : w.length ≤ 96) : mT (piM b w) (128 - w.length) w.length = w := by
  unfold mT piM
  have e : mB b ++ (mB (128 - (w.length : Int)) ++ (List.replicate (112 - w.length) 0 ++ w)) = (mB b ++ (mB (128 - (w.length : Int)) ++ List.replicate (112 - w.length) 0)) ++ w := by simp
  rw [e, List.drop_left' (by simp only [List.length_append, mB_length, List.length_replicate]; omega), List.take_length]
theorem o128_0 : oE 128 0 0 = 0 := by decide
theorem o128_8 : oE 128 0 8 = 0 := by decide
theorem piM_oE0 (b : Int) {w : List UInt8} (h : w.length ≤ 96) : oE (piM b w).length 0 0 = 0 := by rw [piM_length b h]; exact o128_0
theorem piM_oE8 (b : Int) {w : List UInt8} (h : w.length ≤ 96) : oE (piM b w).length 0 8 = 0 := by rw [piM_length b h]; exact o128_8
theorem piM_oX0 {b : Int} (hb : InC b) {w : List UInt8} (h : w.length ≤ 96) : oX (piM b w) 0 0 = b := by
  unfold oX
  rw [if_pos (piM_oE0 b h)]
  show mC (mT (piM b w) 0 8) = b
  rw [piM_base]; exact mC_mB hb
theorem piM_oX8 (b : Int) {w : List UInt8} (h : w.length ≤ 96) : oX (piM b w) 0 8 = 128 - (w.length : Int) := by
  unfold oX
  rw [if_pos (piM_oE8 b h)]
  show mC (mT (piM b w) 8 8) = _
  rw [piM_held]; exact mC_mB (by unfold InC; omega)
theorem inC_small {b : Int} (h : 2 ≤ b ∧ b ≤ 36) : InC b := by unfold InC; omega
theorem piM_bE {b : Int} (hb : 2 ≤ b ∧ b ≤ 36) {w : List UInt8} (h : w.length ≤ 96) : bE (piM b w) 0 = 0 := by
  unfold bE
  rw [if_pos (piM_oE0 b h), piM_oX0 (inC_small hb) h, if_pos hb]
theorem piM_bX {b : Int} (hb : 2 ≤ b ∧ b ≤ 36) {w : List UInt8} (h : w.length ≤ 96) : bX (piM b w) 0 = b := by
  unfold bX
  rw [if_pos (piM_bE hb h), piM_oX0 (inC_small hb) h]
theorem piM_hE (b : Int) {w : List UInt8} (h : w.length < 96) : hE (piM b w) 0 = 0 := by
  unfold hE
  rw [if_pos (piM_oE8 b (by omega)), piM_oX8 b (by omega), if_pos (by omega), piM_length b (by omega), if_pos (by unfold thB; simp; omega)]
theorem piM_full (b : Int) {w : List UInt8} (h : w.length = 96) : hE (piM b w) 0 = -17 := by
  unfold hE
  rw [if_pos (piM_oE8 b (by omega)), piM_oX8 b (by omega), if_neg (by omega)]
theorem piM_hL (b c : Int) {w : List UInt8} (h : w.length < 96) : hL (piM b w) 0 c = piM b (b8 c :: w) := by
  unfold hL
  rw [if_pos (piM_hE b h), piM_oX8 b (by omega)]
  have e1 : (128 - (w.length : Int) - 1).toNat = 127 - w.length := by omega
  have e2 : 128 - (w.length : Int) - 1 = 128 - ((b8 c :: w).length : Int) := by simp only [List.length_cons]; omega
  rw [e1, e2]
  show splice (splice (piM b w) 8 (mB (128 - ((b8 c :: w).length : Int)))) (127 - w.length) [b8 c] = _
  unfold piM
  rw [splice_mid (mB b) (mB (128 - (w.length : Int))) _ _ 8 (mB_length b) (by rw [mB_length, mB_length])]
  have e3 : List.replicate (112 - w.length) (0 : UInt8) = List.replicate (111 - w.length) 0 ++ [0] := by
    rw [show 112 - w.length = (111 - w.length) + 1 by omega, List.replicate_succ']
  have e4 : 112 - (b8 c :: w).length = 111 - w.length := by simp only [List.length_cons]; omega
  rw [e3, e4]
  have e5 : ∀ x : List UInt8, mB b ++ (x ++ (List.replicate (111 - w.length) 0 ++ [0] ++ w)) = (mB b ++ (x ++ List.replicate (111 - w.length) 0)) ++ ([0] ++ w) := by intro x; simp
  rw [e5, splice_mid _ [0] [b8 c] w _ (by simp only [List.length_append, mB_length, List.length_replicate]; omega) rfl]
  simp
theorem b8_sgn (v : Nat) : b8 ((sgn v).toNat : Int) = sgn v := b8_of _ _ (by have := u8_lt (sgn v); omega)
section
variable {b : Nat} (hb : 2 ≤ b ∧ b ≤ 36) {w : List UInt8}
include hb
theorem piM_dE (h : w.length < 96) : dE (piM b w) 0 = 0 := by
  unfold dE; rw [if_pos (piM_bE (by omega) (by omega)), piM_hE _ h]
theorem piM_dfull (h : w.length = 96) : dE (piM b w) 0 = -17 := by
  unfold dE; rw [if_pos (piM_bE (by omega) (by omega)), piM_full _ h]
theorem piM_dL (h : w.length < 96) (q : Nat) : dL (piM b w) 0 q = piM b (sgn (q % b) :: w) := by
  unfold dL
  rw [if_pos (piM_dE hb h), piM_bX (by omega) (by omega), Int.toNat_natCast, piM_hL _ _ h, b8_sgn]
theorem piM_dQ (h : w.length < 96) (q : Nat) : dQ (piM b w) 0 q = q / b := by
  unfold dQ
  rw [if_pos (piM_dE hb h), piM_bX (by omega) (by omega), Int.toNat_natCast]
end
/-- All digits of a number, laid ahead of a picture. -/
theorem piM_all {b : Nat} (hb : 2 ≤ b ∧ b ≤ 36) : ∀ (k q : Nat) (w : List UInt8), q < 2 ^ k → w.length ≤ 96 →
    (w.length + (uT b q).length ≤ 96 → aE (k + 1) (piM b w) 0 q = 0 ∧ aM (k + 1) (piM b w) 0 q = piM b (uT b q ++ w)) ∧ (96 < w.length + (uT b q).length → aE (k + 1) (piM b w) 0 q = -17)
  | k, q, w, hq, hw => by
    have hne : 0 < (uT b q).length := List.length_pos_iff.2 uT_ne
    by_cases h : w.length < 96
    · have e1 := piM_dE hb h
      have e2 := piM_dL hb h q
      have e3 := piM_dQ hb h q
      by_cases h0 : q / b = 0
      · have hu : uT b q = [sgn (q % b)] := by rw [uT_last hb.1]; unfold uL; rw [if_pos h0]; rfl
        refine ⟨fun _ => ⟨?_, ?_⟩, fun hh => ?_⟩
        · rw [aE, if_pos e1, e3, if_pos h0]
        · rw [aM, if_pos e1, e3, if_pos h0, e2, hu]; rfl
        · rw [hu] at hh; simp at hh; omega
      · have hbq : b ≤ q := by
          rcases Nat.lt_or_ge q b with hlt | hge
          · exact absurd (Nat.div_eq_of_lt hlt) h0
          · exact hge
        have hu : uT b q = uT b (q / b) ++ [sgn (q % b)] := uT_more hb.1 hbq
        match k, hq with
        | 0, hq => omega
        | k' + 1, hq =>
          have hq2 : q / b < 2 ^ k' := by
            have : q / b ≤ q / 2 := Nat.div_le_div_left hb.1 (by omega)
            rw [Nat.pow_succ] at hq
            omega
          have ih := piM_all hb k' (q / b) (sgn (q % b) :: w) hq2 (by simp only [List.length_cons]; omega)
          have hlen : (sgn (q % b) :: w).length + (uT b (q / b)).length = w.length + (uT b q).length := by rw [hu]; simp only [List.length_cons, List.length_append, List.length_nil]; omega
          rw [hlen] at ih
          refine ⟨fun hh => ⟨?_, ?_⟩, fun hh => ?_⟩
          · rw [aE, if_pos e1, e3, if_neg h0, e2]; exact (ih.1 hh).1
          · rw [aM, if_pos e1, e3, if_neg h0, e2, (ih.1 hh).2, hu]; simp
          · rw [aE, if_pos e1, e3, if_neg h0, e2]; exact ih.2 hh
    · have h96 : w.length = 96 := by omega
      have e1 := piM_dfull hb h96
      refine ⟨fun hh => by omega, fun _ => ?_⟩
      rw [aE, e1]; rfl
theorem piM_nE (b : Int) {w : List UInt8} (h : w.length ≤ 96) : nE (piM b w) 0 = 0 := by
  unfold nE
  rw [if_pos (piM_oE8 b h), piM_oX8 b h, if_pos (by omega)]
theorem piM_nH (b : Int) {w : List UInt8} (h : w.length ≤ 96) : nH (piM b w) 0 = 128 - (w.length : Int) := by
  unfold nH; rw [if_pos (piM_nE b h), piM_oX8 b h]
theorem piM_nN (b : Int) {w : List UInt8} (h : w.length ≤ 96) : nN (piM b w) 0 = (w.length : Int) := by
  unfold nN; rw [if_pos (piM_nE b h), piM_oX8 b h]; omega
theorem piM_aL {b : Nat} (hb : 2 ≤ b ∧ b ≤ 36) {q : Nat} (hq : q < 340282366920938463463374607431768211456) (h : (uT b q).length ≤ 96) : aE 200 (piM b []) 0 q = 0 ∧ aL (piM b []) 0 q = piM b (uT b q) := by
  have := (piM_all hb 199 q [] (Nat.lt_trans hq (by decide)) (by simp)).1 (by simpa using h)
  refine ⟨this.1, ?_⟩
  unfold aL
  rw [if_pos this.1, this.2, List.append_nil]
theorem piM_aE {b : Nat} (hb : 2 ≤ b ∧ b ≤ 36) {q : Nat} (hq : q < 340282366920938463463374607431768211456) (h : 96 < (uT b q).length) : aE 200 (piM b []) 0 q = -17 :=
  (piM_all hb 199 q [] (Nat.lt_trans hq (by decide)) (by simp)).2 (by simpa using h)
end Go.Proofs.Yticeeckahdjjmaa
