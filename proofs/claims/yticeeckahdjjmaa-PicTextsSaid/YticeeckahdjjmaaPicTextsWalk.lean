/-
  The call of the statement PicTexts answers true at every double and base; of what was there nothing has changed.
-/
import Derived.Test.YticeeckahdjjmaaPicAwake
import Derived.Deep.RegionHeld3
namespace Go.Proofs.Yticeeckahdjjmaa
open Go.RowKit

section
variable (w : World)
/-- What is let go. -/
theorem texts_out (lo hi b : Int) (h : b < 2 ∨ 36 < b ∨ hi < 0) :
    Calls Try.prog 4 #[.agg #[.int .i64 lo, .int .i64 hi], .int .i64 b] w fun e w' => e = .returned (.bool true) ∧ Keeps w w' := by
  have h' : b < 2 ∨ (¬ b < 2 ∧ 36 < b) ∨ (¬ b < 2 ∧ ¬ 36 < b ∧ hi < 0) := by omega
  clear h
  rcases h' with d1 | ⟨d1, d2⟩ | ⟨d1, d2, d3⟩
  all_goals
    go_enter Try.func4, Try.ntmps4
    go_wp2_with (go_at_call 7; refine (pawake_any _).mono ?_; rintro e w1 ⟨rfl, hk⟩; obtain ⟨x0, x1, f0, f1⟩ := resK hk (R := w.heap.size) (by simp) ⟨by simp [go_sem]; rfl, by simp [go_sem]; rfl, by simp [go_sem], by simp [go_sem]⟩; have HK := Lib.hid (((Keeps.refl w).alloc _).trans hk); clear hk)
    go_ret
    exact ⟨rfl, HK.out⟩
set_option maxHeartbeats 2000000 in
set_option maxRecDepth 100000 in
theorem texts_long (lo hi : Int) (b q : Nat) (W : List UInt8) (S : ByteArray) (hb : 2 ≤ b ∧ b ≤ 36) (hq : q < 170141183460469231731687303715884105728) (hlo : dLo q = lo) (hhi : dHi q = hi) (hn : 0 ≤ hi) (hW : uT b q = W) (hl : 96 < W.length) (hS : S = ⟨W.toArray⟩) :
    Calls Try.prog 4 #[.agg #[.int .i64 lo, .int .i64 hi], .int .i64 (b : Int)] w fun e w' => e = .returned (.bool true) ∧ Keeps w w' := by
  have d1 : ¬ (b : Int) < 2 := by omega
  have d2 : ¬ (36 : Int) < (b : Int) := by omega
  have d3 : ¬ hi < 0 := by omega
  have hqq : q < 340282366920938463463374607431768211456 := by omega
  have HRD := Lib.hid (ready_any (b : Int))
  have HDT : Hid (∀ w, Calls Try.prog 23 #[.agg #[.int .i64 lo, .int .i64 hi], .int .i64 (b : Int)] w fun e w' => e = .returned (.string S) ∧ Keeps w w') := Lib.hid fun w => by
    have h := dtext_is (q : Int) (b : Int) (by unfold InD; omega) S (by rw [hS, ← hW]; unfold dTx; rw [baB_iff.2 (by omega), if_pos rfl, if_neg (by omega)]; simp) w
    rw [hlo, hhi] at h
    exact h
  obtain ⟨m, hm⟩ : ∃ m, W.length = m := ⟨_, rfl⟩
  rw [hm] at hl
  have hz : S.size = m := by rw [hS, size_mk, hm]
  have HAL : Hid (∀ A c w, Mem w A 128 c (piM b []) → Calls Try.prog 14 #[.slice A 128 c, .int .i64 0, .agg #[.int .i64 lo, .int .i64 hi]] w fun e w' => ∃ A' c' l', e = .returned (.tuple #[.slice A' 128 c', .agg #[.int .i64 0, .int .i64 0], .int .i64 (-17)]) ∧ Mem w' A' 128 c' l' ∧ Keeps w w') := Lib.hid fun A c w h =>
    (pall_is A 128 c _ w 0 lo hi _ q _ hlo hhi (piM_aE hb hqq (by rw [hW, hm]; exact hl)) rfl hqq (by decide) h).mono fun e w' ⟨A', c', h1, h2, h3⟩ => ⟨A', c', _, h1, h2, h3⟩
  have t1 : decide ((96 : Int) < (m : Int)) = true := decide_eq_true (by omega)
  clear hS hW hlo hhi hq hqq hn hb hl hm
  go_enter Try.func4, Try.ntmps4
  go_wp2_with (go_at_call 7; refine (pawake_any _).mono ?_; rintro e w1 ⟨rfl, hk⟩; obtain ⟨x0, x1, f0, f1⟩ := resK hk (R := w.heap.size) (by simp) ⟨by simp [go_sem]; rfl, by simp [go_sem]; rfl, by simp [go_sem], by simp [go_sem]⟩; have hlt : w.heap.size < w1.heap.size := (by have := hk.size; simp at this; omega); have HX := Lib.hid (And.intro x0 x1); have HL := Lib.hid hlt; have HK := Lib.hid (((Keeps.refl w).alloc _).trans hk); clear hk)
  have PS : Hid (∀ w', Keeps w1 w' → (w'.cell? ⟨w.heap.size, 0, none⟩ = some (.int .i64 lo) ∧ w'.cell? ⟨w.heap.size, 1, none⟩ = some (.int .i64 hi) ∧ w.heap.size < w'.heap.size) ∧ Keeps w1 w') := Lib.hid fun w' k => ⟨⟨k.cell_some HL.out HX.out.1, k.cell_some HL.out HX.out.2, Nat.lt_of_lt_of_le HL.out k.size⟩, k⟩
  go_region_held3 (fun w' => (w'.cell? ⟨w.heap.size, 0, none⟩ = some (.int .i64 lo) ∧ w'.cell? ⟨w.heap.size, 1, none⟩ = some (.int .i64 hi) ∧ w.heap.size < w'.heap.size) ∧ Keeps w1 w') (first | exact PS.out _ ((HG3.out.setCell HG2.out.size _).setCell HG2.out.size _) | exact PS.out _ ((HG3.out.setCell (Nat.le_refl _) _).setCell (Nat.le_refl _) _) | exact PS.out _ HG3.out | exact PS.out _ (HG3.out.alloc _) | exact PS.out _ HG2.out | exact PS.out _ (HG2.out.alloc _) | exact PS.out _ ((Keeps.refl _).drew.alloc _) | exact PS.out _ (Keeps.refl _).drew)
    (first
      | (go_at_call 22; refine (HRD.out _).mono ?_; rintro e w2 ⟨A2, c2, rfl, hm2, hk2⟩; have H2 := Lib.hid hm2; have HG2 := Lib.hid (((Keeps.refl w1).drew).trans hk2); clear hm2 hk2)
      | (go_at_call 22; refine (HRD.out _).mono ?_; rintro e w2 ⟨A2, c2, rfl, hm2, hk2⟩; have H2 := Lib.hid hm2; have HG2 := Lib.hid (((Keeps.refl w1).drew.alloc _).trans hk2); have YT := Lib.hid (Two.keeps (w := w1.drew.alloc (.cells #[.int .i64 0, .int .i64 0] 24)) (B := w1.heap.size) (x := 0) (y := 0) (heap_alloc_new w1.drew (.cells #[.int .i64 0, .int .i64 0] 24)) hk2); clear hm2 hk2)
      | (go_at_call 14; have hy := YT; (with_reducible refine (HAL.out _ _ _ H2.out).mono ?_); rintro e w3 ⟨A3, c3, l3, rfl, hm3, hk3⟩; have H3 := Lib.hid hm3; have HG3 := Lib.hid (HG2.out.trans hk3); have ZT := Lib.hid (YT.out.keeps hk3); obtain ⟨z0, z1, j0, j1⟩ := ZT.out.cells; clear hm3 hk3)
      | (go_at_call 14; (with_reducible refine (HAL.out _ _ _ H2.out).mono ?_); rintro e w3 ⟨A3, c3, l3, rfl, hm3, hk3⟩; have H3 := Lib.hid hm3; have HG3 := Lib.hid (HG2.out.trans hk3); clear hm3 hk3)
      | (go_at_call 14; (with_reducible refine (HAL.out _ _ _ (H2.out.alloc _)).mono ?_); rintro e w3 ⟨A3, c3, l3, rfl, hm3, hk3⟩; have H3 := Lib.hid hm3; have HG3 := Lib.hid ((HG2.out.alloc _).trans hk3); have ZT := Lib.hid (Two.keeps (w := w2.alloc (.cells #[.int .i64 0, .int .i64 0] 24)) (B := w2.heap.size) (x := 0) (y := 0) (heap_alloc_new w2 (.cells #[.int .i64 0, .int .i64 0] 24)) hk3); obtain ⟨z0, z1, j0, j1⟩ := ZT.out.cells; clear hm3 hk3))
  all_goals
    first
      | (have TT := Lib.hid (ZT.out.store 0 0)
         have hoff := ZT.out.off H3.out
         have M3 := Lib.hid ((H3.out.set (o := 0) hoff (.int .i64 0)).set (o := 1) hoff (.int .i64 0))
         have HV : Hid (Keeps w1 ((w3.setCell ⟨w2.heap.size, 0, none⟩ (.int .i64 0)).setCell ⟨w2.heap.size, 1, none⟩ (.int .i64 0))) := Lib.hid ((HG3.out.setCell HG2.out.size _).setCell HG2.out.size _)
         have HR : w2.heap.size < ((w3.setCell ⟨w2.heap.size, 0, none⟩ (.int .i64 0)).setCell ⟨w2.heap.size, 1, none⟩ (.int .i64 0)).heap.size := TT.out.lt
         generalize (w3.setCell ⟨w2.heap.size, 0, none⟩ (.int .i64 0)).setCell ⟨w2.heap.size, 1, none⟩ (.int .i64 0) = V at TT HV M3 HR ⊢
         generalize w2.heap.size = R at TT HR ⊢)
      | (have TT := Lib.hid (ZT.out.store 0 0)
         have hoff := ZT.out.off H3.out
         have M3 := Lib.hid ((H3.out.set (o := 0) hoff (.int .i64 0)).set (o := 1) hoff (.int .i64 0))
         have HV : Hid (Keeps w1 ((w3.setCell ⟨w1.heap.size, 0, none⟩ (.int .i64 0)).setCell ⟨w1.heap.size, 1, none⟩ (.int .i64 0))) := Lib.hid ((HG3.out.setCell (Nat.le_refl w1.heap.size) _).setCell (Nat.le_refl w1.heap.size) _)
         have HR : w1.heap.size < ((w3.setCell ⟨w1.heap.size, 0, none⟩ (.int .i64 0)).setCell ⟨w1.heap.size, 1, none⟩ (.int .i64 0)).heap.size := TT.out.lt
         generalize (w3.setCell ⟨w1.heap.size, 0, none⟩ (.int .i64 0)).setCell ⟨w1.heap.size, 1, none⟩ (.int .i64 0) = V at TT HV M3 HR ⊢
         generalize w1.heap.size = R at TT HR ⊢)
      | (have TT : Hid (Two (w3.alloc (.cells #[.int .i64 0, .int .i64 0] 24)) w3.heap.size 0 0) := Lib.hid (heap_alloc_new w3 (.cells #[.int .i64 0, .int .i64 0] 24))
         have HV := Lib.hid (HG3.out.alloc (.cells #[.int .i64 0, .int .i64 0] 24))
         have M3 := Lib.hid (H3.out.alloc (.cells #[.int .i64 0, .int .i64 0] 24))
         have HR : w3.heap.size < (w3.alloc (.cells #[.int .i64 0, .int .i64 0] 24)).heap.size := TT.out.lt
         generalize w3.alloc (.cells #[.int .i64 0, .int .i64 0] 24) = V at TT HV M3 HR ⊢
         generalize w3.heap.size = R at TT HR ⊢)
    obtain ⟨⟨v0, v1, hvl⟩, -⟩ := PS.out _ HV.out
    go_wp2_with (go_at_call 23; refine (HDT.out _).mono ?_; rintro e w4 ⟨rfl, hk4⟩; have HV4 := Lib.hid (HV.out.trans hk4); clear hk4)
    go_ret
    exact ⟨rfl, HK.out.trans HV4.out⟩
set_option maxHeartbeats 2000000 in
set_option maxRecDepth 100000 in
theorem texts_room (lo hi : Int) (b q : Nat) (W : List UInt8) (S S2 : ByteArray) (hb : 2 ≤ b ∧ b ≤ 36) (hq : q < 170141183460469231731687303715884105728) (hlo : dLo q = lo) (hhi : dHi q = hi) (hn : 0 ≤ hi) (hW : uT b q = W) (hl : W.length < 96) (hS : S = ⟨W.toArray⟩) (hS2 : S2 = ⟨(45 :: W).toArray⟩) :
    Calls Try.prog 4 #[.agg #[.int .i64 lo, .int .i64 hi], .int .i64 (b : Int)] w fun e w' => e = .returned (.bool true) ∧ Keeps w w' := by
  have d1 : ¬ (b : Int) < 2 := by omega
  have d2 : ¬ (36 : Int) < (b : Int) := by omega
  have d3 : ¬ hi < 0 := by omega
  have hqq : q < 340282366920938463463374607431768211456 := by omega
  have HRD := Lib.hid (ready_any (b : Int))
  have HDT : Hid (∀ w, Calls Try.prog 23 #[.agg #[.int .i64 lo, .int .i64 hi], .int .i64 (b : Int)] w fun e w' => e = .returned (.string S) ∧ Keeps w w') := Lib.hid fun w => by
    have h := dtext_is (q : Int) (b : Int) (by unfold InD; omega) S (by rw [hS, ← hW]; unfold dTx; rw [baB_iff.2 (by omega), if_pos rfl, if_neg (by omega)]; simp) w
    rw [hlo, hhi] at h
    exact h
  obtain ⟨m, hm⟩ : ∃ m, W.length = m := ⟨_, rfl⟩
  rw [hm] at hl
  have hz : S.size = m := by rw [hS, size_mk, hm]
  have hl96 : W.length ≤ 96 := by omega
  have HAL : Hid (∀ A c w, Mem w A 128 c (piM b []) → Calls Try.prog 14 #[.slice A 128 c, .int .i64 0, .agg #[.int .i64 lo, .int .i64 hi]] w fun e w' => ∃ A' c', e = .returned (.tuple #[.slice A' 128 c', .agg #[.int .i64 0, .int .i64 0], .int .i64 0]) ∧ Mem w' A' 128 c' (piM b W) ∧ Keeps w w') := Lib.hid fun A c w h => by
    have ha := piM_aL hb hqq (by rw [hW]; exact hl96)
    rw [hW] at ha
    exact pall_is A 128 c _ w 0 lo hi _ q _ hlo hhi ha.1 ha.2 hqq (by decide) h
  have t1 : decide ((96 : Int) < (m : Int)) = false := decide_eq_false (by omega)
  obtain ⟨p, hp⟩ : ∃ p, 128 - W.length = p := ⟨_, rfl⟩
  have HE1 : Hid (∀ A c w, Mem w A 128 c (piM b W) → Calls Try.prog 18 #[.slice A 128 c, .int .i64 0] w fun e w' => e = .returned (.tuple #[.int .i64 (p : Int), .int .i64 (m : Int), .int .i64 0]) ∧ w = w') := Lib.hid fun A c w h => by
    have h1 := pend_any A 128 c _ w 0 (by decide) h
    rw [piM_nH _ hl96, piM_nN _ hl96, piM_nE _ hl96, show (128 - (W.length : Int)) = (p : Int) by omega, hm] at h1
    exact h1
  have HT1 : Hid (∀ A c w, Mem w A 128 c (piM b W) → Calls Try.prog 24 #[.slice A 128 c, .int .i64 (p : Int), .int .i64 (m : Int)] w fun e w' => e = .returned (.tuple #[.string S, .int .i64 0]) ∧ w = w') := Lib.hid fun A c w h => by
    have h1 := text_yes A 128 c _ w p m (by decide) h (by omega)
    have h2 := piM_text (b : Int) hl96
    rw [hp, hm] at h2
    rw [h2, ← hS] at h1
    exact h1
  have HSG : Hid (∀ A c w, Mem w A 128 c (piM b W) → Calls Try.prog 16 #[.slice A 128 c, .int .i64 0, .int .i64 (-1)] w (HoldPost w 128 (piM b (45 :: W)) 0)) := Lib.hid fun A c w h => by
    have h1 := psign_any A 128 c _ w 0 (-1) (by decide) h
    have e1 : psE (piM b W) 0 (-1) = 0 := by unfold psE; rw [if_pos (by decide), piM_hE _ (by omega)]
    have e2 : psL (piM b W) 0 (-1) = piM b (45 :: W) := by unfold psL; rw [if_pos (by decide), piM_hL _ _ (by omega)]; rfl
    rw [e1, e2] at h1
    exact h1
  have hl97 : (45 :: W).length ≤ 96 := by simp only [List.length_cons]; omega
  obtain ⟨p2, hp2⟩ : ∃ p, 128 - (45 :: W).length = p := ⟨_, rfl⟩
  obtain ⟨m2, hm2⟩ : ∃ m, (45 :: W).length = m := ⟨_, rfl⟩
  have HE2 : Hid (∀ A c w, Mem w A 128 c (piM b (45 :: W)) → Calls Try.prog 18 #[.slice A 128 c, .int .i64 0] w fun e w' => e = .returned (.tuple #[.int .i64 (p2 : Int), .int .i64 (m2 : Int), .int .i64 0]) ∧ w = w') := Lib.hid fun A c w h => by
    have h1 := pend_any A 128 c _ w 0 (by decide) h
    rw [piM_nH _ hl97, piM_nN _ hl97, piM_nE _ hl97, show (128 - ((45 :: W).length : Int)) = (p2 : Int) by omega, hm2] at h1
    exact h1
  have HT2 : Hid (∀ A c w, Mem w A 128 c (piM b (45 :: W)) → Calls Try.prog 24 #[.slice A 128 c, .int .i64 (p2 : Int), .int .i64 (m2 : Int)] w fun e w' => e = .returned (.tuple #[.string S2, .int .i64 0]) ∧ w = w') := Lib.hid fun A c w h => by
    have h1 := text_yes A 128 c _ w p2 m2 (by decide) h (by omega)
    have h2 := piM_text (b : Int) hl97
    rw [hp2, hm2] at h2
    rw [h2, ← hS2] at h1
    exact h1
  have hcat : (⟨#[45]⟩ : ByteArray) ++ S = S2 := by rw [hS2, hS]; exact ByteArray.mk_append_mk [45] _
  have hsz : ¬ 9223372036854775807 < (⟨#[45]⟩ : ByteArray).size + S.size := by rw [hz]; simp [ByteArray.size]; omega
  have hsz2 : ¬ 9223372036854775807 < (⟨#[45]⟩ : ByteArray).size + m := by simp [ByteArray.size]; omega
  clear hS hS2 hW hlo hhi hq hqq hn hb hl hl96 hl97 hm hp hm2 hp2
  go_enter Try.func4, Try.ntmps4
  go_wp2_with (go_at_call 7; refine (pawake_any _).mono ?_; rintro e w1 ⟨rfl, hk⟩; obtain ⟨x0, x1, f0, f1⟩ := resK hk (R := w.heap.size) (by simp) ⟨by simp [go_sem]; rfl, by simp [go_sem]; rfl, by simp [go_sem], by simp [go_sem]⟩; have hlt : w.heap.size < w1.heap.size := (by have := hk.size; simp at this; omega); have HX := Lib.hid (And.intro x0 x1); have HL := Lib.hid hlt; have HK := Lib.hid (((Keeps.refl w).alloc _).trans hk); clear hk)
  have PS : Hid (∀ w', Keeps w1 w' → (w'.cell? ⟨w.heap.size, 0, none⟩ = some (.int .i64 lo) ∧ w'.cell? ⟨w.heap.size, 1, none⟩ = some (.int .i64 hi) ∧ w.heap.size < w'.heap.size) ∧ Keeps w1 w') := Lib.hid fun w' k => ⟨⟨k.cell_some HL.out HX.out.1, k.cell_some HL.out HX.out.2, Nat.lt_of_lt_of_le HL.out k.size⟩, k⟩
  go_region_held3 (fun w' => (w'.cell? ⟨w.heap.size, 0, none⟩ = some (.int .i64 lo) ∧ w'.cell? ⟨w.heap.size, 1, none⟩ = some (.int .i64 hi) ∧ w.heap.size < w'.heap.size) ∧ Keeps w1 w') (first | exact PS.out _ ((HG3.out.setCell HG2.out.size _).setCell HG2.out.size _) | exact PS.out _ ((HG3.out.setCell (Nat.le_refl _) _).setCell (Nat.le_refl _) _) | exact PS.out _ HG3.out | exact PS.out _ (HG3.out.alloc _) | exact PS.out _ HG2.out | exact PS.out _ (HG2.out.alloc _) | exact PS.out _ ((Keeps.refl _).drew.alloc _) | exact PS.out _ (Keeps.refl _).drew)
    (first
      | (go_at_call 22; refine (HRD.out _).mono ?_; rintro e w2 ⟨A2, c2, rfl, hm2, hk2⟩; have H2 := Lib.hid hm2; have HG2 := Lib.hid (((Keeps.refl w1).drew).trans hk2); clear hm2 hk2)
      | (go_at_call 22; refine (HRD.out _).mono ?_; rintro e w2 ⟨A2, c2, rfl, hm2, hk2⟩; have H2 := Lib.hid hm2; have HG2 := Lib.hid (((Keeps.refl w1).drew.alloc _).trans hk2); have YT := Lib.hid (Two.keeps (w := w1.drew.alloc (.cells #[.int .i64 0, .int .i64 0] 24)) (B := w1.heap.size) (x := 0) (y := 0) (heap_alloc_new w1.drew (.cells #[.int .i64 0, .int .i64 0] 24)) hk2); clear hm2 hk2)
      | (go_at_call 14; have hy := YT; (with_reducible refine (HAL.out _ _ _ H2.out).mono ?_); rintro e w3 ⟨A3, c3, rfl, hm3, hk3⟩; have H3 := Lib.hid hm3; have HG3 := Lib.hid (HG2.out.trans hk3); have ZT := Lib.hid (YT.out.keeps hk3); obtain ⟨z0, z1, j0, j1⟩ := ZT.out.cells; clear hm3 hk3)
      | (go_at_call 14; (with_reducible refine (HAL.out _ _ _ H2.out).mono ?_); rintro e w3 ⟨A3, c3, rfl, hm3, hk3⟩; have H3 := Lib.hid hm3; have HG3 := Lib.hid (HG2.out.trans hk3); clear hm3 hk3)
      | (go_at_call 14; (with_reducible refine (HAL.out _ _ _ (H2.out.alloc _)).mono ?_); rintro e w3 ⟨A3, c3, rfl, hm3, hk3⟩; have H3 := Lib.hid hm3; have HG3 := Lib.hid ((HG2.out.alloc _).trans hk3); have ZT := Lib.hid (Two.keeps (w := w2.alloc (.cells #[.int .i64 0, .int .i64 0] 24)) (B := w2.heap.size) (x := 0) (y := 0) (heap_alloc_new w2 (.cells #[.int .i64 0, .int .i64 0] 24)) hk3); obtain ⟨z0, z1, j0, j1⟩ := ZT.out.cells; clear hm3 hk3))
  all_goals
    first
      | (have TT := Lib.hid (ZT.out.store 0 0)
         have hoff := ZT.out.off H3.out
         have M3 := Lib.hid ((H3.out.set (o := 0) hoff (.int .i64 0)).set (o := 1) hoff (.int .i64 0))
         have HV : Hid (Keeps w1 ((w3.setCell ⟨w2.heap.size, 0, none⟩ (.int .i64 0)).setCell ⟨w2.heap.size, 1, none⟩ (.int .i64 0))) := Lib.hid ((HG3.out.setCell HG2.out.size _).setCell HG2.out.size _)
         have HR : w2.heap.size < ((w3.setCell ⟨w2.heap.size, 0, none⟩ (.int .i64 0)).setCell ⟨w2.heap.size, 1, none⟩ (.int .i64 0)).heap.size := TT.out.lt
         generalize (w3.setCell ⟨w2.heap.size, 0, none⟩ (.int .i64 0)).setCell ⟨w2.heap.size, 1, none⟩ (.int .i64 0) = V at TT HV M3 HR ⊢
         generalize w2.heap.size = R at TT HR ⊢)
      | (have TT := Lib.hid (ZT.out.store 0 0)
         have hoff := ZT.out.off H3.out
         have M3 := Lib.hid ((H3.out.set (o := 0) hoff (.int .i64 0)).set (o := 1) hoff (.int .i64 0))
         have HV : Hid (Keeps w1 ((w3.setCell ⟨w1.heap.size, 0, none⟩ (.int .i64 0)).setCell ⟨w1.heap.size, 1, none⟩ (.int .i64 0))) := Lib.hid ((HG3.out.setCell (Nat.le_refl w1.heap.size) _).setCell (Nat.le_refl w1.heap.size) _)
         have HR : w1.heap.size < ((w3.setCell ⟨w1.heap.size, 0, none⟩ (.int .i64 0)).setCell ⟨w1.heap.size, 1, none⟩ (.int .i64 0)).heap.size := TT.out.lt
         generalize (w3.setCell ⟨w1.heap.size, 0, none⟩ (.int .i64 0)).setCell ⟨w1.heap.size, 1, none⟩ (.int .i64 0) = V at TT HV M3 HR ⊢
         generalize w1.heap.size = R at TT HR ⊢)
      | (have TT : Hid (Two (w3.alloc (.cells #[.int .i64 0, .int .i64 0] 24)) w3.heap.size 0 0) := Lib.hid (heap_alloc_new w3 (.cells #[.int .i64 0, .int .i64 0] 24))
         have HV := Lib.hid (HG3.out.alloc (.cells #[.int .i64 0, .int .i64 0] 24))
         have M3 := Lib.hid (H3.out.alloc (.cells #[.int .i64 0, .int .i64 0] 24))
         have HR : w3.heap.size < (w3.alloc (.cells #[.int .i64 0, .int .i64 0] 24)).heap.size := TT.out.lt
         generalize w3.alloc (.cells #[.int .i64 0, .int .i64 0] 24) = V at TT HV M3 HR ⊢
         generalize w3.heap.size = R at TT HR ⊢)
    obtain ⟨⟨v0, v1, hvl⟩, -⟩ := PS.out _ HV.out
    go_wp2_with (first
      | (go_at_call 23; refine (HDT.out _).mono ?_; rintro e w4 ⟨rfl, hk4⟩; have HV4 := Lib.hid (HV.out.trans hk4); have M4 := Lib.hid (M3.out.keeps hk4); have T4 := Lib.hid (TT.out.keeps hk4); clear hk4)
      | (go_at_call 16; refine (HSG.out _ _ _ M4.out).mono ?_; rintro e w5 ⟨A5, c5, rfl, hm5, hk5⟩; have M5 := Lib.hid hm5; have N5 := Lib.hid (M4.out.keeps hk5); have HV5 := Lib.hid (HV4.out.trans hk5); obtain ⟨r0, r1, q0, q1⟩ := (T4.out.keeps hk5).cells; have hl5 : R < w5.heap.size := (T4.out.keeps hk5).lt; clear hm5 hk5)
      | (go_at_call 18; (with_reducible refine (HE1.out _ _ _ N5.out).mono ?_); rintro e w' ⟨rfl, rfl⟩)
      | (go_at_call 18; (with_reducible refine (HE2.out _ _ _ M5.out).mono ?_); rintro e w' ⟨rfl, rfl⟩)
      | (go_at_call 24; (with_reducible refine (HT1.out _ _ _ N5.out).mono ?_); rintro e w' ⟨rfl, rfl⟩)
      | (go_at_call 24; (with_reducible refine (HT2.out _ _ _ M5.out).mono ?_); rintro e w' ⟨rfl, rfl⟩))
    go_ret
    exact ⟨rfl, HK.out.trans HV5.out⟩
set_option maxHeartbeats 2000000 in
set_option maxRecDepth 100000 in
theorem texts_full (lo hi : Int) (b q : Nat) (W : List UInt8) (S : ByteArray) (hb : 2 ≤ b ∧ b ≤ 36) (hq : q < 170141183460469231731687303715884105728) (hlo : dLo q = lo) (hhi : dHi q = hi) (hn : 0 ≤ hi) (hW : uT b q = W) (hl : W.length = 96) (hS : S = ⟨W.toArray⟩) :
    Calls Try.prog 4 #[.agg #[.int .i64 lo, .int .i64 hi], .int .i64 (b : Int)] w fun e w' => e = .returned (.bool true) ∧ Keeps w w' := by
  have d1 : ¬ (b : Int) < 2 := by omega
  have d2 : ¬ (36 : Int) < (b : Int) := by omega
  have d3 : ¬ hi < 0 := by omega
  have hqq : q < 340282366920938463463374607431768211456 := by omega
  have HRD := Lib.hid (ready_any (b : Int))
  have HDT : Hid (∀ w, Calls Try.prog 23 #[.agg #[.int .i64 lo, .int .i64 hi], .int .i64 (b : Int)] w fun e w' => e = .returned (.string S) ∧ Keeps w w') := Lib.hid fun w => by
    have h := dtext_is (q : Int) (b : Int) (by unfold InD; omega) S (by rw [hS, ← hW]; unfold dTx; rw [baB_iff.2 (by omega), if_pos rfl, if_neg (by omega)]; simp) w
    rw [hlo, hhi] at h
    exact h
  obtain ⟨m, hm⟩ : ∃ m, W.length = m := ⟨_, rfl⟩
  rw [hm] at hl
  have hz : S.size = m := by rw [hS, size_mk, hm]
  have hl96 : W.length ≤ 96 := by omega
  have HAL : Hid (∀ A c w, Mem w A 128 c (piM b []) → Calls Try.prog 14 #[.slice A 128 c, .int .i64 0, .agg #[.int .i64 lo, .int .i64 hi]] w fun e w' => ∃ A' c', e = .returned (.tuple #[.slice A' 128 c', .agg #[.int .i64 0, .int .i64 0], .int .i64 0]) ∧ Mem w' A' 128 c' (piM b W) ∧ Keeps w w') := Lib.hid fun A c w h => by
    have ha := piM_aL hb hqq (by rw [hW]; exact hl96)
    rw [hW] at ha
    exact pall_is A 128 c _ w 0 lo hi _ q _ hlo hhi ha.1 ha.2 hqq (by decide) h
  have t1 : decide ((96 : Int) < (m : Int)) = false := decide_eq_false (by omega)
  obtain ⟨p, hp⟩ : ∃ p, 128 - W.length = p := ⟨_, rfl⟩
  have HE1 : Hid (∀ A c w, Mem w A 128 c (piM b W) → Calls Try.prog 18 #[.slice A 128 c, .int .i64 0] w fun e w' => e = .returned (.tuple #[.int .i64 (p : Int), .int .i64 (m : Int), .int .i64 0]) ∧ w = w') := Lib.hid fun A c w h => by
    have h1 := pend_any A 128 c _ w 0 (by decide) h
    rw [piM_nH _ hl96, piM_nN _ hl96, piM_nE _ hl96, show (128 - (W.length : Int)) = (p : Int) by omega, hm] at h1
    exact h1
  have HT1 : Hid (∀ A c w, Mem w A 128 c (piM b W) → Calls Try.prog 24 #[.slice A 128 c, .int .i64 (p : Int), .int .i64 (m : Int)] w fun e w' => e = .returned (.tuple #[.string S, .int .i64 0]) ∧ w = w') := Lib.hid fun A c w h => by
    have h1 := text_yes A 128 c _ w p m (by decide) h (by omega)
    have h2 := piM_text (b : Int) hl96
    rw [hp, hm] at h2
    rw [h2, ← hS] at h1
    exact h1
  have HSG : Hid (∀ A c w, Mem w A 128 c (piM b W) → Calls Try.prog 16 #[.slice A 128 c, .int .i64 0, .int .i64 (-1)] w (HoldPost w 128 (piM b W) (-17))) := Lib.hid fun A c w h => by
    have h1 := psign_any A 128 c _ w 0 (-1) (by decide) h
    have e0 : hE (piM b W) 0 = -17 := piM_full _ (by omega)
    have e1 : psE (piM b W) 0 (-1) = -17 := by unfold psE; rw [if_pos (by decide), e0]
    have e2 : psL (piM b W) 0 (-1) = piM b W := by unfold psL; rw [if_pos (by decide)]; unfold hL; rw [e0]; rfl
    rw [e1, e2] at h1
    exact h1
  have HE2 := HE1
  have HT2 := HT1
  have t2 : ((m : Int) == 96) = true := by simp; omega
  clear hS hW hlo hhi hq hqq hn hb hl hl96 hm hp
  go_enter Try.func4, Try.ntmps4
  go_wp2_with (go_at_call 7; refine (pawake_any _).mono ?_; rintro e w1 ⟨rfl, hk⟩; obtain ⟨x0, x1, f0, f1⟩ := resK hk (R := w.heap.size) (by simp) ⟨by simp [go_sem]; rfl, by simp [go_sem]; rfl, by simp [go_sem], by simp [go_sem]⟩; have hlt : w.heap.size < w1.heap.size := (by have := hk.size; simp at this; omega); have HX := Lib.hid (And.intro x0 x1); have HL := Lib.hid hlt; have HK := Lib.hid (((Keeps.refl w).alloc _).trans hk); clear hk)
  have PS : Hid (∀ w', Keeps w1 w' → (w'.cell? ⟨w.heap.size, 0, none⟩ = some (.int .i64 lo) ∧ w'.cell? ⟨w.heap.size, 1, none⟩ = some (.int .i64 hi) ∧ w.heap.size < w'.heap.size) ∧ Keeps w1 w') := Lib.hid fun w' k => ⟨⟨k.cell_some HL.out HX.out.1, k.cell_some HL.out HX.out.2, Nat.lt_of_lt_of_le HL.out k.size⟩, k⟩
  go_region_held3 (fun w' => (w'.cell? ⟨w.heap.size, 0, none⟩ = some (.int .i64 lo) ∧ w'.cell? ⟨w.heap.size, 1, none⟩ = some (.int .i64 hi) ∧ w.heap.size < w'.heap.size) ∧ Keeps w1 w') (first | exact PS.out _ ((HG3.out.setCell HG2.out.size _).setCell HG2.out.size _) | exact PS.out _ ((HG3.out.setCell (Nat.le_refl _) _).setCell (Nat.le_refl _) _) | exact PS.out _ HG3.out | exact PS.out _ (HG3.out.alloc _) | exact PS.out _ HG2.out | exact PS.out _ (HG2.out.alloc _) | exact PS.out _ ((Keeps.refl _).drew.alloc _) | exact PS.out _ (Keeps.refl _).drew)
    (first
      | (go_at_call 22; refine (HRD.out _).mono ?_; rintro e w2 ⟨A2, c2, rfl, hm2, hk2⟩; have H2 := Lib.hid hm2; have HG2 := Lib.hid (((Keeps.refl w1).drew).trans hk2); clear hm2 hk2)
      | (go_at_call 22; refine (HRD.out _).mono ?_; rintro e w2 ⟨A2, c2, rfl, hm2, hk2⟩; have H2 := Lib.hid hm2; have HG2 := Lib.hid (((Keeps.refl w1).drew.alloc _).trans hk2); have YT := Lib.hid (Two.keeps (w := w1.drew.alloc (.cells #[.int .i64 0, .int .i64 0] 24)) (B := w1.heap.size) (x := 0) (y := 0) (heap_alloc_new w1.drew (.cells #[.int .i64 0, .int .i64 0] 24)) hk2); clear hm2 hk2)
      | (go_at_call 14; have hy := YT; (with_reducible refine (HAL.out _ _ _ H2.out).mono ?_); rintro e w3 ⟨A3, c3, rfl, hm3, hk3⟩; have H3 := Lib.hid hm3; have HG3 := Lib.hid (HG2.out.trans hk3); have ZT := Lib.hid (YT.out.keeps hk3); obtain ⟨z0, z1, j0, j1⟩ := ZT.out.cells; clear hm3 hk3)
      | (go_at_call 14; (with_reducible refine (HAL.out _ _ _ H2.out).mono ?_); rintro e w3 ⟨A3, c3, rfl, hm3, hk3⟩; have H3 := Lib.hid hm3; have HG3 := Lib.hid (HG2.out.trans hk3); clear hm3 hk3)
      | (go_at_call 14; (with_reducible refine (HAL.out _ _ _ (H2.out.alloc _)).mono ?_); rintro e w3 ⟨A3, c3, rfl, hm3, hk3⟩; have H3 := Lib.hid hm3; have HG3 := Lib.hid ((HG2.out.alloc _).trans hk3); have ZT := Lib.hid (Two.keeps (w := w2.alloc (.cells #[.int .i64 0, .int .i64 0] 24)) (B := w2.heap.size) (x := 0) (y := 0) (heap_alloc_new w2 (.cells #[.int .i64 0, .int .i64 0] 24)) hk3); obtain ⟨z0, z1, j0, j1⟩ := ZT.out.cells; clear hm3 hk3))
  all_goals
    first
      | (have TT := Lib.hid (ZT.out.store 0 0)
         have hoff := ZT.out.off H3.out
         have M3 := Lib.hid ((H3.out.set (o := 0) hoff (.int .i64 0)).set (o := 1) hoff (.int .i64 0))
         have HV : Hid (Keeps w1 ((w3.setCell ⟨w2.heap.size, 0, none⟩ (.int .i64 0)).setCell ⟨w2.heap.size, 1, none⟩ (.int .i64 0))) := Lib.hid ((HG3.out.setCell HG2.out.size _).setCell HG2.out.size _)
         have HR : w2.heap.size < ((w3.setCell ⟨w2.heap.size, 0, none⟩ (.int .i64 0)).setCell ⟨w2.heap.size, 1, none⟩ (.int .i64 0)).heap.size := TT.out.lt
         generalize (w3.setCell ⟨w2.heap.size, 0, none⟩ (.int .i64 0)).setCell ⟨w2.heap.size, 1, none⟩ (.int .i64 0) = V at TT HV M3 HR ⊢
         generalize w2.heap.size = R at TT HR ⊢)
      | (have TT := Lib.hid (ZT.out.store 0 0)
         have hoff := ZT.out.off H3.out
         have M3 := Lib.hid ((H3.out.set (o := 0) hoff (.int .i64 0)).set (o := 1) hoff (.int .i64 0))
         have HV : Hid (Keeps w1 ((w3.setCell ⟨w1.heap.size, 0, none⟩ (.int .i64 0)).setCell ⟨w1.heap.size, 1, none⟩ (.int .i64 0))) := Lib.hid ((HG3.out.setCell (Nat.le_refl w1.heap.size) _).setCell (Nat.le_refl w1.heap.size) _)
         have HR : w1.heap.size < ((w3.setCell ⟨w1.heap.size, 0, none⟩ (.int .i64 0)).setCell ⟨w1.heap.size, 1, none⟩ (.int .i64 0)).heap.size := TT.out.lt
         generalize (w3.setCell ⟨w1.heap.size, 0, none⟩ (.int .i64 0)).setCell ⟨w1.heap.size, 1, none⟩ (.int .i64 0) = V at TT HV M3 HR ⊢
         generalize w1.heap.size = R at TT HR ⊢)
      | (have TT : Hid (Two (w3.alloc (.cells #[.int .i64 0, .int .i64 0] 24)) w3.heap.size 0 0) := Lib.hid (heap_alloc_new w3 (.cells #[.int .i64 0, .int .i64 0] 24))
         have HV := Lib.hid (HG3.out.alloc (.cells #[.int .i64 0, .int .i64 0] 24))
         have M3 := Lib.hid (H3.out.alloc (.cells #[.int .i64 0, .int .i64 0] 24))
         have HR : w3.heap.size < (w3.alloc (.cells #[.int .i64 0, .int .i64 0] 24)).heap.size := TT.out.lt
         generalize w3.alloc (.cells #[.int .i64 0, .int .i64 0] 24) = V at TT HV M3 HR ⊢
         generalize w3.heap.size = R at TT HR ⊢)
    obtain ⟨⟨v0, v1, hvl⟩, -⟩ := PS.out _ HV.out
    go_wp2_with (first
      | (go_at_call 23; refine (HDT.out _).mono ?_; rintro e w4 ⟨rfl, hk4⟩; have HV4 := Lib.hid (HV.out.trans hk4); have M4 := Lib.hid (M3.out.keeps hk4); have T4 := Lib.hid (TT.out.keeps hk4); clear hk4)
      | (go_at_call 16; refine (HSG.out _ _ _ M4.out).mono ?_; rintro e w5 ⟨A5, c5, rfl, hm5, hk5⟩; have M5 := Lib.hid hm5; have N5 := Lib.hid (M4.out.keeps hk5); have HV5 := Lib.hid (HV4.out.trans hk5); obtain ⟨r0, r1, q0, q1⟩ := (T4.out.keeps hk5).cells; have hl5 : R < w5.heap.size := (T4.out.keeps hk5).lt; clear hm5 hk5)
      | (go_at_call 18; (with_reducible refine (HE1.out _ _ _ N5.out).mono ?_); rintro e w' ⟨rfl, rfl⟩)
      | (go_at_call 18; (with_reducible refine (HE2.out _ _ _ M5.out).mono ?_); rintro e w' ⟨rfl, rfl⟩)
      | (go_at_call 24; (with_reducible refine (HT1.out _ _ _ N5.out).mono ?_); rintro e w' ⟨rfl, rfl⟩)
      | (go_at_call 24; (with_reducible refine (HT2.out _ _ _ M5.out).mono ?_); rintro e w' ⟨rfl, rfl⟩))
    go_ret
    exact ⟨rfl, HK.out.trans HV5.out⟩
theorem picTexts_walk (lo hi b : Int) (hlo : InC lo) (hhi : InC hi) :
    Calls Try.prog 4 #[.agg #[.int .i64 lo, .int .i64 hi], .int .i64 b] w fun e w' => e = .returned (.bool true) ∧ Keeps w w' := by
  by_cases h : b < 2 ∨ 36 < b ∨ hi < 0
  · exact texts_out w lo hi b h
  · obtain ⟨x, hx, rfl, rfl⟩ := dbl_of hlo hhi
    have hn : ¬ dHi x < 0 := fun k => h (Or.inr (Or.inr k))
    have hx0 : ¬ x < 0 := fun k => hn ((dHi_neg hx).2 k)
    obtain ⟨q, rfl⟩ : ∃ q : Nat, x = (q : Int) := ⟨x.toNat, by omega⟩
    obtain ⟨n, rfl⟩ : ∃ n : Nat, b = (n : Int) := ⟨b.toNat, by omega⟩
    have hb : 2 ≤ n ∧ n ≤ 36 := by omega
    have hq : q < 170141183460469231731687303715884105728 := by unfold InD at hx; omega
    rcases Nat.lt_trichotomy (uT n q).length 96 with k | k | k
    · exact texts_room w _ _ n q _ _ _ hb hq rfl rfl (by omega) rfl k rfl rfl
    · exact texts_full w _ _ n q _ _ hb hq rfl rfl (by omega) rfl k rfl
    · exact texts_long w _ _ n q _ _ hb hq rfl rfl (by omega) rfl k rfl
end
end Go.Proofs.Yticeeckahdjjmaa
