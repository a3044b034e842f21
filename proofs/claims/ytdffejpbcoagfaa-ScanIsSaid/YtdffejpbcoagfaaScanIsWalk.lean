/-
  The call of the statement ScanIs answers true at every text, as far as it has come, and number; of what was there nothing has changed.
-/
import Derived.Test.YtdffejpbcoagfaaScanAwake
import Derived.Test.YtdffejpbcoagfaaRef06Calls
import Derived.Test.YtdffejpbcoagfaaRef06Lines
import Derived.Deep.RegionHeld3
namespace Go.Proofs.Ytdffejpbcoagfaa
open Go.RowKit

theorem keepIs {W w w' : World} {A B C D E : Nat} {a0 a1 b0 b1 c0 c1 d0 d1 e0 e1 : Value} (hb : Below w.heap.size w w')
    (h : Below W.heap.size W w ∧ MaxL w ∧ (A < w.heap.size ∧ B < w.heap.size ∧ C < w.heap.size ∧ D < w.heap.size ∧ E < w.heap.size) ∧ w.cell? ⟨A, 0, none⟩ = some a0 ∧ w.cell? ⟨A, 1, none⟩ = some a1 ∧ w.cell? ⟨B, 0, none⟩ = some b0 ∧ w.cell? ⟨B, 1, none⟩ = some b1 ∧ w.cell? ⟨C, 0, none⟩ = some c0 ∧ w.cell? ⟨C, 1, none⟩ = some c1 ∧ w.cell? ⟨D, 0, none⟩ = some d0 ∧ w.cell? ⟨D, 1, none⟩ = some d1 ∧ w.cell? ⟨E, 0, none⟩ = some e0 ∧ w.cell? ⟨E, 1, none⟩ = some e1) :
    Below W.heap.size W w' ∧ MaxL w' ∧ (A < w'.heap.size ∧ B < w'.heap.size ∧ C < w'.heap.size ∧ D < w'.heap.size ∧ E < w'.heap.size) ∧ w'.cell? ⟨A, 0, none⟩ = some a0 ∧ w'.cell? ⟨A, 1, none⟩ = some a1 ∧ w'.cell? ⟨B, 0, none⟩ = some b0 ∧ w'.cell? ⟨B, 1, none⟩ = some b1 ∧ w'.cell? ⟨C, 0, none⟩ = some c0 ∧ w'.cell? ⟨C, 1, none⟩ = some c1 ∧ w'.cell? ⟨D, 0, none⟩ = some d0 ∧ w'.cell? ⟨D, 1, none⟩ = some d1 ∧ w'.cell? ⟨E, 0, none⟩ = some e0 ∧ w'.cell? ⟨E, 1, none⟩ = some e1 := by
  obtain ⟨h0, hM, ⟨hA, hB, hC, hD, hE⟩, g0, g1, g2, g3, g4, g5, g6, g7, g8, g9⟩ := h
  have hz := hb.size
  exact ⟨below_then h0 hb, hM.keep hb, ⟨by omega, by omega, by omega, by omega, by omega⟩, (hb.cell (p := ⟨A, 0, none⟩) hA).trans g0, (hb.cell (p := ⟨A, 1, none⟩) hA).trans g1, (hb.cell (p := ⟨B, 0, none⟩) hB).trans g2, (hb.cell (p := ⟨B, 1, none⟩) hB).trans g3, (hb.cell (p := ⟨C, 0, none⟩) hC).trans g4, (hb.cell (p := ⟨C, 1, none⟩) hC).trans g5, (hb.cell (p := ⟨D, 0, none⟩) hD).trans g6, (hb.cell (p := ⟨D, 1, none⟩) hD).trans g7, (hb.cell (p := ⟨E, 0, none⟩) hE).trans g8, (hb.cell (p := ⟨E, 1, none⟩) hE).trans g9⟩
theorem mkIs {W w : World} {A B C D E : Nat} {tA tB tC tD tE : TypeId} {S0 S1 S2 S3 S4 : ByteArray} {i0 i1 i2 i3 i4 : Int} (h : Below W.heap.size W w) (hM : MaxL w) (hA : Src w A tA S0 i0) (hB : Src w B tB S1 i1) (hC : Src w C tC S2 i2) (hD : Src w D tD S3 i3) (hE : Src w E tE S4 i4) :
    Below W.heap.size W w ∧ MaxL w ∧ (A < w.heap.size ∧ B < w.heap.size ∧ C < w.heap.size ∧ D < w.heap.size ∧ E < w.heap.size) ∧ w.cell? ⟨A, 0, none⟩ = some (.string S0) ∧ w.cell? ⟨A, 1, none⟩ = some (.int .i64 i0) ∧ w.cell? ⟨B, 0, none⟩ = some (.string S1) ∧ w.cell? ⟨B, 1, none⟩ = some (.int .i64 i1) ∧ w.cell? ⟨C, 0, none⟩ = some (.string S2) ∧ w.cell? ⟨C, 1, none⟩ = some (.int .i64 i2) ∧ w.cell? ⟨D, 0, none⟩ = some (.string S3) ∧ w.cell? ⟨D, 1, none⟩ = some (.int .i64 i3) ∧ w.cell? ⟨E, 0, none⟩ = some (.string S4) ∧ w.cell? ⟨E, 1, none⟩ = some (.int .i64 i4) :=
  ⟨h, hM, ⟨hA.lt, hB.lt, hC.lt, hD.lt, hE.lt⟩, hA.s, hA.n, hB.s, hB.n, hC.s, hC.n, hD.s, hD.n, hE.s, hE.n⟩
set_option maxHeartbeats 1000000 in
theorem scanIs_big (S : ByteArray) (i d : Int) (h : (1000 : Int) < (S.size : Int)) (W : World) (hM : MaxL W) :
    Calls Try.prog 3 #[.agg #[.string S, .int .i64 i], .int .i64 d] W fun e w' => e = .returned (.bool true) ∧ Below W.heap.size W w' := by
  have HM := Lib.hid (hM.alloc (.cells #[.string S, .int .i64 i] 23))
  clear hM
  go_enter Try.func3, Try.ntmps3
  go_wp2_with (go_at_call 9; refine (awake_any _ HM.out).mono ?_; rintro e w1 ⟨rfl, hb1⟩; have X1 := Lib.hid ((Src.new W 23 S i).keep hb1); have xs := X1.out.s; have xn := X1.out.n)
  go_ret
  exact ⟨rfl, below_then ((Below.refl _ W).alloc (Nat.le_refl _) _) hb1⟩

set_option maxRecDepth 100000 in
set_option maxHeartbeats 8000000 in
theorem scanIs_small (S T V R U : ByteArray) (i d n m j : Int) (L : List (List UInt8)) (hs : S.size ≤ 1000) (hLl : L.length ≤ 3000) (W : World) (hM : MaxL W)
    (HW : Hid (∀ w, Calls Try.prog 10 #[.agg #[.string S, .int .i64 i]] w fun e w' => e = .returned (.tuple #[.string T, .agg #[.string S, .int .i64 n]]) ∧ Below w.heap.size w w'))
    (HWr : Hid (∀ w, Calls Try.prog 12 #[.agg #[.string S, .int .i64 i]] w fun e w' => e = .returned (.tuple #[.string T, .agg #[.string S, .int .i64 n]]) ∧ Below w.heap.size w w'))
    (HP : Hid (∀ w, Calls Try.prog 13 #[.agg #[.string S, .int .i64 i], .int .i64 d] w fun e w' => e = .returned (.tuple #[.string V, .agg #[.string S, .int .i64 m]]) ∧ Below w.heap.size w w'))
    (HPr : Hid (∀ w, Calls Try.prog 14 #[.agg #[.string S, .int .i64 i], .int .i64 d] w fun e w' => e = .returned (.tuple #[.string V, .agg #[.string S, .int .i64 m]]) ∧ Below w.heap.size w w'))
    (HK : Hid (∀ w, Calls Try.prog 15 #[.agg #[.string S, .int .i64 i]] w fun e w' => e = .returned (.agg #[.string S, .int .i64 j]) ∧ Below w.heap.size w w'))
    (HKr : Hid (∀ w, Calls Try.prog 16 #[.agg #[.string S, .int .i64 i]] w fun e w' => e = .returned (.agg #[.string S, .int .i64 j]) ∧ Below w.heap.size w w'))
    (HL : Hid (∀ w, Calls Try.prog 17 #[.agg #[.string S, .int .i64 i]] w fun e w' => e = .returned (.string R) ∧ Below w.heap.size w w'))
    (HLr : Hid (∀ w, Calls Try.prog 18 #[.agg #[.string S, .int .i64 i]] w fun e w' => e = .returned (.string R) ∧ Below w.heap.size w w'))
    (HU : Hid (∀ w, Calls Try.prog 19 #[.string S] w fun e w' => e = .returned (.string U) ∧ Below w.heap.size w w'))
    (HUr : Hid (∀ w, Calls Try.prog 20 #[.string S] w fun e w' => e = .returned (.string U) ∧ Below w.heap.size w w'))
    (HN : Hid (∀ w, MaxL w → Calls Try.prog 22 #[.string S] w (LinesPost w L)))
    (HNr : Hid (∀ w, Calls Try.prog 23 #[.string S] w (LinesPost w L))) :
    Calls Try.prog 3 #[.agg #[.string S, .int .i64 i], .int .i64 d] W fun e w' => e = .returned (.bool true) ∧ Below W.heap.size W w' := by
  have HM := Lib.hid (hM.alloc (.cells #[.string S, .int .i64 i] 23))
  clear hM
  have hd : decide ((1000 : Int) < (S.size : Int)) = false := decide_eq_false (by omega)
  go_enter Try.func3, Try.ntmps3
  go_wp2_with (first
    | (go_at_call 9; refine (awake_any _ HM.out).mono ?_; rintro e w1 ⟨rfl, hb1⟩; have M1 := Lib.hid (HM.out.keep hb1); have X1 := Lib.hid ((Src.new W 23 S i).keep hb1); have xs := X1.out.s; have xn := X1.out.n; have H1 := Lib.hid (below_then ((Below.refl _ W).alloc (Nat.le_refl _) _) hb1); clear hb1)
    | (go_at_call 11; have hh := H4; refine (ours_is S i _).mono ?_; rintro e w5 ⟨rfl, hb5⟩; have M5 := Lib.hid ((M4.out.alloc _).keep hb5); have X5 := Lib.hid ((X4.out.alloc (.cells #[.string S, .int .i64 n] 23)).keep hb5); have P5 := Lib.hid ((P4.out.alloc (.cells #[.string S, .int .i64 n] 23)).keep hb5); have Q5 := Lib.hid ((Src.new w4 23 S n).keep hb5); have H5 := Lib.hid (below_then (H4.out.alloc H4.out.size _) hb5); clear hb5)
    | (go_at_call 11; refine (ours_is S i _).mono ?_; rintro e w2 ⟨rfl, hb2⟩; have M2 := Lib.hid (M1.out.keep hb2); have X2 := Lib.hid (X1.out.keep hb2); have H2 := Lib.hid (below_then H1.out hb2); clear hb2)
    | (go_at_call 10; refine (HW.out _).mono ?_; rintro e w3 ⟨rfl, hb3⟩; have M3 := Lib.hid (M2.out.keep hb3); have X3 := Lib.hid ((X2.out.keep hb3).alloc (.cells #[.string S, .int .i64 n] 25)); have xs3 := X3.out.s; have xn3 := X3.out.n; have H3 := Lib.hid (below_then H2.out hb3); clear hb3)
    | (go_at_call 12; refine (HWr.out _).mono ?_; rintro e w4 ⟨rfl, hb4⟩; have M4 := Lib.hid ((M3.out.alloc _).keep hb4); have X4 := Lib.hid (X3.out.keep hb4); have P4 := Lib.hid ((Src.new w3 25 S n).keep hb4); have xs4 := (X4.out.alloc (.cells #[.string S, .int .i64 n] 23)).s; have xn4 := (X4.out.alloc (.cells #[.string S, .int .i64 n] 23)).n; have H4 := Lib.hid (below_then (H3.out.alloc H3.out.size _) hb4); clear hb4)
    | (go_at_call 13; refine (HP.out _).mono ?_; rintro e w6 ⟨rfl, hb6⟩; have M6 := Lib.hid (M5.out.keep hb6); have X6 := Lib.hid ((X5.out.keep hb6).alloc (.cells #[.string S, .int .i64 m] 25)); have P6 := Lib.hid ((P5.out.keep hb6).alloc (.cells #[.string S, .int .i64 m] 25)); have Q6 := Lib.hid ((Q5.out.keep hb6).alloc (.cells #[.string S, .int .i64 m] 25)); have xs6 := X6.out.s; have xn6 := X6.out.n; have H6 := Lib.hid (below_then H5.out hb6); clear hb6)
    | (go_at_call 14; refine (HPr.out _).mono ?_; rintro e w7 ⟨rfl, hb7⟩; have M7 := Lib.hid (((M6.out.alloc _).keep hb7).alloc (.cells #[.string S, .int .i64 m] 23)); have X7 := Lib.hid ((X6.out.keep hb7).alloc (.cells #[.string S, .int .i64 m] 23)); have P7 := Lib.hid ((P6.out.keep hb7).alloc (.cells #[.string S, .int .i64 m] 23)); have Q7 := Lib.hid ((Q6.out.keep hb7).alloc (.cells #[.string S, .int .i64 m] 23)); have R7 := Lib.hid (((Src.new w6 25 S m).keep hb7).alloc (.cells #[.string S, .int .i64 m] 23)); have H7 := Lib.hid (below_then (H6.out.alloc H6.out.size _) hb7); clear hb7))
  have hk := mkIs (H7.out.alloc H7.out.size _) M7.out X7.out P7.out Q7.out R7.out (Src.new w7 23 S m)
  clear xs xn xs3 xn3 xs4 xn4 xs6 xn6 M1 M2 M3 M4 M5 M6 M7 X1 X2 X3 X4 X5 X6 X7 P4 P5 P6 P7 Q5 Q6 Q7 R7 H1 H2 H3 H4 H5 H6 H7 HM HW HWr HP HPr
  generalize (w7.alloc (.cells #[.string S, .int .i64 m] 23)) = w8 at hk ⊢

  go_region_held3 (fun w' => Below W.heap.size W w' ∧ MaxL w' ∧ (W.heap.size < w'.heap.size ∧ w3.heap.size < w'.heap.size ∧ w4.heap.size < w'.heap.size ∧ w6.heap.size < w'.heap.size ∧ w7.heap.size < w'.heap.size) ∧ w'.cell? ⟨W.heap.size, 0, none⟩ = some (.string S) ∧ w'.cell? ⟨W.heap.size, 1, none⟩ = some (.int .i64 i) ∧ w'.cell? ⟨w3.heap.size, 0, none⟩ = some (.string S) ∧ w'.cell? ⟨w3.heap.size, 1, none⟩ = some (.int .i64 n) ∧ w'.cell? ⟨w4.heap.size, 0, none⟩ = some (.string S) ∧ w'.cell? ⟨w4.heap.size, 1, none⟩ = some (.int .i64 n) ∧ w'.cell? ⟨w6.heap.size, 0, none⟩ = some (.string S) ∧ w'.cell? ⟨w6.heap.size, 1, none⟩ = some (.int .i64 m) ∧ w'.cell? ⟨w7.heap.size, 0, none⟩ = some (.string S) ∧ w'.cell? ⟨w7.heap.size, 1, none⟩ = some (.int .i64 m)) (first | assumption | exact keepIs ((Below.refl _ w8).drew) hk | exact keepIs (by assumption) (by assumption))
    (first
      | (go_at_call 11; refine (ours_is _ _ _).mono ?_; rintro e w9 ⟨rfl, hb9⟩)
      | (go_at_call 15; refine (HK.out _).mono ?_; rintro e w9 ⟨rfl, hb9⟩)
      | (go_at_call 16; refine (HKr.out _).mono ?_; rintro e w9 ⟨rfl, hb9⟩)
      | (go_at_call 17; refine (HL.out _).mono ?_; rintro e w9 ⟨rfl, hb9⟩)
      | (go_at_call 18; refine (HLr.out _).mono ?_; rintro e w9 ⟨rfl, hb9⟩)
      | (go_at_call 19; refine (HU.out _).mono ?_; rintro e w9 ⟨rfl, hb9⟩)
      | (go_at_call 20; refine (HUr.out _).mono ?_; rintro e w9 ⟨rfl, hb9⟩)
      | (go_at_call 22; refine (HN.out _ (And.left (b := _ ∧ _) (And.right (a := Below W.heap.size W _) (by assumption)))).mono ?_; rintro e wL ⟨AL, cL, rfl, htL, hbL⟩)
      | (go_at_call 23; refine (HNr.out _).mono ?_; rintro e wR ⟨BR, dR, rfl, htR, hbR⟩; have htA := htL.keep hbR)
      | (go_at_call 21; refine (rtexts_is _ _ _ _ _ L _ htA htR hLl).mono ?_; rintro e w9 ⟨rfl, hb9⟩))
  go_wp2
  go_ret
  exact ⟨rfl, And.left (b := _ ∧ _) (by assumption)⟩
#print axioms scanIs_small
theorem scanIs_walk (l : List UInt8) (i d : Int) (W : World) (hM : MaxL W) :
    Calls Try.prog 3 #[.agg #[.string ⟨l.toArray⟩, .int .i64 i], .int .i64 d] W fun e w' => e = .returned (.bool true) ∧ Below W.heap.size W w' := by
  by_cases hl : 1000 < l.length
  · exact scanIs_big _ i d (by rw [size_mk]; omega) W hM
  · have hl2 : l.length ≤ 2000 := by omega
    have hLl := scL_length l
    exact scanIs_small _ _ _ _ _ i d _ _ _ (scL l) (by rw [size_mk]; omega) (by omega) W hM
      (Lib.hid (word_is l i _ _ _ _ _ rfl hl2 rfl rfl rfl rfl)) (Lib.hid (rword_is l i _ _ _ _ _ rfl hl2 rfl rfl rfl rfl))
      (Lib.hid (parse_is l i d _ _ _ _ _ rfl hl2 rfl rfl rfl rfl)) (Lib.hid (rparse_is l i d _ _ _ _ _ rfl hl2 rfl rfl rfl rfl))
      (Lib.hid (skip_is l i _ _ _ rfl hl2 rfl rfl)) (Lib.hid (rskip_is l i _ _ _ rfl hl2 rfl rfl))
      (Lib.hid (left_is l i _ _ _ rfl hl2 rfl rfl)) (Lib.hid (rleft_is l i _ _ _ rfl hl2 rfl rfl))
      (Lib.hid (upper_is l _ _ rfl hl2 rfl)) (Lib.hid (rupper_is l _ _ rfl hl2 rfl))
      (Lib.hid (lines_any l hl2 _ rfl)) (Lib.hid (rlines_any l hl2 _ rfl))
end Go.Proofs.Ytdffejpbcoagfaa
