/-
  DictBase walked: the first dictionary has each operation that is not hidden.
-/
import Derived.Test.YtkpomphjicoaeaaDictBaseMath
import Derived.Test.YtkpomphjicoaeaaCellMath
namespace Go.Proofs.Ytkpomphjicoaeaa
open Go.RowKit

theorem sixO {W w : World} {b o : Nat} {e : En} (X : Six W b o e) (h : Below W.heap.size W w) : Below W.heap.size W w ∧ w.cell? ⟨b, o, none⟩ = some (.string e.s) ∧ w.cell? ⟨b, o + 1, none⟩ = some (.bool e.m) ∧ w.cell? ⟨b, o + 2, none⟩ = some (.int .i64 e.k) ∧ w.cell? ⟨b, o + 3, none⟩ = some (.int .i64 e.v) ∧ w.cell? ⟨b, o + 4, none⟩ = some (.int .i64 e.t) ∧ w.cell? ⟨b, o + 5, none⟩ = some (.int .i64 e.p) :=
  ⟨h, (X.keep h).c0, (X.keep h).c1, (X.keep h).c2, (X.keep h).c3, (X.keep h).c4, (X.keep h).c5⟩
set_option maxHeartbeats 4000000 in
set_option maxRecDepth 4000 in
theorem base_core (n : Int) (k z : Nat) (B : ByteArray) (fi x : Int) (fb : Bool) (w : World) (hz : (bsT 111).length = z) (hz1 : 0 < z) (hz2 : z ≤ 111) (hi : (bits .and .i64 n 65535).tmod 111 = (k : Int)) (hB : B.size ≤ 2000)
    (HN : Hid (∀ w : World, Calls Try.prog 29 #[.int .i64 (k : Int)] w fun e w' => e = .returned (.string B) ∧ Below w.heap.size w w'))
    (HH : Hid (∀ w : World, Calls Try.prog 30 #[.int .i64 (k : Int)] w fun e w' => e = .returned (.bool (!fb)) ∧ Below w.heap.size w w'))
    (HFI : Hid (dV (dF (bsT 111) B) = fi)) (HFB : Hid ((dF (bsT 111) B).isSome = fb)) (HCB : Hid (dCb (bsT 111) fi = true)) (HCC : Hid (dC (bsT 111) fi = [(x, 0)])) (HX : Hid (fb = true → x = (k : Int))) (HJ : Hid (∀ j, j < z → ∃ (Bj : ByteArray) (vj : Int), (bsT 111).getD j e0 = ⟨Bj, false, 0, vj, 0, 0⟩ ∧ Bj.size ≤ 31 ∧ saneB ⟨Bj, false, 0, vj, 0, 0⟩ = true ∧ (vj = (k : Int) → bsC k (j + 1) = bsC k j + 1) ∧ (vj ≠ (k : Int) → bsC k (j + 1) = bsC k j)))
    (HR : Hid (∀ r, r + 1 < z → ∀ vi vj, ((bsT 111).getD r e0).v = vi → ((bsT 111).getD (r + 1) e0).v = vj → vi < vj)) (HC : Hid (bsC k z = if fb then 1 else 0)) :
    Calls Try.prog 4 #[.int .i64 n] w fun e w' => e = .returned (.bool true) ∧ Below w.heap.size w w' := by
  have hz3 : ((z : Int) == 0) = false := beq_eq_false_iff_ne.2 (by omega)
  cases fb
  all_goals
    go_enter Try.func4, Try.ntmps4
    go_wp2_with (first
      | (go_at_call 9; refine (awake_any _).mono ?_; rintro e w1 ⟨rfl, hb1⟩; have HB1 := Lib.hid hb1; clear hb1)
      | (go_at_call 28; refine (base_any _).mono ?_; rintro e w2 ⟨A2, c2, rfl, ho2⟩; have H2 := Lib.hid ho2.ens; have HB2 := Lib.hid (below_then HB1.out ho2.below); rw [hz] at H2 ⊢; clear ho2)
      | (go_at_call 29; refine (HN.out _).mono ?_; rintro e w3 ⟨rfl, hb3⟩; have H3 := Lib.hid (H2.out.below hb3); have HB3 := Lib.hid (below_then HB2.out hb3); clear hb3)
      | (go_at_call 11; refine (find_at A2 z c2 _ B fi _ _ (by omega) (by omega) H3.out HFI.out HFB.out).mono ?_; rintro e w4 ⟨rfl, hb4⟩; have H4 := Lib.hid (H3.out.below hb4); have HB4 := Lib.hid (below_then HB3.out hb4); clear hb4)
      | (go_at_call 30; refine (HH.out _).mono ?_; rintro e w5 ⟨rfl, hb5⟩; have H5 := Lib.hid (H4.out.below hb5); have HB5 := Lib.hid (below_then HB4.out hb5); clear hb5)
      | (go_at_call 17; refine (code_at A2 z c2 _ fi 1 [(x, 0)] true _ bs_names H5.out HCB.out HCC.out rfl).mono ?_; rintro e w6 ⟨A6, c6, rfl, h6, hb6⟩; have H6 := Lib.hid (H5.out.below hb6); have HP6 := Lib.hid h6; have HB6 := Lib.hid (below_then HB5.out hb6); clear h6 hb6))
    clear hi
  · have hfin : bsC k z = 0 := HC.out
    go_loopw [10, 11] (fun sn i wr => ∃ j : Nat, j ≤ z ∧ i = .int .i64 j ∧ sn = .int .i64 (bsC k j : Nat) ∧ Below w6.heap.size w6 wr) (fun _ i _ => ((z : Int) - intOf i).toNat)
    case atStart => exact ⟨0, by omega, rfl, by rw [bsC_zero]; rfl, Below.refl _ _⟩
    case round =>
      obtain ⟨j, hj, rfl, rfl, hb⟩ := hrel
      have HV := Lib.hid hb
      clear hb
      by_cases hlt : j < z
      · obtain ⟨gb, go, rfl, hx⟩ := (H6.out.below HV.out).six j hlt
        obtain ⟨Bj, vj, hE, hSz, hSJ, hCY, hCN⟩ := HJ.out j hlt
        have hvj : ((bsT 111).getD j e0).v = vj := by rw [hE]
        rw [hE] at hx
        have X0 := Lib.hid hx
        have HSJ := Lib.hid hSJ
        have HCY := Lib.hid hCY
        have HCN := Lib.hid hCN
        have hcl := bsC_le k j
        generalize bsC k j = cn at *
        have x0 := hx.c0
        have x1 := hx.c1
        have x2 := hx.c2
        have x3 := hx.c3
        have x4 := hx.c4
        have x5 := hx.c5
        have xlt := hx.lt
        clear hx hE hSJ hCY hCN
        have xlt2 := xlt
        by_cases h0 : 0 < j
        · obtain ⟨r, hr⟩ : ∃ r, j = r + 1 := ⟨j - 1, by omega⟩
          obtain ⟨gb2, go2, hA, hy⟩ := (H6.out.below HV.out).six r (by omega)
          cases hA
          obtain ⟨vi, hvi⟩ : ∃ vi, ((bsT 111).getD r e0).v = vi := ⟨_, rfl⟩
          have hvl := HR.out r (by omega) vi vj hvi (by rw [← hr]; exact hvj)
          have Y0 := Lib.hid (fun (w9 : World) (h9 : Below wr.heap.size wr w9) => (show w9.cell? ⟨gb, go + r * 6 + 3, none⟩ = some (.int .i64 vi) from by rw [← hvi]; exact (hy.keep h9).c3))
          have hm1 : (j : Int) - 1 = (r : Int) := by omega
          have hm2 : IntKind.i64.wrap ((j : Int) - 1) = (r : Int) := by rw [hm1, IntKind.wrap_i64]; omega
          have hm3 : IntKind.i64.wrap (r : Int) = (r : Int) := by rw [IntKind.wrap_i64]; omega
          have gz : decide ((0 : Int) < (j : Int)) = true := by simp; omega
          have gv : decide (vj ≤ vi) = false := decide_eq_false (by omega)
          have hrz : r < z := by omega
          have hr1 : (0 : Int) ≤ (r : Int) := by omega
          have hr2 : (r : Int) < (z : Int) := by omega
          have PS := Lib.hid (fun (w9 : World) (h9 : Below wr.heap.size wr w9) => (show Below wr.heap.size wr w9 ∧ w9.cell? ⟨gb, go + j * 6, none⟩ = some (.string Bj) ∧ w9.cell? ⟨gb, go + j * 6 + 1, none⟩ = some (.bool false) ∧ w9.cell? ⟨gb, go + j * 6 + 2, none⟩ = some (.int .i64 0) ∧ w9.cell? ⟨gb, go + j * 6 + 3, none⟩ = some (.int .i64 vj) ∧ w9.cell? ⟨gb, go + j * 6 + 4, none⟩ = some (.int .i64 0) ∧ w9.cell? ⟨gb, go + j * 6 + 5, none⟩ = some (.int .i64 0) ∧ w9.cell? ⟨gb, go + r * 6 + 3, none⟩ = some (.int .i64 vi) from ⟨h9, (X0.out.keep h9).c0, (X0.out.keep h9).c1, (X0.out.keep h9).c2, (X0.out.keep h9).c3, (X0.out.keep h9).c4, (X0.out.keep h9).c5, Y0.out _ h9⟩))
          clear hy hr hvi hvl hvj x0 x1 x2 x3 x4 x5
          go_upto_region 12 with (fail)
          have HVd : Hid (Below wr.heap.size wr wr.drew) := Lib.hid (Below.refl _ _).drew
          go_region_held3 (fun w9 => Below wr.heap.size wr w9 ∧ w9.cell? ⟨gb, go + j * 6, none⟩ = some (.string Bj) ∧ w9.cell? ⟨gb, go + j * 6 + 1, none⟩ = some (.bool false) ∧ w9.cell? ⟨gb, go + j * 6 + 2, none⟩ = some (.int .i64 0) ∧ w9.cell? ⟨gb, go + j * 6 + 3, none⟩ = some (.int .i64 vj) ∧ w9.cell? ⟨gb, go + j * 6 + 4, none⟩ = some (.int .i64 0) ∧ w9.cell? ⟨gb, go + j * 6 + 5, none⟩ = some (.int .i64 0) ∧ w9.cell? ⟨gb, go + r * 6 + 3, none⟩ = some (.int .i64 vi)) (first | assumption | exact PS.out _ HVd.out)
            (first | (go_at_call 26; refine (sane_is Bj false 0 vj 0 0 true (by omega) HSJ.out _).mono ?_; rintro e w8 ⟨rfl, hb8⟩; have HVd := Lib.hid (below_then HVd.out hb8); clear hb8))
          have HVe := Lib.hid (below_then HV.out HVd.out)
          have x3 := (X0.out.keep HVd.out).c3
          have xlt3 := (X0.out.keep HVd.out).lt
          clear hm1 hm2 hm3 gz gv
          by_cases hvk : vj = (k : Int)
          · have g1 : (vj == (k : Int)) = true := beq_iff_eq.2 hvk
            have hc := Lib.hid (HCY.out hvk)
            clear hvk HCY HCN
            go_wp2
            go_roundw
            case rel => exact ⟨j + 1, by omega, by go_num, by rw [hc.out]; go_num, HVe.out⟩
            case measure => simp [intOf] <;> omega
          · have g1 : (vj == (k : Int)) = false := beq_eq_false_iff_ne.2 hvk
            have hc := Lib.hid (HCN.out hvk)
            clear hvk HCY HCN
            go_wp2
            go_roundw
            case rel => exact ⟨j + 1, by omega, by go_num, by rw [hc.out], HVe.out⟩
            case measure => simp [intOf] <;> omega
        · have gz : decide ((0 : Int) < (j : Int)) = false := by simp; omega
          have gz2 : decide (0 < j) = false := by simp; omega
          clear hvj h0 x0 x1 x2 x3 x4 x5
          go_upto_region 12 with (fail)
          have hHeld0 : (fun w9 => Below wr.heap.size wr w9 ∧ w9.cell? ⟨gb, go + j * 6, none⟩ = some (.string Bj) ∧ w9.cell? ⟨gb, go + j * 6 + 1, none⟩ = some (.bool false) ∧ w9.cell? ⟨gb, go + j * 6 + 2, none⟩ = some (.int .i64 0) ∧ w9.cell? ⟨gb, go + j * 6 + 3, none⟩ = some (.int .i64 vj) ∧ w9.cell? ⟨gb, go + j * 6 + 4, none⟩ = some (.int .i64 0) ∧ w9.cell? ⟨gb, go + j * 6 + 5, none⟩ = some (.int .i64 0)) wr.drew := sixO X0.out (Below.refl _ _).drew
          refine wp_region_held_drew (S := fun w9 => Below wr.heap.size wr w9 ∧ w9.cell? ⟨gb, go + j * 6, none⟩ = some (.string Bj) ∧ w9.cell? ⟨gb, go + j * 6 + 1, none⟩ = some (.bool false) ∧ w9.cell? ⟨gb, go + j * 6 + 2, none⟩ = some (.int .i64 0) ∧ w9.cell? ⟨gb, go + j * 6 + 3, none⟩ = some (.int .i64 vj) ∧ w9.cell? ⟨gb, go + j * 6 + 4, none⟩ = some (.int .i64 0) ∧ w9.cell? ⟨gb, go + j * 6 + 5, none⟩ = some (.int .i64 0)) (by kernel_rfl) hHeld0 (fun hHeld => ?_)
          clear hHeld0
          refine wpAnyH_take (i := 0) (oi := { dst := some 45, op := Op.move (Operand.tmp 4), type := 31, pos := "law.go:73", after := #[], guard := none }) (v := ?_) rfl (by kernel_rfl) (by kernel_rfl) (by kernel_rfl) (fun _ _ _ h => h) (Or.inl ⟨by kernel_rfl, ?_⟩) hHeld ?_
          rotate_left
          · intro w9 hSw; (try dsimp only at hSw); go_simp; try with_reducible rfl
          simp only [Act.put, List.setIfInBounds_toArray, List.set_cons_zero, List.set_cons_succ]
          refine wpAnyH_take (i := 1) (oi := { dst := some 46, op := Op.move (Operand.tmp 11), type := 3, pos := "law.go:73", after := #[], guard := none }) (v := ?_) rfl (by kernel_rfl) (by kernel_rfl) (by kernel_rfl) (fun _ _ _ h => h) (Or.inl ⟨by kernel_rfl, ?_⟩) hHeld ?_
          rotate_left
          · intro w9 hSw; (try dsimp only at hSw); go_simp; try with_reducible rfl
          simp only [Act.put, List.setIfInBounds_toArray, List.set_cons_zero, List.set_cons_succ]
          refine wpAnyH_take (i := 2) (oi := { dst := some 47, op := Op.indexAddr 31 (Operand.tmp 45) (Operand.tmp 46), type := 0, pos := "law.go:73", after := #[{ on := 0, ground := Ground.data }, { on := 1, ground := Ground.data }], guard := none }) (v := ?_) rfl (by kernel_rfl) (by kernel_rfl) (by kernel_rfl) (fun _ _ _ h => h) (Or.inl ⟨by kernel_rfl, ?_⟩) hHeld ?_
          rotate_left
          · intro w9 hSw; (try dsimp only at hSw); go_simp; try with_reducible rfl
          simp only [Act.put, List.setIfInBounds_toArray, List.set_cons_zero, List.set_cons_succ]
          refine wpAnyH_take (i := 3) (oi := { dst := some 48, op := Op.fieldAddr 37 (Operand.tmp 47) 2, type := 0, pos := "law.go:73", after := #[{ on := 2, ground := Ground.data }], guard := none }) (v := ?_) rfl (by kernel_rfl) (by kernel_rfl) (by kernel_rfl) (fun _ _ _ h => h) (Or.inl ⟨by kernel_rfl, ?_⟩) hHeld ?_
          rotate_left
          · intro w9 hSw; (try dsimp only at hSw); go_simp; try with_reducible rfl
          simp only [Act.put, List.setIfInBounds_toArray, List.set_cons_zero, List.set_cons_succ]
          refine wpAnyH_take (i := 4) (oi := { dst := some 49, op := Op.load 3 (Operand.tmp 48), type := 3, pos := "law.go:73", after := #[{ on := 3, ground := Ground.data }], guard := none }) (v := ?_) rfl (by kernel_rfl) (by kernel_rfl) (by kernel_rfl) (fun _ _ _ h => h) (Or.inl ⟨by kernel_rfl, ?_⟩) hHeld ?_
          rotate_left
          · intro w9 hSw; (try dsimp only at hSw); go_simp; try with_reducible rfl
          simp only [Act.put, List.setIfInBounds_toArray, List.set_cons_zero, List.set_cons_succ]
          refine wpAnyH_take (i := 5) (oi := { dst := some 50, op := Op.binOp BinOp.neq 3 (Operand.tmp 49) (Operand.const (Value.int IntKind.i64 0)) 3, type := 4, pos := "law.go:73", after := #[{ on := 4, ground := Ground.data }], guard := none }) (v := ?_) rfl (by kernel_rfl) (by kernel_rfl) (by kernel_rfl) (fun _ _ _ h => h) (Or.inl ⟨by kernel_rfl, ?_⟩) hHeld ?_
          rotate_left
          · intro w9 hSw; (try dsimp only at hSw); go_simp; try with_reducible rfl
          simp only [Act.put, List.setIfInBounds_toArray, List.set_cons_zero, List.set_cons_succ]
          refine wpAnyH_take (i := 6) (oi := { dst := some 51, op := Op.move (Operand.tmp 50), type := 4, pos := "law.go:73", after := #[{ on := 5, ground := Ground.data }], guard := none }) (v := ?_) rfl (by kernel_rfl) (by kernel_rfl) (by kernel_rfl) (fun _ _ _ h => h) (Or.inl ⟨by kernel_rfl, ?_⟩) hHeld ?_
          rotate_left
          · intro w9 hSw; (try dsimp only at hSw); go_simp; try with_reducible rfl
          simp only [Act.put, List.setIfInBounds_toArray, List.set_cons_zero, List.set_cons_succ]
          refine wpAnyH_take (i := 7) (oi := { dst := some 52, op := Op.move (Operand.tmp 4), type := 31, pos := "law.go:73", after := #[{ on := 6, ground := Ground.guard }], guard := some (6, false) }) (v := ?_) rfl (by kernel_rfl) (by kernel_rfl) (by kernel_rfl) (fun _ _ _ h => h) (Or.inl ⟨by kernel_rfl, ?_⟩) hHeld ?_
          rotate_left
          · intro w9 hSw; (try dsimp only at hSw); go_simp; try with_reducible rfl
          simp only [Act.put, List.setIfInBounds_toArray, List.set_cons_zero, List.set_cons_succ]
          refine wpAnyH_take (i := 8) (oi := { dst := some 53, op := Op.move (Operand.tmp 11), type := 3, pos := "law.go:73", after := #[{ on := 6, ground := Ground.guard }], guard := some (6, false) }) (v := ?_) rfl (by kernel_rfl) (by kernel_rfl) (by kernel_rfl) (fun _ _ _ h => h) (Or.inl ⟨by kernel_rfl, ?_⟩) hHeld ?_
          rotate_left
          · intro w9 hSw; (try dsimp only at hSw); go_simp; try with_reducible rfl
          simp only [Act.put, List.setIfInBounds_toArray, List.set_cons_zero, List.set_cons_succ]
          refine wpAnyH_take (i := 9) (oi := { dst := some 54, op := Op.indexAddr 31 (Operand.tmp 52) (Operand.tmp 53), type := 0, pos := "law.go:73", after := #[{ on := 7, ground := Ground.data }, { on := 8, ground := Ground.data }, { on := 6, ground := Ground.guard }], guard := some (6, false) }) (v := ?_) rfl (by kernel_rfl) (by kernel_rfl) (by kernel_rfl) (fun _ _ _ h => h) (Or.inl ⟨by kernel_rfl, ?_⟩) hHeld ?_
          rotate_left
          · intro w9 hSw; (try dsimp only at hSw); go_simp; try with_reducible rfl
          simp only [Act.put, List.setIfInBounds_toArray, List.set_cons_zero, List.set_cons_succ]
          refine wpAnyH_take (i := 10) (oi := { dst := some 55, op := Op.fieldAddr 37 (Operand.tmp 54) 1, type := 0, pos := "law.go:73", after := #[{ on := 9, ground := Ground.data }, { on := 6, ground := Ground.guard }], guard := some (6, false) }) (v := ?_) rfl (by kernel_rfl) (by kernel_rfl) (by kernel_rfl) (fun _ _ _ h => h) (Or.inl ⟨by kernel_rfl, ?_⟩) hHeld ?_
          rotate_left
          · intro w9 hSw; (try dsimp only at hSw); go_simp; try with_reducible rfl
          simp only [Act.put, List.setIfInBounds_toArray, List.set_cons_zero, List.set_cons_succ]
          refine wpAnyH_take (i := 11) (oi := { dst := some 56, op := Op.load 4 (Operand.tmp 55), type := 4, pos := "law.go:73", after := #[{ on := 10, ground := Ground.data }, { on := 6, ground := Ground.guard }], guard := some (6, false) }) (v := ?_) rfl (by kernel_rfl) (by kernel_rfl) (by kernel_rfl) (fun _ _ _ h => h) (Or.inl ⟨by kernel_rfl, ?_⟩) hHeld ?_
          rotate_left
          · intro w9 hSw; (try dsimp only at hSw); go_simp; try with_reducible rfl
          simp only [Act.put, List.setIfInBounds_toArray, List.set_cons_zero, List.set_cons_succ]
          refine wpAnyH_take (i := 12) (oi := { dst := some 57, op := Op.pick (Operand.tmp 51) (Operand.const (Value.bool true)) (Operand.tmp 56), type := 4, pos := "law.go:73", after := #[{ on := 6, ground := Ground.data }, { on := 11, ground := Ground.data }], guard := none }) (v := ?_) rfl (by kernel_rfl) (by kernel_rfl) (by kernel_rfl) (fun _ _ _ h => h) (Or.inl ⟨by kernel_rfl, ?_⟩) hHeld ?_
          rotate_left
          · intro w9 hSw; (try dsimp only at hSw); go_simp; try with_reducible rfl
          simp only [Act.put, List.setIfInBounds_toArray, List.set_cons_zero, List.set_cons_succ]
          refine wpAnyH_take (i := 13) (oi := { dst := some 58, op := Op.move (Operand.tmp 57), type := 4, pos := "law.go:73", after := #[{ on := 12, ground := Ground.data }, { on := 6, ground := Ground.chain }], guard := none }) (v := ?_) rfl (by kernel_rfl) (by kernel_rfl) (by kernel_rfl) (fun _ _ _ h => h) (Or.inl ⟨by kernel_rfl, ?_⟩) hHeld ?_
          rotate_left
          · intro w9 hSw; (try dsimp only at hSw); go_simp; try with_reducible rfl
          simp only [Act.put, List.setIfInBounds_toArray, List.set_cons_zero, List.set_cons_succ]
          refine wpAnyH_take (i := 14) (oi := { dst := some 59, op := Op.move (Operand.tmp 11), type := 3, pos := "law.go:73", after := #[{ on := 13, ground := Ground.guard }], guard := some (13, false) }) (v := ?_) rfl (by kernel_rfl) (by kernel_rfl) (by kernel_rfl) (fun _ _ _ h => h) (Or.inl ⟨by kernel_rfl, ?_⟩) hHeld ?_
          rotate_left
          · intro w9 hSw; (try dsimp only at hSw); go_simp; try with_reducible rfl
          simp only [Act.put, List.setIfInBounds_toArray, List.set_cons_zero, List.set_cons_succ]
          refine wpAnyH_take (i := 15) (oi := { dst := some 60, op := Op.binOp BinOp.gtr 3 (Operand.tmp 59) (Operand.const (Value.int IntKind.i64 0)) 3, type := 4, pos := "law.go:73", after := #[{ on := 14, ground := Ground.data }, { on := 13, ground := Ground.guard }], guard := some (13, false) }) (v := ?_) rfl (by kernel_rfl) (by kernel_rfl) (by kernel_rfl) (fun _ _ _ h => h) (Or.inl ⟨by kernel_rfl, ?_⟩) hHeld ?_
          rotate_left
          · intro w9 hSw; (try dsimp only at hSw); go_simp; try with_reducible rfl
          simp only [Act.put, List.setIfInBounds_toArray, List.set_cons_zero, List.set_cons_succ]
          refine wpAnyH_take (i := 16) (oi := { dst := some 61, op := Op.move (Operand.tmp 60), type := 4, pos := "law.go:73", after := #[{ on := 15, ground := Ground.data }, { on := 13, ground := Ground.chain }, { on := 13, ground := Ground.guard }], guard := some (13, false) }) (v := ?_) rfl (by kernel_rfl) (by kernel_rfl) (by kernel_rfl) (fun _ _ _ h => h) (Or.inl ⟨by kernel_rfl, ?_⟩) hHeld ?_
          rotate_left
          · intro w9 hSw; (try dsimp only at hSw); go_simp; try with_reducible rfl
          simp only [Act.put, List.setIfInBounds_toArray, List.set_cons_zero, List.set_cons_succ]
          refine wpAnyH_take (i := 17) (oi := { dst := some 62, op := Op.move (Operand.tmp 4), type := 31, pos := "law.go:73", after := #[{ on := 16, ground := Ground.guard }], guard := some (16, true) }) (v := undef) rfl (by kernel_rfl) (by kernel_rfl) (by kernel_rfl) (fun _ _ _ h => h) (Or.inr ⟨by kernel_rfl, rfl⟩) hHeld ?_
          simp only [Act.put, List.setIfInBounds_toArray, List.set_cons_zero, List.set_cons_succ]
          refine wpAnyH_take (i := 18) (oi := { dst := some 63, op := Op.move (Operand.tmp 11), type := 3, pos := "law.go:73", after := #[{ on := 16, ground := Ground.guard }], guard := some (16, true) }) (v := undef) rfl (by kernel_rfl) (by kernel_rfl) (by kernel_rfl) (fun _ _ _ h => h) (Or.inr ⟨by kernel_rfl, rfl⟩) hHeld ?_
          simp only [Act.put, List.setIfInBounds_toArray, List.set_cons_zero, List.set_cons_succ]
          refine wpAnyH_take (i := 19) (oi := { dst := some 64, op := Op.indexAddr 31 (Operand.tmp 62) (Operand.tmp 63), type := 0, pos := "law.go:73", after := #[{ on := 17, ground := Ground.data }, { on := 18, ground := Ground.data }, { on := 16, ground := Ground.guard }], guard := some (16, true) }) (v := undef) rfl (by kernel_rfl) (by kernel_rfl) (by kernel_rfl) (fun _ _ _ h => h) (Or.inr ⟨by kernel_rfl, rfl⟩) hHeld ?_
          simp only [Act.put, List.setIfInBounds_toArray, List.set_cons_zero, List.set_cons_succ]
          refine wpAnyH_take (i := 20) (oi := { dst := some 65, op := Op.fieldAddr 37 (Operand.tmp 64) 3, type := 0, pos := "law.go:73", after := #[{ on := 19, ground := Ground.data }, { on := 16, ground := Ground.guard }], guard := some (16, true) }) (v := undef) rfl (by kernel_rfl) (by kernel_rfl) (by kernel_rfl) (fun _ _ _ h => h) (Or.inr ⟨by kernel_rfl, rfl⟩) hHeld ?_
          simp only [Act.put, List.setIfInBounds_toArray, List.set_cons_zero, List.set_cons_succ]
          refine wpAnyH_take (i := 21) (oi := { dst := some 66, op := Op.load 3 (Operand.tmp 65), type := 3, pos := "law.go:73", after := #[{ on := 20, ground := Ground.data }, { on := 16, ground := Ground.guard }], guard := some (16, true) }) (v := undef) rfl (by kernel_rfl) (by kernel_rfl) (by kernel_rfl) (fun _ _ _ h => h) (Or.inr ⟨by kernel_rfl, rfl⟩) hHeld ?_
          simp only [Act.put, List.setIfInBounds_toArray, List.set_cons_zero, List.set_cons_succ]
          refine wpAnyH_take (i := 22) (oi := { dst := some 67, op := Op.move (Operand.tmp 4), type := 31, pos := "law.go:73", after := #[{ on := 16, ground := Ground.guard }], guard := some (16, true) }) (v := undef) rfl (by kernel_rfl) (by kernel_rfl) (by kernel_rfl) (fun _ _ _ h => h) (Or.inr ⟨by kernel_rfl, rfl⟩) hHeld ?_
          simp only [Act.put, List.setIfInBounds_toArray, List.set_cons_zero, List.set_cons_succ]
          refine wpAnyH_take (i := 23) (oi := { dst := some 68, op := Op.move (Operand.tmp 11), type := 3, pos := "law.go:73", after := #[{ on := 16, ground := Ground.guard }], guard := some (16, true) }) (v := undef) rfl (by kernel_rfl) (by kernel_rfl) (by kernel_rfl) (fun _ _ _ h => h) (Or.inr ⟨by kernel_rfl, rfl⟩) hHeld ?_
          simp only [Act.put, List.setIfInBounds_toArray, List.set_cons_zero, List.set_cons_succ]
          refine wpAnyH_take (i := 24) (oi := { dst := some 69, op := Op.binOp BinOp.sub 3 (Operand.tmp 68) (Operand.const (Value.int IntKind.i64 1)) 3, type := 3, pos := "law.go:73", after := #[{ on := 23, ground := Ground.data }, { on := 16, ground := Ground.guard }], guard := some (16, true) }) (v := undef) rfl (by kernel_rfl) (by kernel_rfl) (by kernel_rfl) (fun _ _ _ h => h) (Or.inr ⟨by kernel_rfl, rfl⟩) hHeld ?_
          simp only [Act.put, List.setIfInBounds_toArray, List.set_cons_zero, List.set_cons_succ]
          refine wpAnyH_take (i := 25) (oi := { dst := some 70, op := Op.indexAddr 31 (Operand.tmp 67) (Operand.tmp 69), type := 0, pos := "law.go:73", after := #[{ on := 22, ground := Ground.data }, { on := 24, ground := Ground.data }, { on := 16, ground := Ground.guard }], guard := some (16, true) }) (v := undef) rfl (by kernel_rfl) (by kernel_rfl) (by kernel_rfl) (fun _ _ _ h => h) (Or.inr ⟨by kernel_rfl, rfl⟩) hHeld ?_
          simp only [Act.put, List.setIfInBounds_toArray, List.set_cons_zero, List.set_cons_succ]
          refine wpAnyH_take (i := 26) (oi := { dst := some 71, op := Op.fieldAddr 37 (Operand.tmp 70) 3, type := 0, pos := "law.go:73", after := #[{ on := 25, ground := Ground.data }, { on := 16, ground := Ground.guard }], guard := some (16, true) }) (v := undef) rfl (by kernel_rfl) (by kernel_rfl) (by kernel_rfl) (fun _ _ _ h => h) (Or.inr ⟨by kernel_rfl, rfl⟩) hHeld ?_
          simp only [Act.put, List.setIfInBounds_toArray, List.set_cons_zero, List.set_cons_succ]
          refine wpAnyH_take (i := 27) (oi := { dst := some 72, op := Op.load 3 (Operand.tmp 71), type := 3, pos := "law.go:73", after := #[{ on := 26, ground := Ground.data }, { on := 16, ground := Ground.guard }], guard := some (16, true) }) (v := undef) rfl (by kernel_rfl) (by kernel_rfl) (by kernel_rfl) (fun _ _ _ h => h) (Or.inr ⟨by kernel_rfl, rfl⟩) hHeld ?_
          simp only [Act.put, List.setIfInBounds_toArray, List.set_cons_zero, List.set_cons_succ]
          refine wpAnyH_take (i := 28) (oi := { dst := some 73, op := Op.binOp BinOp.leq 3 (Operand.tmp 66) (Operand.tmp 72) 3, type := 4, pos := "law.go:73", after := #[{ on := 21, ground := Ground.data }, { on := 27, ground := Ground.data }, { on := 16, ground := Ground.guard }], guard := some (16, true) }) (v := undef) rfl (by kernel_rfl) (by kernel_rfl) (by kernel_rfl) (fun _ _ _ h => h) (Or.inr ⟨by kernel_rfl, rfl⟩) hHeld ?_
          simp only [Act.put, List.setIfInBounds_toArray, List.set_cons_zero, List.set_cons_succ]
          refine wpAnyH_take (i := 29) (oi := { dst := some 74, op := Op.pick (Operand.tmp 61) (Operand.tmp 73) (Operand.const (Value.bool false)), type := 4, pos := "law.go:73", after := #[{ on := 16, ground := Ground.data }, { on := 28, ground := Ground.data }, { on := 13, ground := Ground.guard }], guard := some (13, false) }) (v := ?_) rfl (by kernel_rfl) (by kernel_rfl) (by kernel_rfl) (fun _ _ _ h => h) (Or.inl ⟨by kernel_rfl, ?_⟩) hHeld ?_
          rotate_left
          · intro w9 hSw; (try dsimp only at hSw); go_simp; try with_reducible rfl
          simp only [Act.put, List.setIfInBounds_toArray, List.set_cons_zero, List.set_cons_succ]
          refine wpAnyH_take (i := 30) (oi := { dst := some 75, op := Op.pick (Operand.tmp 58) (Operand.const (Value.bool true)) (Operand.tmp 74), type := 4, pos := "law.go:73", after := #[{ on := 13, ground := Ground.data }, { on := 29, ground := Ground.data }], guard := none }) (v := ?_) rfl (by kernel_rfl) (by kernel_rfl) (by kernel_rfl) (fun _ _ _ h => h) (Or.inl ⟨by kernel_rfl, ?_⟩) hHeld ?_
          rotate_left
          · intro w9 hSw; (try dsimp only at hSw); go_simp; try with_reducible rfl
          simp only [Act.put, List.setIfInBounds_toArray, List.set_cons_zero, List.set_cons_succ]
          refine wpAnyH_take (i := 31) (oi := { dst := some 76, op := Op.move (Operand.tmp 75), type := 4, pos := "law.go:73", after := #[{ on := 30, ground := Ground.data }, { on := 16, ground := Ground.chain }], guard := none }) (v := ?_) rfl (by kernel_rfl) (by kernel_rfl) (by kernel_rfl) (fun _ _ _ h => h) (Or.inl ⟨by kernel_rfl, ?_⟩) hHeld ?_
          rotate_left
          · intro w9 hSw; (try dsimp only at hSw); go_simp; try with_reducible rfl
          simp only [Act.put, List.setIfInBounds_toArray, List.set_cons_zero, List.set_cons_succ]
          refine wpAnyH_take (i := 32) (oi := { dst := some 77, op := Op.move (Operand.tmp 4), type := 31, pos := "law.go:73", after := #[{ on := 31, ground := Ground.guard }], guard := some (31, false) }) (v := ?_) rfl (by kernel_rfl) (by kernel_rfl) (by kernel_rfl) (fun _ _ _ h => h) (Or.inl ⟨by kernel_rfl, ?_⟩) hHeld ?_
          rotate_left
          · intro w9 hSw; (try dsimp only at hSw); go_simp; try with_reducible rfl
          simp only [Act.put, List.setIfInBounds_toArray, List.set_cons_zero, List.set_cons_succ]
          refine wpAnyH_take (i := 33) (oi := { dst := some 78, op := Op.move (Operand.tmp 11), type := 3, pos := "law.go:73", after := #[{ on := 31, ground := Ground.guard }], guard := some (31, false) }) (v := ?_) rfl (by kernel_rfl) (by kernel_rfl) (by kernel_rfl) (fun _ _ _ h => h) (Or.inl ⟨by kernel_rfl, ?_⟩) hHeld ?_
          rotate_left
          · intro w9 hSw; (try dsimp only at hSw); go_simp; try with_reducible rfl
          simp only [Act.put, List.setIfInBounds_toArray, List.set_cons_zero, List.set_cons_succ]
          refine wpAnyH_take (i := 34) (oi := { dst := some 79, op := Op.indexAddr 31 (Operand.tmp 77) (Operand.tmp 78), type := 0, pos := "law.go:73", after := #[{ on := 32, ground := Ground.data }, { on := 33, ground := Ground.data }, { on := 31, ground := Ground.guard }], guard := some (31, false) }) (v := ?_) rfl (by kernel_rfl) (by kernel_rfl) (by kernel_rfl) (fun _ _ _ h => h) (Or.inl ⟨by kernel_rfl, ?_⟩) hHeld ?_
          rotate_left
          · intro w9 hSw; (try dsimp only at hSw); go_simp; try with_reducible rfl
          simp only [Act.put, List.setIfInBounds_toArray, List.set_cons_zero, List.set_cons_succ]
          refine wpAnyH_take (i := 35) (oi := { dst := some 80, op := Op.load 37 (Operand.tmp 79), type := 37, pos := "law.go:73", after := #[{ on := 34, ground := Ground.data }, { on := 31, ground := Ground.guard }], guard := some (31, false) }) (v := ?_) rfl (by kernel_rfl) (by kernel_rfl) (by kernel_rfl) (fun _ _ _ h => h) (Or.inl ⟨by kernel_rfl, ?_⟩) hHeld ?_
          rotate_left
          · intro w9 hSw; (try dsimp only at hSw); go_simp; try with_reducible rfl
          simp only [Act.put, List.setIfInBounds_toArray, List.set_cons_zero, List.set_cons_succ]
          refine wpAnyH_ready (rs := [36]) (by kernel_rfl) (by simp) ?_
          refine AllReadyH.cons (o := { dst := some 81, op := Op.call { callee := Callee.value (Operand.func 26), args := #[Operand.tmp 80], argTypes := #[37] }, type := 4, pos := "law.go:73", after := #[{ on := 35, ground := Ground.data }, { on := 31, ground := Ground.chain }, { on := 31, ground := Ground.guard }], guard := some (31, false) }) rfl (fun K hK => ?_) AllReadyH.nil
          go_simp
          refine (sane_is Bj false 0 vj 0 0 true (by omega) HSJ.out _).mono ?_; rintro e w8 ⟨rfl, hb8⟩
          refine hK.out _ _ (sixO X0.out (below_then hHeld.1 hb8)) (fun hHeld => ?_)
          clear hK K
          try simp only [Act.put, List.setIfInBounds_toArray, List.set_cons_zero, List.set_cons_succ]
          refine wpAnyH_take (i := 37) (oi := { dst := some 82, op := Op.unOp UnOp.not 4 (Operand.tmp 81), type := 4, pos := "law.go:73", after := #[{ on := 36, ground := Ground.data }, { on := 31, ground := Ground.guard }], guard := some (31, false) }) (v := ?_) rfl (by kernel_rfl) (by kernel_rfl) (by kernel_rfl) (fun _ _ _ h => h) (Or.inl ⟨by kernel_rfl, ?_⟩) hHeld ?_
          rotate_left
          · intro w9 hSw; (try dsimp only at hSw); go_simp; try with_reducible rfl
          simp only [Act.put, List.setIfInBounds_toArray, List.set_cons_zero, List.set_cons_succ]
          refine wpAnyH_take (i := 38) (oi := { dst := some 83, op := Op.pick (Operand.tmp 76) (Operand.const (Value.bool true)) (Operand.tmp 82), type := 4, pos := "law.go:73", after := #[{ on := 31, ground := Ground.data }, { on := 37, ground := Ground.data }], guard := none }) (v := ?_) rfl (by kernel_rfl) (by kernel_rfl) (by kernel_rfl) (fun _ _ _ h => h) (Or.inl ⟨by kernel_rfl, ?_⟩) hHeld ?_
          rotate_left
          · intro w9 hSw; (try dsimp only at hSw); go_simp; try with_reducible rfl
          simp only [Act.put, List.setIfInBounds_toArray, List.set_cons_zero, List.set_cons_succ]
          refine wpAnyH_done (by kernel_rfl) ?_ _
          have HVe := Lib.hid (below_then HV.out hHeld.1)
          have x3 := (X0.out.keep hHeld.1).c3
          have xlt3 := (X0.out.keep hHeld.1).lt
          clear gz gz2 hHeld
          by_cases hvk : vj = (k : Int)
          · have g1 : (vj == (k : Int)) = true := beq_iff_eq.2 hvk
            have hc := Lib.hid (HCY.out hvk)
            clear hvk HCY HCN
            go_wp2
            go_roundw
            case rel => exact ⟨j + 1, by omega, by go_num, by rw [hc.out]; go_num, HVe.out⟩
            case measure => simp [intOf] <;> omega
          · have g1 : (vj == (k : Int)) = false := beq_eq_false_iff_ne.2 hvk
            have hc := Lib.hid (HCN.out hvk)
            clear hvk HCY HCN
            go_wp2
            go_roundw
            case rel => exact ⟨j + 1, by omega, by go_num, by rw [hc.out], HVe.out⟩
            case measure => simp [intOf] <;> omega
      · obtain rfl : j = z := by omega
        rw [hfin]
        go_wp2
        go_ret
        exact ⟨rfl, below_then HB6.out HV.out⟩
  · obtain rfl := HX.out (by simp)
    have hfin : bsC k z = 1 := HC.out
    go_loopw [10, 11] (fun sn i wr => ∃ j : Nat, j ≤ z ∧ i = .int .i64 j ∧ sn = .int .i64 (bsC k j : Nat) ∧ Below w6.heap.size w6 wr) (fun _ i _ => ((z : Int) - intOf i).toNat)
    case atStart => exact ⟨0, by omega, rfl, by rw [bsC_zero]; rfl, Below.refl _ _⟩
    case round =>
      obtain ⟨j, hj, rfl, rfl, hb⟩ := hrel
      have HV := Lib.hid hb
      clear hb
      by_cases hlt : j < z
      · obtain ⟨gb, go, rfl, hx⟩ := (H6.out.below HV.out).six j hlt
        obtain ⟨Bj, vj, hE, hSz, hSJ, hCY, hCN⟩ := HJ.out j hlt
        have hvj : ((bsT 111).getD j e0).v = vj := by rw [hE]
        rw [hE] at hx
        have X0 := Lib.hid hx
        have HSJ := Lib.hid hSJ
        have HCY := Lib.hid hCY
        have HCN := Lib.hid hCN
        have hcl := bsC_le k j
        generalize bsC k j = cn at *
        have x0 := hx.c0
        have x1 := hx.c1
        have x2 := hx.c2
        have x3 := hx.c3
        have x4 := hx.c4
        have x5 := hx.c5
        have xlt := hx.lt
        clear hx hE hSJ hCY hCN
        have xlt2 := xlt
        by_cases h0 : 0 < j
        · obtain ⟨r, hr⟩ : ∃ r, j = r + 1 := ⟨j - 1, by omega⟩
          obtain ⟨gb2, go2, hA, hy⟩ := (H6.out.below HV.out).six r (by omega)
          cases hA
          obtain ⟨vi, hvi⟩ : ∃ vi, ((bsT 111).getD r e0).v = vi := ⟨_, rfl⟩
          have hvl := HR.out r (by omega) vi vj hvi (by rw [← hr]; exact hvj)
          have Y0 := Lib.hid (fun (w9 : World) (h9 : Below wr.heap.size wr w9) => (show w9.cell? ⟨gb, go + r * 6 + 3, none⟩ = some (.int .i64 vi) from by rw [← hvi]; exact (hy.keep h9).c3))
          have hm1 : (j : Int) - 1 = (r : Int) := by omega
          have hm2 : IntKind.i64.wrap ((j : Int) - 1) = (r : Int) := by rw [hm1, IntKind.wrap_i64]; omega
          have hm3 : IntKind.i64.wrap (r : Int) = (r : Int) := by rw [IntKind.wrap_i64]; omega
          have gz : decide ((0 : Int) < (j : Int)) = true := by simp; omega
          have gv : decide (vj ≤ vi) = false := decide_eq_false (by omega)
          have hrz : r < z := by omega
          have hr1 : (0 : Int) ≤ (r : Int) := by omega
          have hr2 : (r : Int) < (z : Int) := by omega
          have PS := Lib.hid (fun (w9 : World) (h9 : Below wr.heap.size wr w9) => (show Below wr.heap.size wr w9 ∧ w9.cell? ⟨gb, go + j * 6, none⟩ = some (.string Bj) ∧ w9.cell? ⟨gb, go + j * 6 + 1, none⟩ = some (.bool false) ∧ w9.cell? ⟨gb, go + j * 6 + 2, none⟩ = some (.int .i64 0) ∧ w9.cell? ⟨gb, go + j * 6 + 3, none⟩ = some (.int .i64 vj) ∧ w9.cell? ⟨gb, go + j * 6 + 4, none⟩ = some (.int .i64 0) ∧ w9.cell? ⟨gb, go + j * 6 + 5, none⟩ = some (.int .i64 0) ∧ w9.cell? ⟨gb, go + r * 6 + 3, none⟩ = some (.int .i64 vi) from ⟨h9, (X0.out.keep h9).c0, (X0.out.keep h9).c1, (X0.out.keep h9).c2, (X0.out.keep h9).c3, (X0.out.keep h9).c4, (X0.out.keep h9).c5, Y0.out _ h9⟩))
          clear hy hr hvi hvl hvj x0 x1 x2 x3 x4 x5
          go_upto_region 12 with (fail)
          have HVd : Hid (Below wr.heap.size wr wr.drew) := Lib.hid (Below.refl _ _).drew
          go_region_held3 (fun w9 => Below wr.heap.size wr w9 ∧ w9.cell? ⟨gb, go + j * 6, none⟩ = some (.string Bj) ∧ w9.cell? ⟨gb, go + j * 6 + 1, none⟩ = some (.bool false) ∧ w9.cell? ⟨gb, go + j * 6 + 2, none⟩ = some (.int .i64 0) ∧ w9.cell? ⟨gb, go + j * 6 + 3, none⟩ = some (.int .i64 vj) ∧ w9.cell? ⟨gb, go + j * 6 + 4, none⟩ = some (.int .i64 0) ∧ w9.cell? ⟨gb, go + j * 6 + 5, none⟩ = some (.int .i64 0) ∧ w9.cell? ⟨gb, go + r * 6 + 3, none⟩ = some (.int .i64 vi)) (first | assumption | exact PS.out _ HVd.out)
            (first | (go_at_call 26; refine (sane_is Bj false 0 vj 0 0 true (by omega) HSJ.out _).mono ?_; rintro e w8 ⟨rfl, hb8⟩; have HVd := Lib.hid (below_then HVd.out hb8); clear hb8))
          have HVe := Lib.hid (below_then HV.out HVd.out)
          have x3 := (X0.out.keep HVd.out).c3
          have xlt3 := (X0.out.keep HVd.out).lt
          clear hm1 hm2 hm3 gz gv
          by_cases hvk : vj = (k : Int)
          · have g1 : (vj == (k : Int)) = true := beq_iff_eq.2 hvk
            have hc := Lib.hid (HCY.out hvk)
            clear hvk HCY HCN
            go_wp2
            go_roundw
            case rel => exact ⟨j + 1, by omega, by go_num, by rw [hc.out]; go_num, HVe.out⟩
            case measure => simp [intOf] <;> omega
          · have g1 : (vj == (k : Int)) = false := beq_eq_false_iff_ne.2 hvk
            have hc := Lib.hid (HCN.out hvk)
            clear hvk HCY HCN
            go_wp2
            go_roundw
            case rel => exact ⟨j + 1, by omega, by go_num, by rw [hc.out], HVe.out⟩
            case measure => simp [intOf] <;> omega
        · have gz : decide ((0 : Int) < (j : Int)) = false := by simp; omega
          have gz2 : decide (0 < j) = false := by simp; omega
          clear hvj h0 x0 x1 x2 x3 x4 x5
          go_upto_region 12 with (fail)
          have hHeld0 : (fun w9 => Below wr.heap.size wr w9 ∧ w9.cell? ⟨gb, go + j * 6, none⟩ = some (.string Bj) ∧ w9.cell? ⟨gb, go + j * 6 + 1, none⟩ = some (.bool false) ∧ w9.cell? ⟨gb, go + j * 6 + 2, none⟩ = some (.int .i64 0) ∧ w9.cell? ⟨gb, go + j * 6 + 3, none⟩ = some (.int .i64 vj) ∧ w9.cell? ⟨gb, go + j * 6 + 4, none⟩ = some (.int .i64 0) ∧ w9.cell? ⟨gb, go + j * 6 + 5, none⟩ = some (.int .i64 0)) wr.drew := sixO X0.out (Below.refl _ _).drew
          refine wp_region_held_drew (S := fun w9 => Below wr.heap.size wr w9 ∧ w9.cell? ⟨gb, go + j * 6, none⟩ = some (.string Bj) ∧ w9.cell? ⟨gb, go + j * 6 + 1, none⟩ = some (.bool false) ∧ w9.cell? ⟨gb, go + j * 6 + 2, none⟩ = some (.int .i64 0) ∧ w9.cell? ⟨gb, go + j * 6 + 3, none⟩ = some (.int .i64 vj) ∧ w9.cell? ⟨gb, go + j * 6 + 4, none⟩ = some (.int .i64 0) ∧ w9.cell? ⟨gb, go + j * 6 + 5, none⟩ = some (.int .i64 0)) (by kernel_rfl) hHeld0 (fun hHeld => ?_)
          clear hHeld0
          refine wpAnyH_take (i := 0) (oi := { dst := some 45, op := Op.move (Operand.tmp 4), type := 31, pos := "law.go:73", after := #[], guard := none }) (v := ?_) rfl (by kernel_rfl) (by kernel_rfl) (by kernel_rfl) (fun _ _ _ h => h) (Or.inl ⟨by kernel_rfl, ?_⟩) hHeld ?_
          rotate_left
          · intro w9 hSw; (try dsimp only at hSw); go_simp; try with_reducible rfl
          simp only [Act.put, List.setIfInBounds_toArray, List.set_cons_zero, List.set_cons_succ]
          refine wpAnyH_take (i := 1) (oi := { dst := some 46, op := Op.move (Operand.tmp 11), type := 3, pos := "law.go:73", after := #[], guard := none }) (v := ?_) rfl (by kernel_rfl) (by kernel_rfl) (by kernel_rfl) (fun _ _ _ h => h) (Or.inl ⟨by kernel_rfl, ?_⟩) hHeld ?_
          rotate_left
          · intro w9 hSw; (try dsimp only at hSw); go_simp; try with_reducible rfl
          simp only [Act.put, List.setIfInBounds_toArray, List.set_cons_zero, List.set_cons_succ]
          refine wpAnyH_take (i := 2) (oi := { dst := some 47, op := Op.indexAddr 31 (Operand.tmp 45) (Operand.tmp 46), type := 0, pos := "law.go:73", after := #[{ on := 0, ground := Ground.data }, { on := 1, ground := Ground.data }], guard := none }) (v := ?_) rfl (by kernel_rfl) (by kernel_rfl) (by kernel_rfl) (fun _ _ _ h => h) (Or.inl ⟨by kernel_rfl, ?_⟩) hHeld ?_
          rotate_left
          · intro w9 hSw; (try dsimp only at hSw); go_simp; try with_reducible rfl
          simp only [Act.put, List.setIfInBounds_toArray, List.set_cons_zero, List.set_cons_succ]
          refine wpAnyH_take (i := 3) (oi := { dst := some 48, op := Op.fieldAddr 37 (Operand.tmp 47) 2, type := 0, pos := "law.go:73", after := #[{ on := 2, ground := Ground.data }], guard := none }) (v := ?_) rfl (by kernel_rfl) (by kernel_rfl) (by kernel_rfl) (fun _ _ _ h => h) (Or.inl ⟨by kernel_rfl, ?_⟩) hHeld ?_
          rotate_left
          · intro w9 hSw; (try dsimp only at hSw); go_simp; try with_reducible rfl
          simp only [Act.put, List.setIfInBounds_toArray, List.set_cons_zero, List.set_cons_succ]
          refine wpAnyH_take (i := 4) (oi := { dst := some 49, op := Op.load 3 (Operand.tmp 48), type := 3, pos := "law.go:73", after := #[{ on := 3, ground := Ground.data }], guard := none }) (v := ?_) rfl (by kernel_rfl) (by kernel_rfl) (by kernel_rfl) (fun _ _ _ h => h) (Or.inl ⟨by kernel_rfl, ?_⟩) hHeld ?_
          rotate_left
          · intro w9 hSw; (try dsimp only at hSw); go_simp; try with_reducible rfl
          simp only [Act.put, List.setIfInBounds_toArray, List.set_cons_zero, List.set_cons_succ]
          refine wpAnyH_take (i := 5) (oi := { dst := some 50, op := Op.binOp BinOp.neq 3 (Operand.tmp 49) (Operand.const (Value.int IntKind.i64 0)) 3, type := 4, pos := "law.go:73", after := #[{ on := 4, ground := Ground.data }], guard := none }) (v := ?_) rfl (by kernel_rfl) (by kernel_rfl) (by kernel_rfl) (fun _ _ _ h => h) (Or.inl ⟨by kernel_rfl, ?_⟩) hHeld ?_
          rotate_left
          · intro w9 hSw; (try dsimp only at hSw); go_simp; try with_reducible rfl
          simp only [Act.put, List.setIfInBounds_toArray, List.set_cons_zero, List.set_cons_succ]
          refine wpAnyH_take (i := 6) (oi := { dst := some 51, op := Op.move (Operand.tmp 50), type := 4, pos := "law.go:73", after := #[{ on := 5, ground := Ground.data }], guard := none }) (v := ?_) rfl (by kernel_rfl) (by kernel_rfl) (by kernel_rfl) (fun _ _ _ h => h) (Or.inl ⟨by kernel_rfl, ?_⟩) hHeld ?_
          rotate_left
          · intro w9 hSw; (try dsimp only at hSw); go_simp; try with_reducible rfl
          simp only [Act.put, List.setIfInBounds_toArray, List.set_cons_zero, List.set_cons_succ]
          refine wpAnyH_take (i := 7) (oi := { dst := some 52, op := Op.move (Operand.tmp 4), type := 31, pos := "law.go:73", after := #[{ on := 6, ground := Ground.guard }], guard := some (6, false) }) (v := ?_) rfl (by kernel_rfl) (by kernel_rfl) (by kernel_rfl) (fun _ _ _ h => h) (Or.inl ⟨by kernel_rfl, ?_⟩) hHeld ?_
          rotate_left
          · intro w9 hSw; (try dsimp only at hSw); go_simp; try with_reducible rfl
          simp only [Act.put, List.setIfInBounds_toArray, List.set_cons_zero, List.set_cons_succ]
          refine wpAnyH_take (i := 8) (oi := { dst := some 53, op := Op.move (Operand.tmp 11), type := 3, pos := "law.go:73", after := #[{ on := 6, ground := Ground.guard }], guard := some (6, false) }) (v := ?_) rfl (by kernel_rfl) (by kernel_rfl) (by kernel_rfl) (fun _ _ _ h => h) (Or.inl ⟨by kernel_rfl, ?_⟩) hHeld ?_
          rotate_left
          · intro w9 hSw; (try dsimp only at hSw); go_simp; try with_reducible rfl
          simp only [Act.put, List.setIfInBounds_toArray, List.set_cons_zero, List.set_cons_succ]
          refine wpAnyH_take (i := 9) (oi := { dst := some 54, op := Op.indexAddr 31 (Operand.tmp 52) (Operand.tmp 53), type := 0, pos := "law.go:73", after := #[{ on := 7, ground := Ground.data }, { on := 8, ground := Ground.data }, { on := 6, ground := Ground.guard }], guard := some (6, false) }) (v := ?_) rfl (by kernel_rfl) (by kernel_rfl) (by kernel_rfl) (fun _ _ _ h => h) (Or.inl ⟨by kernel_rfl, ?_⟩) hHeld ?_
          rotate_left
          · intro w9 hSw; (try dsimp only at hSw); go_simp; try with_reducible rfl
          simp only [Act.put, List.setIfInBounds_toArray, List.set_cons_zero, List.set_cons_succ]
          refine wpAnyH_take (i := 10) (oi := { dst := some 55, op := Op.fieldAddr 37 (Operand.tmp 54) 1, type := 0, pos := "law.go:73", after := #[{ on := 9, ground := Ground.data }, { on := 6, ground := Ground.guard }], guard := some (6, false) }) (v := ?_) rfl (by kernel_rfl) (by kernel_rfl) (by kernel_rfl) (fun _ _ _ h => h) (Or.inl ⟨by kernel_rfl, ?_⟩) hHeld ?_
          rotate_left
          · intro w9 hSw; (try dsimp only at hSw); go_simp; try with_reducible rfl
          simp only [Act.put, List.setIfInBounds_toArray, List.set_cons_zero, List.set_cons_succ]
          refine wpAnyH_take (i := 11) (oi := { dst := some 56, op := Op.load 4 (Operand.tmp 55), type := 4, pos := "law.go:73", after := #[{ on := 10, ground := Ground.data }, { on := 6, ground := Ground.guard }], guard := some (6, false) }) (v := ?_) rfl (by kernel_rfl) (by kernel_rfl) (by kernel_rfl) (fun _ _ _ h => h) (Or.inl ⟨by kernel_rfl, ?_⟩) hHeld ?_
          rotate_left
          · intro w9 hSw; (try dsimp only at hSw); go_simp; try with_reducible rfl
          simp only [Act.put, List.setIfInBounds_toArray, List.set_cons_zero, List.set_cons_succ]
          refine wpAnyH_take (i := 12) (oi := { dst := some 57, op := Op.pick (Operand.tmp 51) (Operand.const (Value.bool true)) (Operand.tmp 56), type := 4, pos := "law.go:73", after := #[{ on := 6, ground := Ground.data }, { on := 11, ground := Ground.data }], guard := none }) (v := ?_) rfl (by kernel_rfl) (by kernel_rfl) (by kernel_rfl) (fun _ _ _ h => h) (Or.inl ⟨by kernel_rfl, ?_⟩) hHeld ?_
          rotate_left
          · intro w9 hSw; (try dsimp only at hSw); go_simp; try with_reducible rfl
          simp only [Act.put, List.setIfInBounds_toArray, List.set_cons_zero, List.set_cons_succ]
          refine wpAnyH_take (i := 13) (oi := { dst := some 58, op := Op.move (Operand.tmp 57), type := 4, pos := "law.go:73", after := #[{ on := 12, ground := Ground.data }, { on := 6, ground := Ground.chain }], guard := none }) (v := ?_) rfl (by kernel_rfl) (by kernel_rfl) (by kernel_rfl) (fun _ _ _ h => h) (Or.inl ⟨by kernel_rfl, ?_⟩) hHeld ?_
          rotate_left
          · intro w9 hSw; (try dsimp only at hSw); go_simp; try with_reducible rfl
          simp only [Act.put, List.setIfInBounds_toArray, List.set_cons_zero, List.set_cons_succ]
          refine wpAnyH_take (i := 14) (oi := { dst := some 59, op := Op.move (Operand.tmp 11), type := 3, pos := "law.go:73", after := #[{ on := 13, ground := Ground.guard }], guard := some (13, false) }) (v := ?_) rfl (by kernel_rfl) (by kernel_rfl) (by kernel_rfl) (fun _ _ _ h => h) (Or.inl ⟨by kernel_rfl, ?_⟩) hHeld ?_
          rotate_left
          · intro w9 hSw; (try dsimp only at hSw); go_simp; try with_reducible rfl
          simp only [Act.put, List.setIfInBounds_toArray, List.set_cons_zero, List.set_cons_succ]
          refine wpAnyH_take (i := 15) (oi := { dst := some 60, op := Op.binOp BinOp.gtr 3 (Operand.tmp 59) (Operand.const (Value.int IntKind.i64 0)) 3, type := 4, pos := "law.go:73", after := #[{ on := 14, ground := Ground.data }, { on := 13, ground := Ground.guard }], guard := some (13, false) }) (v := ?_) rfl (by kernel_rfl) (by kernel_rfl) (by kernel_rfl) (fun _ _ _ h => h) (Or.inl ⟨by kernel_rfl, ?_⟩) hHeld ?_
          rotate_left
          · intro w9 hSw; (try dsimp only at hSw); go_simp; try with_reducible rfl
          simp only [Act.put, List.setIfInBounds_toArray, List.set_cons_zero, List.set_cons_succ]
          refine wpAnyH_take (i := 16) (oi := { dst := some 61, op := Op.move (Operand.tmp 60), type := 4, pos := "law.go:73", after := #[{ on := 15, ground := Ground.data }, { on := 13, ground := Ground.chain }, { on := 13, ground := Ground.guard }], guard := some (13, false) }) (v := ?_) rfl (by kernel_rfl) (by kernel_rfl) (by kernel_rfl) (fun _ _ _ h => h) (Or.inl ⟨by kernel_rfl, ?_⟩) hHeld ?_
          rotate_left
          · intro w9 hSw; (try dsimp only at hSw); go_simp; try with_reducible rfl
          simp only [Act.put, List.setIfInBounds_toArray, List.set_cons_zero, List.set_cons_succ]
          refine wpAnyH_take (i := 17) (oi := { dst := some 62, op := Op.move (Operand.tmp 4), type := 31, pos := "law.go:73", after := #[{ on := 16, ground := Ground.guard }], guard := some (16, true) }) (v := undef) rfl (by kernel_rfl) (by kernel_rfl) (by kernel_rfl) (fun _ _ _ h => h) (Or.inr ⟨by kernel_rfl, rfl⟩) hHeld ?_
          simp only [Act.put, List.setIfInBounds_toArray, List.set_cons_zero, List.set_cons_succ]
          refine wpAnyH_take (i := 18) (oi := { dst := some 63, op := Op.move (Operand.tmp 11), type := 3, pos := "law.go:73", after := #[{ on := 16, ground := Ground.guard }], guard := some (16, true) }) (v := undef) rfl (by kernel_rfl) (by kernel_rfl) (by kernel_rfl) (fun _ _ _ h => h) (Or.inr ⟨by kernel_rfl, rfl⟩) hHeld ?_
          simp only [Act.put, List.setIfInBounds_toArray, List.set_cons_zero, List.set_cons_succ]
          refine wpAnyH_take (i := 19) (oi := { dst := some 64, op := Op.indexAddr 31 (Operand.tmp 62) (Operand.tmp 63), type := 0, pos := "law.go:73", after := #[{ on := 17, ground := Ground.data }, { on := 18, ground := Ground.data }, { on := 16, ground := Ground.guard }], guard := some (16, true) }) (v := undef) rfl (by kernel_rfl) (by kernel_rfl) (by kernel_rfl) (fun _ _ _ h => h) (Or.inr ⟨by kernel_rfl, rfl⟩) hHeld ?_
          simp only [Act.put, List.setIfInBounds_toArray, List.set_cons_zero, List.set_cons_succ]
          refine wpAnyH_take (i := 20) (oi := { dst := some 65, op := Op.fieldAddr 37 (Operand.tmp 64) 3, type := 0, pos := "law.go:73", after := #[{ on := 19, ground := Ground.data }, { on := 16, ground := Ground.guard }], guard := some (16, true) }) (v := undef) rfl (by kernel_rfl) (by kernel_rfl) (by kernel_rfl) (fun _ _ _ h => h) (Or.inr ⟨by kernel_rfl, rfl⟩) hHeld ?_
          simp only [Act.put, List.setIfInBounds_toArray, List.set_cons_zero, List.set_cons_succ]
          refine wpAnyH_take (i := 21) (oi := { dst := some 66, op := Op.load 3 (Operand.tmp 65), type := 3, pos := "law.go:73", after := #[{ on := 20, ground := Ground.data }, { on := 16, ground := Ground.guard }], guard := some (16, true) }) (v := undef) rfl (by kernel_rfl) (by kernel_rfl) (by kernel_rfl) (fun _ _ _ h => h) (Or.inr ⟨by kernel_rfl, rfl⟩) hHeld ?_
          simp only [Act.put, List.setIfInBounds_toArray, List.set_cons_zero, List.set_cons_succ]
          refine wpAnyH_take (i := 22) (oi := { dst := some 67, op := Op.move (Operand.tmp 4), type := 31, pos := "law.go:73", after := #[{ on := 16, ground := Ground.guard }], guard := some (16, true) }) (v := undef) rfl (by kernel_rfl) (by kernel_rfl) (by kernel_rfl) (fun _ _ _ h => h) (Or.inr ⟨by kernel_rfl, rfl⟩) hHeld ?_
          simp only [Act.put, List.setIfInBounds_toArray, List.set_cons_zero, List.set_cons_succ]
          refine wpAnyH_take (i := 23) (oi := { dst := some 68, op := Op.move (Operand.tmp 11), type := 3, pos := "law.go:73", after := #[{ on := 16, ground := Ground.guard }], guard := some (16, true) }) (v := undef) rfl (by kernel_rfl) (by kernel_rfl) (by kernel_rfl) (fun _ _ _ h => h) (Or.inr ⟨by kernel_rfl, rfl⟩) hHeld ?_
          simp only [Act.put, List.setIfInBounds_toArray, List.set_cons_zero, List.set_cons_succ]
          refine wpAnyH_take (i := 24) (oi := { dst := some 69, op := Op.binOp BinOp.sub 3 (Operand.tmp 68) (Operand.const (Value.int IntKind.i64 1)) 3, type := 3, pos := "law.go:73", after := #[{ on := 23, ground := Ground.data }, { on := 16, ground := Ground.guard }], guard := some (16, true) }) (v := undef) rfl (by kernel_rfl) (by kernel_rfl) (by kernel_rfl) (fun _ _ _ h => h) (Or.inr ⟨by kernel_rfl, rfl⟩) hHeld ?_
          simp only [Act.put, List.setIfInBounds_toArray, List.set_cons_zero, List.set_cons_succ]
          refine wpAnyH_take (i := 25) (oi := { dst := some 70, op := Op.indexAddr 31 (Operand.tmp 67) (Operand.tmp 69), type := 0, pos := "law.go:73", after := #[{ on := 22, ground := Ground.data }, { on := 24, ground := Ground.data }, { on := 16, ground := Ground.guard }], guard := some (16, true) }) (v := undef) rfl (by kernel_rfl) (by kernel_rfl) (by kernel_rfl) (fun _ _ _ h => h) (Or.inr ⟨by kernel_rfl, rfl⟩) hHeld ?_
          simp only [Act.put, List.setIfInBounds_toArray, List.set_cons_zero, List.set_cons_succ]
          refine wpAnyH_take (i := 26) (oi := { dst := some 71, op := Op.fieldAddr 37 (Operand.tmp 70) 3, type := 0, pos := "law.go:73", after := #[{ on := 25, ground := Ground.data }, { on := 16, ground := Ground.guard }], guard := some (16, true) }) (v := undef) rfl (by kernel_rfl) (by kernel_rfl) (by kernel_rfl) (fun _ _ _ h => h) (Or.inr ⟨by kernel_rfl, rfl⟩) hHeld ?_
          simp only [Act.put, List.setIfInBounds_toArray, List.set_cons_zero, List.set_cons_succ]
          refine wpAnyH_take (i := 27) (oi := { dst := some 72, op := Op.load 3 (Operand.tmp 71), type := 3, pos := "law.go:73", after := #[{ on := 26, ground := Ground.data }, { on := 16, ground := Ground.guard }], guard := some (16, true) }) (v := undef) rfl (by kernel_rfl) (by kernel_rfl) (by kernel_rfl) (fun _ _ _ h => h) (Or.inr ⟨by kernel_rfl, rfl⟩) hHeld ?_
          simp only [Act.put, List.setIfInBounds_toArray, List.set_cons_zero, List.set_cons_succ]
          refine wpAnyH_take (i := 28) (oi := { dst := some 73, op := Op.binOp BinOp.leq 3 (Operand.tmp 66) (Operand.tmp 72) 3, type := 4, pos := "law.go:73", after := #[{ on := 21, ground := Ground.data }, { on := 27, ground := Ground.data }, { on := 16, ground := Ground.guard }], guard := some (16, true) }) (v := undef) rfl (by kernel_rfl) (by kernel_rfl) (by kernel_rfl) (fun _ _ _ h => h) (Or.inr ⟨by kernel_rfl, rfl⟩) hHeld ?_
          simp only [Act.put, List.setIfInBounds_toArray, List.set_cons_zero, List.set_cons_succ]
          refine wpAnyH_take (i := 29) (oi := { dst := some 74, op := Op.pick (Operand.tmp 61) (Operand.tmp 73) (Operand.const (Value.bool false)), type := 4, pos := "law.go:73", after := #[{ on := 16, ground := Ground.data }, { on := 28, ground := Ground.data }, { on := 13, ground := Ground.guard }], guard := some (13, false) }) (v := ?_) rfl (by kernel_rfl) (by kernel_rfl) (by kernel_rfl) (fun _ _ _ h => h) (Or.inl ⟨by kernel_rfl, ?_⟩) hHeld ?_
          rotate_left
          · intro w9 hSw; (try dsimp only at hSw); go_simp; try with_reducible rfl
          simp only [Act.put, List.setIfInBounds_toArray, List.set_cons_zero, List.set_cons_succ]
          refine wpAnyH_take (i := 30) (oi := { dst := some 75, op := Op.pick (Operand.tmp 58) (Operand.const (Value.bool true)) (Operand.tmp 74), type := 4, pos := "law.go:73", after := #[{ on := 13, ground := Ground.data }, { on := 29, ground := Ground.data }], guard := none }) (v := ?_) rfl (by kernel_rfl) (by kernel_rfl) (by kernel_rfl) (fun _ _ _ h => h) (Or.inl ⟨by kernel_rfl, ?_⟩) hHeld ?_
          rotate_left
          · intro w9 hSw; (try dsimp only at hSw); go_simp; try with_reducible rfl
          simp only [Act.put, List.setIfInBounds_toArray, List.set_cons_zero, List.set_cons_succ]
          refine wpAnyH_take (i := 31) (oi := { dst := some 76, op := Op.move (Operand.tmp 75), type := 4, pos := "law.go:73", after := #[{ on := 30, ground := Ground.data }, { on := 16, ground := Ground.chain }], guard := none }) (v := ?_) rfl (by kernel_rfl) (by kernel_rfl) (by kernel_rfl) (fun _ _ _ h => h) (Or.inl ⟨by kernel_rfl, ?_⟩) hHeld ?_
          rotate_left
          · intro w9 hSw; (try dsimp only at hSw); go_simp; try with_reducible rfl
          simp only [Act.put, List.setIfInBounds_toArray, List.set_cons_zero, List.set_cons_succ]
          refine wpAnyH_take (i := 32) (oi := { dst := some 77, op := Op.move (Operand.tmp 4), type := 31, pos := "law.go:73", after := #[{ on := 31, ground := Ground.guard }], guard := some (31, false) }) (v := ?_) rfl (by kernel_rfl) (by kernel_rfl) (by kernel_rfl) (fun _ _ _ h => h) (Or.inl ⟨by kernel_rfl, ?_⟩) hHeld ?_
          rotate_left
          · intro w9 hSw; (try dsimp only at hSw); go_simp; try with_reducible rfl
          simp only [Act.put, List.setIfInBounds_toArray, List.set_cons_zero, List.set_cons_succ]
          refine wpAnyH_take (i := 33) (oi := { dst := some 78, op := Op.move (Operand.tmp 11), type := 3, pos := "law.go:73", after := #[{ on := 31, ground := Ground.guard }], guard := some (31, false) }) (v := ?_) rfl (by kernel_rfl) (by kernel_rfl) (by kernel_rfl) (fun _ _ _ h => h) (Or.inl ⟨by kernel_rfl, ?_⟩) hHeld ?_
          rotate_left
          · intro w9 hSw; (try dsimp only at hSw); go_simp; try with_reducible rfl
          simp only [Act.put, List.setIfInBounds_toArray, List.set_cons_zero, List.set_cons_succ]
          refine wpAnyH_take (i := 34) (oi := { dst := some 79, op := Op.indexAddr 31 (Operand.tmp 77) (Operand.tmp 78), type := 0, pos := "law.go:73", after := #[{ on := 32, ground := Ground.data }, { on := 33, ground := Ground.data }, { on := 31, ground := Ground.guard }], guard := some (31, false) }) (v := ?_) rfl (by kernel_rfl) (by kernel_rfl) (by kernel_rfl) (fun _ _ _ h => h) (Or.inl ⟨by kernel_rfl, ?_⟩) hHeld ?_
          rotate_left
          · intro w9 hSw; (try dsimp only at hSw); go_simp; try with_reducible rfl
          simp only [Act.put, List.setIfInBounds_toArray, List.set_cons_zero, List.set_cons_succ]
          refine wpAnyH_take (i := 35) (oi := { dst := some 80, op := Op.load 37 (Operand.tmp 79), type := 37, pos := "law.go:73", after := #[{ on := 34, ground := Ground.data }, { on := 31, ground := Ground.guard }], guard := some (31, false) }) (v := ?_) rfl (by kernel_rfl) (by kernel_rfl) (by kernel_rfl) (fun _ _ _ h => h) (Or.inl ⟨by kernel_rfl, ?_⟩) hHeld ?_
          rotate_left
          · intro w9 hSw; (try dsimp only at hSw); go_simp; try with_reducible rfl
          simp only [Act.put, List.setIfInBounds_toArray, List.set_cons_zero, List.set_cons_succ]
          refine wpAnyH_ready (rs := [36]) (by kernel_rfl) (by simp) ?_
          refine AllReadyH.cons (o := { dst := some 81, op := Op.call { callee := Callee.value (Operand.func 26), args := #[Operand.tmp 80], argTypes := #[37] }, type := 4, pos := "law.go:73", after := #[{ on := 35, ground := Ground.data }, { on := 31, ground := Ground.chain }, { on := 31, ground := Ground.guard }], guard := some (31, false) }) rfl (fun K hK => ?_) AllReadyH.nil
          go_simp
          refine (sane_is Bj false 0 vj 0 0 true (by omega) HSJ.out _).mono ?_; rintro e w8 ⟨rfl, hb8⟩
          refine hK.out _ _ (sixO X0.out (below_then hHeld.1 hb8)) (fun hHeld => ?_)
          clear hK K
          try simp only [Act.put, List.setIfInBounds_toArray, List.set_cons_zero, List.set_cons_succ]
          refine wpAnyH_take (i := 37) (oi := { dst := some 82, op := Op.unOp UnOp.not 4 (Operand.tmp 81), type := 4, pos := "law.go:73", after := #[{ on := 36, ground := Ground.data }, { on := 31, ground := Ground.guard }], guard := some (31, false) }) (v := ?_) rfl (by kernel_rfl) (by kernel_rfl) (by kernel_rfl) (fun _ _ _ h => h) (Or.inl ⟨by kernel_rfl, ?_⟩) hHeld ?_
          rotate_left
          · intro w9 hSw; (try dsimp only at hSw); go_simp; try with_reducible rfl
          simp only [Act.put, List.setIfInBounds_toArray, List.set_cons_zero, List.set_cons_succ]
          refine wpAnyH_take (i := 38) (oi := { dst := some 83, op := Op.pick (Operand.tmp 76) (Operand.const (Value.bool true)) (Operand.tmp 82), type := 4, pos := "law.go:73", after := #[{ on := 31, ground := Ground.data }, { on := 37, ground := Ground.data }], guard := none }) (v := ?_) rfl (by kernel_rfl) (by kernel_rfl) (by kernel_rfl) (fun _ _ _ h => h) (Or.inl ⟨by kernel_rfl, ?_⟩) hHeld ?_
          rotate_left
          · intro w9 hSw; (try dsimp only at hSw); go_simp; try with_reducible rfl
          simp only [Act.put, List.setIfInBounds_toArray, List.set_cons_zero, List.set_cons_succ]
          refine wpAnyH_done (by kernel_rfl) ?_ _
          have HVe := Lib.hid (below_then HV.out hHeld.1)
          have x3 := (X0.out.keep hHeld.1).c3
          have xlt3 := (X0.out.keep hHeld.1).lt
          clear gz gz2 hHeld
          by_cases hvk : vj = (k : Int)
          · have g1 : (vj == (k : Int)) = true := beq_iff_eq.2 hvk
            have hc := Lib.hid (HCY.out hvk)
            clear hvk HCY HCN
            go_wp2
            go_roundw
            case rel => exact ⟨j + 1, by omega, by go_num, by rw [hc.out]; go_num, HVe.out⟩
            case measure => simp [intOf] <;> omega
          · have g1 : (vj == (k : Int)) = false := beq_eq_false_iff_ne.2 hvk
            have hc := Lib.hid (HCN.out hvk)
            clear hvk HCY HCN
            go_wp2
            go_roundw
            case rel => exact ⟨j + 1, by omega, by go_num, by rw [hc.out], HVe.out⟩
            case measure => simp [intOf] <;> omega
      · obtain rfl : j = z := by omega
        rw [hfin]
        obtain ⟨pb, po, hA6, plt, p0, p1⟩ := (HP6.out.below HV.out).at_ 0 (by decide)
        subst hA6
        simp only [Nat.zero_mul, Nat.add_zero, List.getD_cons_zero] at p0 p1
        have qpi : ∀ W : World, (binOp .eql 58 (.agg #[.int .i64 (k : Int), .int .i64 0]) (.agg #[.int .i64 (k : Int), .int .i64 0])).run Try.prog W = .ok (.bool true) W := fun W => by rw [eqPI]; simp
        go_wp2
        go_ret
        exact ⟨rfl, below_then HB6.out HV.out⟩
theorem base_law (n : Int) (w : World) :
    Calls Try.prog 4 #[.int .i64 n] w fun e w' => e = .returned (.bool true) ∧ Below w.heap.size w w' := by
  have h : bits .and .i64 n 65535 = n % 65536 := bits_and_low 16 (by decide) n
  obtain ⟨k, hk, hi⟩ : ∃ k : Nat, k < 111 ∧ (bits .and .i64 n 65535).tmod 111 = (k : Int) := by
    rw [h, Int.tmod_eq_emod_of_nonneg (by omega)]
    exact ⟨(n % 65536 % 111).toNat, by omega, by omega⟩
  obtain ⟨i, hi2, hcase⟩ := bs_find hk
  have hcode := bs_code hi2
  have hzl : (bsT 111).length = bsV.length := by rw [bsT_map, List.length_map]
  have hfi : dV (dF (bsT 111) (bsE k).s) = (i : Int) := by
    rcases hcase with ⟨_, h2, h3⟩ | ⟨_, h2, _⟩
    · rw [h2, h3]; rfl
    · rw [h2]; rfl
  have hfb : (dF (bsT 111) (bsE k).s).isSome = !opH (opR (k : Int)).1 := by
    rcases hcase with ⟨h1, h2, _⟩ | ⟨h1, h2, _⟩
    · rw [h2, h1]; rfl
    · rw [h2, h1]; rfl
  have hsz := opR_size k hk
  refine base_core n k bsV.length (bsE k).s (i : Int) ((bsV.getD i 0 : Nat) : Int) (!opH (opR (k : Int)).1) w hzl bsV_pos bsV_len hi (by omega) (Lib.hid fun w => name_is (k : Int) _ rfl w) (Lib.hid fun w => hidden_is (k : Int) _ (by simp) w) (Lib.hid hfi) (Lib.hid hfb) (Lib.hid hcode.1) (Lib.hid hcode.2) (Lib.hid fun hb => ?_) (Lib.hid fun j hj => ?_) (Lib.hid fun r hr vi vj e1 e2 => ?_) (Lib.hid ?_)
  · rcases hcase with ⟨h1, _, _⟩ | ⟨_, _, h3⟩
    · rw [h1] at hb; cases hb
    · rw [h3]
  · have hin := bsV_in hj
    refine ⟨(bsE (bsV.getD j 0)).s, ((bsV.getD j 0 : Nat) : Int), bs_get hj, opR_size _ hin.1, bs_sane hin.1 hin.2, fun e => bsC_yes hj (by omega), fun e => bsC_no hj (by omega)⟩
  · rw [bs_get (show r < bsV.length by omega)] at e1
    rw [bs_get hr] at e2
    have h1 := bsV_rise hr (show r < r + 1 by omega)
    have e3 : ((bsV.getD r 0 : Nat) : Int) = vi := e1
    have e4 : ((bsV.getD (r + 1) 0 : Nat) : Int) = vj := e2
    omega
  · rw [bsC_all hk]
    cases opH (opR (k : Int)).1 <;> rfl
end Go.Proofs.Ytkpomphjicoaeaa
