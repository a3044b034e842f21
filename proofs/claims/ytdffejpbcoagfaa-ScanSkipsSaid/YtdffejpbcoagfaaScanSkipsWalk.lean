/-
  The call of the statement ScanSkips answers true at every text and number; of what was there nothing has changed.
-/
import Derived.Test.YtdffejpbcoagfaaScanAwake
import Derived.Deep.RegionHeld3
import Derived.WalkMore
namespace Go.Proofs.Ytdffejpbcoagfaa
open Go.RowKit

theorem scS_again (p : UInt8 → Bool) (l : List UInt8) (k : Nat) : scS p l (scS p l k) = scS p l k := by
  by_cases h : scS p l k < l.length
  · exact scS_here p l _ h (scS_stop p l k h)
  · exact scS_end p l _ (by omega)
theorem keepSk {W w w' : World} {A B C : Nat} {a0 a1 b0 b1 c0 c1 : Value} (hb : Below w.heap.size w w')
    (h : Below W.heap.size W w ∧ (A < w.heap.size ∧ B < w.heap.size ∧ C < w.heap.size) ∧ w.cell? ⟨A, 0, none⟩ = some a0 ∧ w.cell? ⟨A, 1, none⟩ = some a1 ∧ w.cell? ⟨B, 0, none⟩ = some b0 ∧ w.cell? ⟨B, 1, none⟩ = some b1 ∧ w.cell? ⟨C, 0, none⟩ = some c0 ∧ w.cell? ⟨C, 1, none⟩ = some c1) :
    Below W.heap.size W w' ∧ (A < w'.heap.size ∧ B < w'.heap.size ∧ C < w'.heap.size) ∧ w'.cell? ⟨A, 0, none⟩ = some a0 ∧ w'.cell? ⟨A, 1, none⟩ = some a1 ∧ w'.cell? ⟨B, 0, none⟩ = some b0 ∧ w'.cell? ⟨B, 1, none⟩ = some b1 ∧ w'.cell? ⟨C, 0, none⟩ = some c0 ∧ w'.cell? ⟨C, 1, none⟩ = some c1 := by
  obtain ⟨h0, ⟨h1, h2, h3⟩, g1, g2, g3, g4, g5, g6⟩ := h
  have hz := hb.size
  exact ⟨below_then h0 hb, ⟨by omega, by omega, by omega⟩, (hb.cell (p := ⟨A, 0, none⟩) h1).trans g1, (hb.cell (p := ⟨A, 1, none⟩) h1).trans g2, (hb.cell (p := ⟨B, 0, none⟩) h2).trans g3, (hb.cell (p := ⟨B, 1, none⟩) h2).trans g4, (hb.cell (p := ⟨C, 0, none⟩) h3).trans g5, (hb.cell (p := ⟨C, 1, none⟩) h3).trans g6⟩
theorem mkSk {W w : World} {A B C : Nat} {t : TypeId} {S S1 S2 : ByteArray} {i i1 i2 : Int} (h : Below W.heap.size W w) (ha : Src w A t S i) (hb : Src w B t S1 i1) (hc : Src w C t S2 i2) :
    Below W.heap.size W w ∧ (A < w.heap.size ∧ B < w.heap.size ∧ C < w.heap.size) ∧ w.cell? ⟨A, 0, none⟩ = some (.string S) ∧ w.cell? ⟨A, 1, none⟩ = some (.int .i64 i) ∧ w.cell? ⟨B, 0, none⟩ = some (.string S1) ∧ w.cell? ⟨B, 1, none⟩ = some (.int .i64 i1) ∧ w.cell? ⟨C, 0, none⟩ = some (.string S2) ∧ w.cell? ⟨C, 1, none⟩ = some (.int .i64 i2) :=
  ⟨h, ⟨ha.lt, hb.lt, hc.lt⟩, ha.s, ha.n, hb.s, hb.n, hc.s, hc.n⟩
set_option maxRecDepth 100000 in
set_option maxHeartbeats 1000000 in
theorem scanSkips_big (S : ByteArray) (i : Int) (h : (500 : Int) < (S.size : Int)) (W : World) (hm : MaxL W) :
    Calls Try.prog 8 #[.string S, .int .i64 i] W fun e w' => e = .returned (.bool true) ∧ Below W.heap.size W w' := by
  have HM := Lib.hid hm
  clear hm
  go_enter Try.func8, Try.ntmps8
  go_wp2_with (go_at_call 9; refine (awake_any _ HM.out).mono ?_; rintro e w1 ⟨rfl, hb1⟩)
  go_ret
  exact ⟨rfl, hb1⟩
set_option maxRecDepth 100000 in
set_option maxHeartbeats 1000000 in
theorem scanSkips_end (S T : ByteArray) (i : Int) (j n : Nat) (hs : S.size ≤ 500) (W : World) (hm : MaxL W)
    (HK : Hid (∀ w, Calls Try.prog 15 #[.agg #[.string S, .int .i64 i]] w fun e w' => e = .returned (.agg #[.string S, .int .i64 (j : Int)]) ∧ Below w.heap.size w w'))
    (HK2 : Hid (∀ w, Calls Try.prog 15 #[.agg #[.string S, .int .i64 (j : Int)]] w fun e w' => e = .returned (.agg #[.string S, .int .i64 (j : Int)]) ∧ Below w.heap.size w w'))
    (HL : Hid (∀ w, Calls Try.prog 17 #[.agg #[.string S, .int .i64 (j : Int)]] w fun e w' => e = .returned (.string ⟨#[]⟩) ∧ Below w.heap.size w w'))
    (HW : Hid (∀ w, Calls Try.prog 10 #[.agg #[.string S, .int .i64 i]] w fun e w' => e = .returned (.tuple #[.string T, .agg #[.string S, .int .i64 (n : Int)]]) ∧ Below w.heap.size w w'))
    (HP : Hid (∀ w, Calls Try.prog 13 #[.agg #[.string S, .int .i64 (j : Int)], .int .i64 32] w fun e w' => e = .returned (.tuple #[.string T, .agg #[.string S, .int .i64 (n : Int)]]) ∧ Below w.heap.size w w')) :
    Calls Try.prog 8 #[.string S, .int .i64 i] W fun e w' => e = .returned (.bool true) ∧ Below W.heap.size W w' := by
  have HM := Lib.hid hm
  clear hm
  have hd : decide ((500 : Int) < (S.size : Int)) = false := decide_eq_false (by omega)
  go_enter Try.func8, Try.ntmps8
  go_wp2_with (first
    | (go_at_call 9; refine (awake_any _ HM.out).mono ?_; rintro e w1 ⟨rfl, hb1⟩; have H1 := Lib.hid hb1; clear hb1)
    | (go_at_call 15; (with_reducible refine (HK.out _).mono ?_); rintro e w2 ⟨rfl, hb2⟩; have X2 := Lib.hid ((Src.new w1 25 S i).keep hb2); have H2 := Lib.hid (below_then (H1.out.alloc H1.out.size _) hb2); clear hb2)
    | (go_at_call 17; (with_reducible refine (HL.out _).mono ?_); rintro e w3 ⟨rfl, hb3⟩; have X3 := Lib.hid ((X2.out.alloc _).keep hb3); have xs3 := X3.out.s; have xn3 := X3.out.n; have A3 := Lib.hid ((Src.new w2 25 S j).keep hb3); have H3 := Lib.hid (below_then (H2.out.alloc H2.out.size _) hb3); clear hb3)
    | (go_at_call 10; (with_reducible refine (HW.out _).mono ?_); rintro e w4 ⟨rfl, hb4⟩; have A4 := Lib.hid ((A3.out.keep hb4).alloc (.cells #[.string S, .int .i64 (n : Int)] 25)); have as4 := A4.out.s; have an4 := A4.out.n; have H4 := Lib.hid (below_then H3.out hb4); clear hb4)
    | (go_at_call 13; (with_reducible refine (HP.out _).mono ?_); rintro e w5 ⟨rfl, hb5⟩; have Y5 := Lib.hid (((Src.new w4 25 S n).keep hb5).alloc (.cells #[.string S, .int .i64 (n : Int)] 25)); have A5 := Lib.hid ((A4.out.keep hb5).alloc (.cells #[.string S, .int .i64 (n : Int)] 25)); have ys5 := Y5.out.s; have yn5 := Y5.out.n; have as5 := A5.out.s; have an5 := A5.out.n; have H5 := Lib.hid (below_then (H4.out.alloc H4.out.size _) hb5); clear hb5))
  have hk := mkSk (H5.out.alloc H5.out.size _) A5.out Y5.out (Src.new w5 25 S n)
  clear xs3 xn3 as4 an4 as5 an5 ys5 yn5 X2 X3 A3 A4 Y5 A5
  generalize (w5.alloc (.cells #[.string S, .int .i64 (n : Int)] 25)) = w6 at hk ⊢
  refine wp_region_held_drew (S := (fun w' => Below W.heap.size W w' ∧ (w2.heap.size < w'.heap.size ∧ w4.heap.size < w'.heap.size ∧ w5.heap.size < w'.heap.size) ∧ w'.cell? ⟨w2.heap.size, 0, none⟩ = some (.string S) ∧ w'.cell? ⟨w2.heap.size, 1, none⟩ = some (.int .i64 (j : Int)) ∧ w'.cell? ⟨w4.heap.size, 0, none⟩ = some (.string S) ∧ w'.cell? ⟨w4.heap.size, 1, none⟩ = some (.int .i64 (n : Int)) ∧ w'.cell? ⟨w5.heap.size, 0, none⟩ = some (.string S) ∧ w'.cell? ⟨w5.heap.size, 1, none⟩ = some (.int .i64 (n : Int)))) (by kernel_rfl) (keepSk ((Below.refl _ w6).drew) hk) (fun hHeld => ?_)
  refine wpAnyH_take (i := 0) (oi := { dst := some 35, op := Op.move (Operand.tmp 5), type := 4, pos := "more.go:34", after := #[], guard := none }) (v := ?_) rfl (by kernel_rfl) (by kernel_rfl) (by kernel_rfl) (fun _ _ _ h => h) (Or.inl ⟨by kernel_rfl, ?_⟩) hHeld ?_
  rotate_left
  · intro w9 hSw; (try dsimp only at hSw); go_simp; try with_reducible rfl
  simp only [Act.put, List.setIfInBounds_toArray, List.set_cons_zero, List.set_cons_succ]
  refine wpAnyH_take (i := 1) (oi := { dst := some 36, op := Op.move (Operand.tmp 35), type := 4, pos := "more.go:34", after := #[{ on := 0, ground := Ground.data }], guard := none }) (v := ?_) rfl (by kernel_rfl) (by kernel_rfl) (by kernel_rfl) (fun _ _ _ h => h) (Or.inl ⟨by kernel_rfl, ?_⟩) hHeld ?_
  rotate_left
  · intro w9 hSw; (try dsimp only at hSw); go_simp; try with_reducible rfl
  simp only [Act.put, List.setIfInBounds_toArray, List.set_cons_zero, List.set_cons_succ]
  refine wpAnyH_take (i := 2) (oi := { dst := some 37, op := Op.load 25 (Operand.tmp 7), type := 25, pos := "more.go:34", after := #[{ on := 1, ground := Ground.guard }], guard := some (1, true) }) (v := ?_) rfl (by kernel_rfl) (by kernel_rfl) (by kernel_rfl) (fun _ _ _ h => h) (Or.inl ⟨by kernel_rfl, ?_⟩) hHeld ?_
  rotate_left
  · intro w9 hSw; (try dsimp only at hSw); go_simp; try with_reducible rfl
  simp only [Act.put, List.setIfInBounds_toArray, List.set_cons_zero, List.set_cons_succ]
  refine wpAnyH_take (i := 4) (oi := { dst := some 39, op := Op.load 25 (Operand.tmp 7), type := 25, pos := "more.go:34", after := #[{ on := 1, ground := Ground.guard }], guard := some (1, true) }) (v := ?_) rfl (by kernel_rfl) (by kernel_rfl) (by kernel_rfl) (fun _ _ _ h => h) (Or.inl ⟨by kernel_rfl, ?_⟩) hHeld ?_
  rotate_left
  · intro w9 hSw; (try dsimp only at hSw); go_simp; try with_reducible rfl
  simp only [Act.put, List.setIfInBounds_toArray, List.set_cons_zero, List.set_cons_succ]
  refine wpAnyH_ready (rs := [3]) (by kernel_rfl) (by simp) ?_
  refine AllReadyH.cons (o := { dst := some 38, op := Op.call { callee := Callee.value (Operand.func 15), args := #[Operand.tmp 37], argTypes := #[25] }, type := 25, pos := "more.go:34", after := #[{ on := 2, ground := Ground.data }, { on := 1, ground := Ground.chain }, { on := 1, ground := Ground.guard }], guard := some (1, true) }) rfl (fun K hK => ?_) AllReadyH.nil
  go_simp
  refine (HK2.out _).mono ?_
  rintro e w7 ⟨rfl, hb7⟩
  refine hK.out _ _ (keepSk hb7 hHeld) (fun hHeld => ?_)
  clear hK K
  try simp only [Act.put, List.setIfInBounds_toArray, List.set_cons_zero, List.set_cons_succ]
  refine wpAnyH_take (i := 5) (oi := { dst := some 40, op := Op.binOp BinOp.eql 25 (Operand.tmp 38) (Operand.tmp 39) 25, type := 4, pos := "more.go:34", after := #[{ on := 3, ground := Ground.data }, { on := 4, ground := Ground.data }, { on := 1, ground := Ground.guard }], guard := some (1, true) }) (v := ?_) rfl (by kernel_rfl) (by kernel_rfl) (by kernel_rfl) (fun _ _ _ h => h) (Or.inl ⟨by kernel_rfl, ?_⟩) hHeld ?_
  rotate_left
  · intro w9 hSw; (try dsimp only at hSw); go_simp; try with_reducible rfl
  simp only [Act.put, List.setIfInBounds_toArray, List.set_cons_zero, List.set_cons_succ]
  refine wpAnyH_take (i := 6) (oi := { dst := some 41, op := Op.pick (Operand.tmp 36) (Operand.tmp 40) (Operand.const (Value.bool false)), type := 4, pos := "more.go:34", after := #[{ on := 1, ground := Ground.data }, { on := 5, ground := Ground.data }], guard := none }) (v := ?_) rfl (by kernel_rfl) (by kernel_rfl) (by kernel_rfl) (fun _ _ _ h => h) (Or.inl ⟨by kernel_rfl, ?_⟩) hHeld ?_
  rotate_left
  · intro w9 hSw; (try dsimp only at hSw); go_simp; try with_reducible rfl
  simp only [Act.put, List.setIfInBounds_toArray, List.set_cons_zero, List.set_cons_succ]
  refine wpAnyH_take (i := 7) (oi := { dst := some 42, op := Op.move (Operand.tmp 41), type := 4, pos := "more.go:34", after := #[{ on := 6, ground := Ground.data }, { on := 3, ground := Ground.chain }], guard := none }) (v := ?_) rfl (by kernel_rfl) (by kernel_rfl) (by kernel_rfl) (fun _ _ _ h => h) (Or.inl ⟨by kernel_rfl, ?_⟩) hHeld ?_
  rotate_left
  · intro w9 hSw; (try dsimp only at hSw); go_simp; try with_reducible rfl
  simp only [Act.put, List.setIfInBounds_toArray, List.set_cons_zero, List.set_cons_succ]
  refine wpAnyH_take (i := 8) (oi := { dst := some 43, op := Op.move (Operand.tmp 8), type := 9, pos := "more.go:34", after := #[{ on := 7, ground := Ground.guard }], guard := some (7, true) }) (v := ?_) rfl (by kernel_rfl) (by kernel_rfl) (by kernel_rfl) (fun _ _ _ h => h) (Or.inl ⟨by kernel_rfl, ?_⟩) hHeld ?_
  rotate_left
  · intro w9 hSw; (try dsimp only at hSw); go_simp; try with_reducible rfl
  simp only [Act.put, List.setIfInBounds_toArray, List.set_cons_zero, List.set_cons_succ]
  refine wpAnyH_take (i := 9) (oi := { dst := some 44, op := Op.binOp BinOp.eql 9 (Operand.tmp 43) (Operand.const (Value.string { data := #[] })) 9, type := 4, pos := "more.go:34", after := #[{ on := 8, ground := Ground.data }, { on := 7, ground := Ground.guard }], guard := some (7, true) }) (v := ?_) rfl (by kernel_rfl) (by kernel_rfl) (by kernel_rfl) (fun _ _ _ h => h) (Or.inl ⟨by kernel_rfl, ?_⟩) hHeld ?_
  rotate_left
  · intro w9 hSw; (try dsimp only at hSw); go_simp; try with_reducible rfl
  simp only [Act.put, List.setIfInBounds_toArray, List.set_cons_zero, List.set_cons_succ]
  refine wpAnyH_take (i := 10) (oi := { dst := some 45, op := Op.move (Operand.tmp 44), type := 4, pos := "more.go:34", after := #[{ on := 9, ground := Ground.data }, { on := 7, ground := Ground.chain }, { on := 7, ground := Ground.guard }], guard := some (7, true) }) (v := ?_) rfl (by kernel_rfl) (by kernel_rfl) (by kernel_rfl) (fun _ _ _ h => h) (Or.inl ⟨by kernel_rfl, ?_⟩) hHeld ?_
  rotate_left
  · intro w9 hSw; (try dsimp only at hSw); go_simp; try with_reducible rfl
  simp only [Act.put, List.setIfInBounds_toArray, List.set_cons_zero, List.set_cons_succ]
  refine wpAnyH_take (i := 11) (oi := { dst := some 46, op := Op.move (Operand.tmp 8), type := 9, pos := "more.go:34", after := #[{ on := 10, ground := Ground.guard }], guard := some (10, false) }) (v := undef) rfl (by kernel_rfl) (by kernel_rfl) (by kernel_rfl) (fun _ _ _ h => h) (Or.inr ⟨by kernel_rfl, rfl⟩) hHeld ?_
  simp only [Act.put, List.setIfInBounds_toArray, List.set_cons_zero, List.set_cons_succ]
  refine wpAnyH_take (i := 12) (oi := { dst := some 47, op := Op.index 9 (Operand.tmp 46) (Operand.const (Value.int IntKind.i64 0)), type := 5, pos := "more.go:34", after := #[{ on := 11, ground := Ground.data }, { on := 10, ground := Ground.guard }], guard := some (10, false) }) (v := undef) rfl (by kernel_rfl) (by kernel_rfl) (by kernel_rfl) (fun _ _ _ h => h) (Or.inr ⟨by kernel_rfl, rfl⟩) hHeld ?_
  simp only [Act.put, List.setIfInBounds_toArray, List.set_cons_zero, List.set_cons_succ]
  refine wpAnyH_take (i := 13) (oi := { dst := some 48, op := Op.binOp BinOp.gtr 5 (Operand.tmp 47) (Operand.const (Value.int IntKind.u8 32)) 5, type := 4, pos := "more.go:34", after := #[{ on := 12, ground := Ground.data }, { on := 10, ground := Ground.guard }], guard := some (10, false) }) (v := undef) rfl (by kernel_rfl) (by kernel_rfl) (by kernel_rfl) (fun _ _ _ h => h) (Or.inr ⟨by kernel_rfl, rfl⟩) hHeld ?_
  simp only [Act.put, List.setIfInBounds_toArray, List.set_cons_zero, List.set_cons_succ]
  refine wpAnyH_take (i := 14) (oi := { dst := some 49, op := Op.pick (Operand.tmp 45) (Operand.const (Value.bool true)) (Operand.tmp 48), type := 4, pos := "more.go:34", after := #[{ on := 10, ground := Ground.data }, { on := 13, ground := Ground.data }, { on := 7, ground := Ground.guard }], guard := some (7, true) }) (v := ?_) rfl (by kernel_rfl) (by kernel_rfl) (by kernel_rfl) (fun _ _ _ h => h) (Or.inl ⟨by kernel_rfl, ?_⟩) hHeld ?_
  rotate_left
  · intro w9 hSw; (try dsimp only at hSw); go_simp; try with_reducible rfl
  simp only [Act.put, List.setIfInBounds_toArray, List.set_cons_zero, List.set_cons_succ]
  refine wpAnyH_take (i := 15) (oi := { dst := some 50, op := Op.pick (Operand.tmp 42) (Operand.tmp 49) (Operand.const (Value.bool false)), type := 4, pos := "more.go:34", after := #[{ on := 7, ground := Ground.data }, { on := 14, ground := Ground.data }], guard := none }) (v := ?_) rfl (by kernel_rfl) (by kernel_rfl) (by kernel_rfl) (fun _ _ _ h => h) (Or.inl ⟨by kernel_rfl, ?_⟩) hHeld ?_
  rotate_left
  · intro w9 hSw; (try dsimp only at hSw); go_simp; try with_reducible rfl
  simp only [Act.put, List.setIfInBounds_toArray, List.set_cons_zero, List.set_cons_succ]
  refine wpAnyH_take (i := 16) (oi := { dst := some 51, op := Op.move (Operand.tmp 50), type := 4, pos := "more.go:34", after := #[{ on := 15, ground := Ground.data }, { on := 10, ground := Ground.chain }], guard := none }) (v := ?_) rfl (by kernel_rfl) (by kernel_rfl) (by kernel_rfl) (fun _ _ _ h => h) (Or.inl ⟨by kernel_rfl, ?_⟩) hHeld ?_
  rotate_left
  · intro w9 hSw; (try dsimp only at hSw); go_simp; try with_reducible rfl
  simp only [Act.put, List.setIfInBounds_toArray, List.set_cons_zero, List.set_cons_succ]
  refine wpAnyH_take (i := 17) (oi := { dst := some 52, op := Op.move (Operand.tmp 9), type := 9, pos := "more.go:34", after := #[{ on := 16, ground := Ground.guard }], guard := some (16, true) }) (v := ?_) rfl (by kernel_rfl) (by kernel_rfl) (by kernel_rfl) (fun _ _ _ h => h) (Or.inl ⟨by kernel_rfl, ?_⟩) hHeld ?_
  rotate_left
  · intro w9 hSw; (try dsimp only at hSw); go_simp; try with_reducible rfl
  simp only [Act.put, List.setIfInBounds_toArray, List.set_cons_zero, List.set_cons_succ]
  refine wpAnyH_take (i := 18) (oi := { dst := some 53, op := Op.move (Operand.tmp 11), type := 9, pos := "more.go:34", after := #[{ on := 16, ground := Ground.guard }], guard := some (16, true) }) (v := ?_) rfl (by kernel_rfl) (by kernel_rfl) (by kernel_rfl) (fun _ _ _ h => h) (Or.inl ⟨by kernel_rfl, ?_⟩) hHeld ?_
  rotate_left
  · intro w9 hSw; (try dsimp only at hSw); go_simp; try with_reducible rfl
  simp only [Act.put, List.setIfInBounds_toArray, List.set_cons_zero, List.set_cons_succ]
  refine wpAnyH_take (i := 19) (oi := { dst := some 54, op := Op.binOp BinOp.eql 9 (Operand.tmp 52) (Operand.tmp 53) 9, type := 4, pos := "more.go:34", after := #[{ on := 17, ground := Ground.data }, { on := 18, ground := Ground.data }, { on := 16, ground := Ground.guard }], guard := some (16, true) }) (v := ?_) rfl (by kernel_rfl) (by kernel_rfl) (by kernel_rfl) (fun _ _ _ h => h) (Or.inl ⟨by kernel_rfl, ?_⟩) hHeld ?_
  rotate_left
  · intro w9 hSw; (try dsimp only at hSw); go_simp; try with_reducible rfl
  simp only [Act.put, List.setIfInBounds_toArray, List.set_cons_zero, List.set_cons_succ]
  refine wpAnyH_take (i := 20) (oi := { dst := some 55, op := Op.pick (Operand.tmp 51) (Operand.tmp 54) (Operand.const (Value.bool false)), type := 4, pos := "more.go:34", after := #[{ on := 16, ground := Ground.data }, { on := 19, ground := Ground.data }], guard := none }) (v := ?_) rfl (by kernel_rfl) (by kernel_rfl) (by kernel_rfl) (fun _ _ _ h => h) (Or.inl ⟨by kernel_rfl, ?_⟩) hHeld ?_
  rotate_left
  · intro w9 hSw; (try dsimp only at hSw); go_simp; try with_reducible rfl
  simp only [Act.put, List.setIfInBounds_toArray, List.set_cons_zero, List.set_cons_succ]
  refine wpAnyH_take (i := 21) (oi := { dst := some 56, op := Op.move (Operand.tmp 55), type := 4, pos := "more.go:34", after := #[{ on := 20, ground := Ground.data }, { on := 16, ground := Ground.chain }], guard := none }) (v := ?_) rfl (by kernel_rfl) (by kernel_rfl) (by kernel_rfl) (fun _ _ _ h => h) (Or.inl ⟨by kernel_rfl, ?_⟩) hHeld ?_
  rotate_left
  · intro w9 hSw; (try dsimp only at hSw); go_simp; try with_reducible rfl
  simp only [Act.put, List.setIfInBounds_toArray, List.set_cons_zero, List.set_cons_succ]
  refine wpAnyH_take (i := 22) (oi := { dst := some 57, op := Op.load 25 (Operand.tmp 10), type := 25, pos := "more.go:34", after := #[{ on := 21, ground := Ground.guard }], guard := some (21, true) }) (v := ?_) rfl (by kernel_rfl) (by kernel_rfl) (by kernel_rfl) (fun _ _ _ h => h) (Or.inl ⟨by kernel_rfl, ?_⟩) hHeld ?_
  rotate_left
  · intro w9 hSw; (try dsimp only at hSw); go_simp; try with_reducible rfl
  simp only [Act.put, List.setIfInBounds_toArray, List.set_cons_zero, List.set_cons_succ]
  refine wpAnyH_take (i := 23) (oi := { dst := some 58, op := Op.load 25 (Operand.tmp 12), type := 25, pos := "more.go:34", after := #[{ on := 21, ground := Ground.guard }], guard := some (21, true) }) (v := ?_) rfl (by kernel_rfl) (by kernel_rfl) (by kernel_rfl) (fun _ _ _ h => h) (Or.inl ⟨by kernel_rfl, ?_⟩) hHeld ?_
  rotate_left
  · intro w9 hSw; (try dsimp only at hSw); go_simp; try with_reducible rfl
  simp only [Act.put, List.setIfInBounds_toArray, List.set_cons_zero, List.set_cons_succ]
  refine wpAnyH_take (i := 24) (oi := { dst := some 59, op := Op.binOp BinOp.eql 25 (Operand.tmp 57) (Operand.tmp 58) 25, type := 4, pos := "more.go:34", after := #[{ on := 22, ground := Ground.data }, { on := 23, ground := Ground.data }, { on := 21, ground := Ground.guard }], guard := some (21, true) }) (v := ?_) rfl (by kernel_rfl) (by kernel_rfl) (by kernel_rfl) (fun _ _ _ h => h) (Or.inl ⟨by kernel_rfl, ?_⟩) hHeld ?_
  rotate_left
  · intro w9 hSw; (try dsimp only at hSw); go_simp; try with_reducible rfl
  simp only [Act.put, List.setIfInBounds_toArray, List.set_cons_zero, List.set_cons_succ]
  refine wpAnyH_take (i := 25) (oi := { dst := some 60, op := Op.pick (Operand.tmp 56) (Operand.tmp 59) (Operand.const (Value.bool false)), type := 4, pos := "more.go:34", after := #[{ on := 21, ground := Ground.data }, { on := 24, ground := Ground.data }], guard := none }) (v := ?_) rfl (by kernel_rfl) (by kernel_rfl) (by kernel_rfl) (fun _ _ _ h => h) (Or.inl ⟨by kernel_rfl, ?_⟩) hHeld ?_
  rotate_left
  · intro w9 hSw; (try dsimp only at hSw); go_simp; try with_reducible rfl
  simp only [Act.put, List.setIfInBounds_toArray, List.set_cons_zero, List.set_cons_succ]
  refine wpAnyH_take (i := 26) (oi := { dst := some 61, op := Op.move (Operand.tmp 60), type := 4, pos := "more.go:34", after := #[{ on := 25, ground := Ground.data }, { on := 21, ground := Ground.chain }], guard := none }) (v := ?_) rfl (by kernel_rfl) (by kernel_rfl) (by kernel_rfl) (fun _ _ _ h => h) (Or.inl ⟨by kernel_rfl, ?_⟩) hHeld ?_
  rotate_left
  · intro w9 hSw; (try dsimp only at hSw); go_simp; try with_reducible rfl
  simp only [Act.put, List.setIfInBounds_toArray, List.set_cons_zero, List.set_cons_succ]
  refine wpAnyH_take (i := 27) (oi := { dst := some 62, op := Op.fieldAddr 25 (Operand.tmp 7) 0, type := 0, pos := "more.go:34", after := #[{ on := 26, ground := Ground.guard }], guard := some (26, true) }) (v := ?_) rfl (by kernel_rfl) (by kernel_rfl) (by kernel_rfl) (fun _ _ _ h => h) (Or.inl ⟨by kernel_rfl, ?_⟩) hHeld ?_
  rotate_left
  · intro w9 hSw; (try dsimp only at hSw); go_simp; try with_reducible rfl
  simp only [Act.put, List.setIfInBounds_toArray, List.set_cons_zero, List.set_cons_succ]
  refine wpAnyH_take (i := 28) (oi := { dst := some 63, op := Op.load 9 (Operand.tmp 62), type := 9, pos := "more.go:34", after := #[{ on := 27, ground := Ground.data }, { on := 26, ground := Ground.guard }], guard := some (26, true) }) (v := ?_) rfl (by kernel_rfl) (by kernel_rfl) (by kernel_rfl) (fun _ _ _ h => h) (Or.inl ⟨by kernel_rfl, ?_⟩) hHeld ?_
  rotate_left
  · intro w9 hSw; (try dsimp only at hSw); go_simp; try with_reducible rfl
  simp only [Act.put, List.setIfInBounds_toArray, List.set_cons_zero, List.set_cons_succ]
  refine wpAnyH_take (i := 29) (oi := { dst := some 64, op := Op.move (Operand.tmp 0), type := 9, pos := "more.go:34", after := #[{ on := 26, ground := Ground.guard }], guard := some (26, true) }) (v := ?_) rfl (by kernel_rfl) (by kernel_rfl) (by kernel_rfl) (fun _ _ _ h => h) (Or.inl ⟨by kernel_rfl, ?_⟩) hHeld ?_
  rotate_left
  · intro w9 hSw; (try dsimp only at hSw); go_simp; try with_reducible rfl
  simp only [Act.put, List.setIfInBounds_toArray, List.set_cons_zero, List.set_cons_succ]
  refine wpAnyH_take (i := 30) (oi := { dst := some 65, op := Op.binOp BinOp.eql 9 (Operand.tmp 63) (Operand.tmp 64) 9, type := 4, pos := "more.go:34", after := #[{ on := 28, ground := Ground.data }, { on := 29, ground := Ground.data }, { on := 26, ground := Ground.guard }], guard := some (26, true) }) (v := ?_) rfl (by kernel_rfl) (by kernel_rfl) (by kernel_rfl) (fun _ _ _ h => h) (Or.inl ⟨by kernel_rfl, ?_⟩) hHeld ?_
  rotate_left
  · intro w9 hSw; (try dsimp only at hSw); go_simp; try with_reducible rfl
  simp only [Act.put, List.setIfInBounds_toArray, List.set_cons_zero, List.set_cons_succ]
  refine wpAnyH_take (i := 31) (oi := { dst := some 66, op := Op.pick (Operand.tmp 61) (Operand.tmp 65) (Operand.const (Value.bool false)), type := 4, pos := "more.go:34", after := #[{ on := 26, ground := Ground.data }, { on := 30, ground := Ground.data }], guard := none }) (v := ?_) rfl (by kernel_rfl) (by kernel_rfl) (by kernel_rfl) (fun _ _ _ h => h) (Or.inl ⟨by kernel_rfl, ?_⟩) hHeld ?_
  rotate_left
  · intro w9 hSw; (try dsimp only at hSw); go_simp; try with_reducible rfl
  simp only [Act.put, List.setIfInBounds_toArray, List.set_cons_zero, List.set_cons_succ]
  refine wpAnyH_take (i := 32) (oi := { dst := some 4, op := Op.assign (Operand.tmp 66), type := 4, pos := "more.go:34", after := #[{ on := 31, ground := Ground.data }, { on := 26, ground := Ground.chain }, { on := 0, ground := Ground.phase }, { on := 1, ground := Ground.phase }, { on := 2, ground := Ground.phase }, { on := 3, ground := Ground.phase }, { on := 4, ground := Ground.phase }, { on := 5, ground := Ground.phase }, { on := 6, ground := Ground.phase }, { on := 7, ground := Ground.phase }, { on := 8, ground := Ground.phase }, { on := 9, ground := Ground.phase }, { on := 10, ground := Ground.phase }, { on := 11, ground := Ground.phase }, { on := 12, ground := Ground.phase }, { on := 13, ground := Ground.phase }, { on := 14, ground := Ground.phase }, { on := 15, ground := Ground.phase }, { on := 16, ground := Ground.phase }, { on := 17, ground := Ground.phase }, { on := 18, ground := Ground.phase }, { on := 19, ground := Ground.phase }, { on := 20, ground := Ground.phase }, { on := 21, ground := Ground.phase }, { on := 22, ground := Ground.phase }, { on := 23, ground := Ground.phase }, { on := 24, ground := Ground.phase }, { on := 25, ground := Ground.phase }, { on := 26, ground := Ground.phase }, { on := 27, ground := Ground.phase }, { on := 28, ground := Ground.phase }, { on := 29, ground := Ground.phase }, { on := 30, ground := Ground.phase }, { on := 31, ground := Ground.phase }], guard := none }) (v := ?_) rfl (by kernel_rfl) (by kernel_rfl) (by kernel_rfl) (fun _ _ _ h => h) (Or.inl ⟨by kernel_rfl, ?_⟩) hHeld ?_
  rotate_left
  · intro w9 hSw; (try dsimp only at hSw); go_simp; try with_reducible rfl
  simp only [Act.put, List.setIfInBounds_toArray, List.set_cons_zero, List.set_cons_succ]
  refine wpAnyH_done (by kernel_rfl) ?_ _
  go_wp2
  go_ret
  exact ⟨rfl, hHeld.1⟩
set_option maxRecDepth 100000 in
set_option maxHeartbeats 1000000 in
theorem scanSkips_word (S T R : ByteArray) (m : Nat) (c : UInt8) (hr : R.size = m + 1) (hc : ∀ k, R[(0 : Nat)]'k = c) (hb : decide ((32 : Int) < (c.toNat : Int)) = true) (hn1 : (R.toList == []) = false) (i : Int) (j n : Nat) (hs : S.size ≤ 500) (W : World) (hm : MaxL W)
    (HK : Hid (∀ w, Calls Try.prog 15 #[.agg #[.string S, .int .i64 i]] w fun e w' => e = .returned (.agg #[.string S, .int .i64 (j : Int)]) ∧ Below w.heap.size w w'))
    (HK2 : Hid (∀ w, Calls Try.prog 15 #[.agg #[.string S, .int .i64 (j : Int)]] w fun e w' => e = .returned (.agg #[.string S, .int .i64 (j : Int)]) ∧ Below w.heap.size w w'))
    (HL : Hid (∀ w, Calls Try.prog 17 #[.agg #[.string S, .int .i64 (j : Int)]] w fun e w' => e = .returned (.string R) ∧ Below w.heap.size w w'))
    (HW : Hid (∀ w, Calls Try.prog 10 #[.agg #[.string S, .int .i64 i]] w fun e w' => e = .returned (.tuple #[.string T, .agg #[.string S, .int .i64 (n : Int)]]) ∧ Below w.heap.size w w'))
    (HP : Hid (∀ w, Calls Try.prog 13 #[.agg #[.string S, .int .i64 (j : Int)], .int .i64 32] w fun e w' => e = .returned (.tuple #[.string T, .agg #[.string S, .int .i64 (n : Int)]]) ∧ Below w.heap.size w w')) :
    Calls Try.prog 8 #[.string S, .int .i64 i] W fun e w' => e = .returned (.bool true) ∧ Below W.heap.size W w' := by
  have HM := Lib.hid hm
  clear hm
  have hd : decide ((500 : Int) < (S.size : Int)) = false := decide_eq_false (by omega)
  go_enter Try.func8, Try.ntmps8
  go_wp2_with (first
    | (go_at_call 9; refine (awake_any _ HM.out).mono ?_; rintro e w1 ⟨rfl, hb1⟩; have H1 := Lib.hid hb1; clear hb1)
    | (go_at_call 15; (with_reducible refine (HK.out _).mono ?_); rintro e w2 ⟨rfl, hb2⟩; have X2 := Lib.hid ((Src.new w1 25 S i).keep hb2); have H2 := Lib.hid (below_then (H1.out.alloc H1.out.size _) hb2); clear hb2)
    | (go_at_call 17; (with_reducible refine (HL.out _).mono ?_); rintro e w3 ⟨rfl, hb3⟩; have X3 := Lib.hid ((X2.out.alloc _).keep hb3); have xs3 := X3.out.s; have xn3 := X3.out.n; have A3 := Lib.hid ((Src.new w2 25 S j).keep hb3); have H3 := Lib.hid (below_then (H2.out.alloc H2.out.size _) hb3); clear hb3)
    | (go_at_call 10; (with_reducible refine (HW.out _).mono ?_); rintro e w4 ⟨rfl, hb4⟩; have A4 := Lib.hid ((A3.out.keep hb4).alloc (.cells #[.string S, .int .i64 (n : Int)] 25)); have as4 := A4.out.s; have an4 := A4.out.n; have H4 := Lib.hid (below_then H3.out hb4); clear hb4)
    | (go_at_call 13; (with_reducible refine (HP.out _).mono ?_); rintro e w5 ⟨rfl, hb5⟩; have Y5 := Lib.hid (((Src.new w4 25 S n).keep hb5).alloc (.cells #[.string S, .int .i64 (n : Int)] 25)); have A5 := Lib.hid ((A4.out.keep hb5).alloc (.cells #[.string S, .int .i64 (n : Int)] 25)); have ys5 := Y5.out.s; have yn5 := Y5.out.n; have as5 := A5.out.s; have an5 := A5.out.n; have H5 := Lib.hid (below_then (H4.out.alloc H4.out.size _) hb5); clear hb5))
  have hk := mkSk (H5.out.alloc H5.out.size _) A5.out Y5.out (Src.new w5 25 S n)
  clear xs3 xn3 as4 an4 as5 an5 ys5 yn5 X2 X3 A3 A4 Y5 A5
  generalize (w5.alloc (.cells #[.string S, .int .i64 (n : Int)] 25)) = w6 at hk ⊢
  go_region_held3 (fun w' => Below W.heap.size W w' ∧ (w2.heap.size < w'.heap.size ∧ w4.heap.size < w'.heap.size ∧ w5.heap.size < w'.heap.size) ∧ w'.cell? ⟨w2.heap.size, 0, none⟩ = some (.string S) ∧ w'.cell? ⟨w2.heap.size, 1, none⟩ = some (.int .i64 (j : Int)) ∧ w'.cell? ⟨w4.heap.size, 0, none⟩ = some (.string S) ∧ w'.cell? ⟨w4.heap.size, 1, none⟩ = some (.int .i64 (n : Int)) ∧ w'.cell? ⟨w5.heap.size, 0, none⟩ = some (.string S) ∧ w'.cell? ⟨w5.heap.size, 1, none⟩ = some (.int .i64 (n : Int))) (first | assumption | exact keepSk ((Below.refl _ w6).drew) hk | exact keepSk (by assumption) (by assumption))
    (first
      | (go_at_call 15; (with_reducible refine (HK2.out _).mono ?_); rintro e w7 ⟨rfl, hb7⟩))
  go_wp2
  go_ret
  exact ⟨rfl, And.left (b := _ ∧ _) (by assumption)⟩
theorem scanSkips_walk (l : List UInt8) (i : Int) (W : World) (hm : MaxL W) :
    Calls Try.prog 8 #[.string ⟨l.toArray⟩, .int .i64 i] W fun e w' => e = .returned (.bool true) ∧ Below W.heap.size W w' := by
  by_cases hl : 500 < l.length
  · exact scanSkips_big _ i (by rw [size_mk]; omega) W hm
  · have hl2 : l.length ≤ 2000 := by omega
    obtain ⟨j, hj⟩ : ∃ j, scS scB l (scA l i) = j := ⟨_, rfl⟩
    have hjl : j ≤ l.length := by rw [← hj]; exact scS_le _ _ _ (scA_le l i)
    have hjj : scS scB l j = j := by rw [← hj]; exact scS_again _ _ _
    have HK := Lib.hid (skip_is l i _ j _ rfl hl2 rfl hj)
    have HK2 := Lib.hid (skip_is l (j : Int) j j _ rfl hl2 (scA_nat l j hjl) hjj)
    have HW := Lib.hid (word_is l i j _ _ _ _ rfl hl2 hj rfl rfl rfl)
    have HP := Lib.hid (parse_is l (j : Int) 32 j _ _ _ _ rfl hl2 (scA_nat l j hjl) rfl rfl rfl)
    have HL : ∀ R, R = (⟨(l.drop j).toArray⟩ : ByteArray) → Hid (∀ w, Calls Try.prog 17 #[.agg #[.string ⟨l.toArray⟩, .int .i64 (j : Int)]] w fun e w' => e = .returned (.string R) ∧ Below w.heap.size w w') :=
      fun R hR => Lib.hid (left_is l (j : Int) j _ R rfl hl2 (scA_nat l j hjl) hR)
    cases hr : l.drop j with
    | nil =>
      refine scanSkips_end _ _ i j _ (by rw [size_mk]; omega) W hm HK HK2 (HL _ (by rw [hr])) HW HP
    | cons c r =>
      have hjlt : j < l.length := by
        rcases Nat.lt_or_ge j l.length with h | h
        · exact h
        · rw [List.drop_eq_nil_of_le h] at hr; cases hr
      have hcj : l[j] = c := by
        rw [List.drop_eq_getElem_cons hjlt] at hr
        injection hr
      have hbl : scB c = false := by
        have h := scS_stop scB l (scA l i)
        simp only [hj] at h
        rw [← hcj]
        exact h hjlt
      have hbl2 := scB_iff hbl
      refine scanSkips_word _ _ ⟨(c :: r).toArray⟩ r.length c (by rw [size_mk]; simp) (fun _ => rfl) ?_ ?_ i j _ (by rw [size_mk]; omega) W hm HK HK2 (HL _ (by rw [hr])) HW HP
      · simp at hbl2 ⊢; omega
      · rw [ByteArray.toList_mk]; rfl
end Go.Proofs.Ytdffejpbcoagfaa
