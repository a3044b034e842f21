/-
  What the document's own Put and Same answer (tenterhookref16): the same as package queue's Put; true of queues that are the same.
-/
import Derived.Test.YtoklocbdifefcaaQueueRNth
namespace Go.Proofs.Ytoklocbdifefcaa
open Go.RowKit

theorem neIt2 (w : World) (d p t : Int) : (binOp .neq 52 (.agg #[.int .i64 d, .int .i64 p, .int .i64 t]) (.agg #[.int .i64 d, .int .i64 p, .int .i64 t])).run Try.prog w = .ok (.bool false) w := by
  have u3 := Try.underlying3
  have a3 := Try.isAgg3
  have z3 := Try.sizeOf3
  have hS : Try.prog.underlying 52 = some (.struct (Try.prog.fieldsOf 52)) := by kernel_rfl
  have hp : Try.prog.stoodInHeld 52 = false := by kernel_rfl
  rw [run_neq_struct, show (10000 : Nat) = 9999 + 1 from rfl, run_equalIn_agg w 9999 52 _ _ hS hp]
  simp only [Program.fieldsOf, Try.underlying52]
  go_simp
set_option maxHeartbeats 1000000 in
/-- Queues that are the same. -/
theorem rsame_is (N : Int) (A : Option Addr) (n c : Nat) (B : Option Addr) (m d : Nat) (l : List It) (w : World) (hn : n ≤ 1000) (h : Its w A n c l) (h' : Its w B m d l) :
    Calls Try.prog 18 #[.agg #[.int .i64 N, .slice A n c], .agg #[.int .i64 N, .slice B m d]] w fun e w' => e = .returned (.bool true) ∧ Below w.heap.size w w' := by
  obtain rfl : n = m := h.len.symm.trans h'.len
  have X0 := Lib.hid ((Qv.new w 24 N A n c).alloc (.cells #[.int .i64 N, .slice B n d] 24))
  have X1 := Lib.hid (Qv.at_ (w.alloc (.cells #[.int .i64 N, .slice A n c] 24)) 24 N B n d (w.heap.size + 1) (by simp))
  have HB := Lib.hid (two_new w (.cells #[.int .i64 N, .slice A n c] 24) (.cells #[.int .i64 N, .slice B n d] 24))
  have H := Lib.hid (h.below HB.out)
  have H' := Lib.hid (h'.below HB.out)
  have hNN : (N != N) = false := by simp
  have hnn : ((n : Int) != (n : Int)) = false := by simp
  have qne := neIt2
  clear h h'
  go_enter Try.func18, Try.ntmps18
  go_upto_region 1 with (fail)
  generalize (w.alloc (.cells #[.int .i64 N, .slice A n c] 24)).alloc (.cells #[.int .i64 N, .slice B n d] 24) = W at *
  have qa := X0.out.c0; have qb := X0.out.c1; have ya := X1.out.c0; have yb := X1.out.c1
  go_upto_region 4 with (fail)
  clear qa qb ya yb
  go_loopw [5] (fun i wr => ∃ k : Nat, k ≤ n ∧ i = .int .i64 k ∧ Below W.heap.size W wr) (fun i _ => ((n : Int) - intOf i).toNat)
  case atStart => exact ⟨0, by omega, rfl, Below.refl _ _⟩
  case round =>
    obtain ⟨k, hk, rfl, hb⟩ := hrel
    have HV := Lib.hid hb
    have qa := (X0.out.keep hb).c0; have qb := (X0.out.keep hb).c1; have ya := (X1.out.keep hb).c0; have yb1 := (X1.out.keep hb).c1
    clear hb
    by_cases hlt : k < n
    · obtain ⟨xb, xo, rfl, hbl, f0, f1, f2⟩ := (H.out.below HV.out).at_ k hlt
      obtain ⟨yb, yo, rfl, hbl', g0, g1, g2⟩ := (H'.out.below HV.out).at_ k hlt
      generalize l.getD k i0 = x at f0 f1 f2 g0 g1 g2
      have hk0 : (0 : Int) ≤ (k : Int) := by omega
      have hkn : (k : Int) < (n : Int) := by omega
      go_upto_region 6 with (fail)
      have s6 : (fun w9 => Below wr.heap.size wr w9 ∧ (w9.cell? ⟨w.heap.size, 0, none⟩ = some (.int .i64 N) ∧ w9.cell? ⟨w.heap.size, 1, none⟩ = some (.slice (some ⟨xb, xo, none⟩) n c)) ∧ (w9.cell? ⟨w.heap.size + 1, 0, none⟩ = some (.int .i64 N) ∧ w9.cell? ⟨w.heap.size + 1, 1, none⟩ = some (.slice (some ⟨yb, yo, none⟩) n d)) ∧ (w9.cell? ⟨xb, xo + k * 3, none⟩ = some (.int .i64 x.d) ∧ w9.cell? ⟨xb, xo + k * 3 + 1, none⟩ = some (.int .i64 x.p) ∧ w9.cell? ⟨xb, xo + k * 3 + 2, none⟩ = some (.int .i64 x.t)) ∧ (w9.cell? ⟨yb, yo + k * 3, none⟩ = some (.int .i64 x.d) ∧ w9.cell? ⟨yb, yo + k * 3 + 1, none⟩ = some (.int .i64 x.p) ∧ w9.cell? ⟨yb, yo + k * 3 + 2, none⟩ = some (.int .i64 x.t))) wr.drew := ⟨(Below.refl _ _).drew, ⟨qa, qb⟩, ⟨ya, yb1⟩, ⟨f0, f1, f2⟩, g0, g1, g2⟩
      clear qa qb ya yb1 f0 f1 f2 g0 g1 g2
      have hHeld0 : (fun w9 => Below wr.heap.size wr w9 ∧ (w9.cell? ⟨w.heap.size, 0, none⟩ = some (.int .i64 N) ∧ w9.cell? ⟨w.heap.size, 1, none⟩ = some (.slice (some ⟨xb, xo, none⟩) n c)) ∧ (w9.cell? ⟨w.heap.size + 1, 0, none⟩ = some (.int .i64 N) ∧ w9.cell? ⟨w.heap.size + 1, 1, none⟩ = some (.slice (some ⟨yb, yo, none⟩) n d)) ∧ (w9.cell? ⟨xb, xo + k * 3, none⟩ = some (.int .i64 x.d) ∧ w9.cell? ⟨xb, xo + k * 3 + 1, none⟩ = some (.int .i64 x.p) ∧ w9.cell? ⟨xb, xo + k * 3 + 2, none⟩ = some (.int .i64 x.t)) ∧ (w9.cell? ⟨yb, yo + k * 3, none⟩ = some (.int .i64 x.d) ∧ w9.cell? ⟨yb, yo + k * 3 + 1, none⟩ = some (.int .i64 x.p) ∧ w9.cell? ⟨yb, yo + k * 3 + 2, none⟩ = some (.int .i64 x.t))) wr.drew := s6
      refine wp_region_held_drew (S := fun w9 => Below wr.heap.size wr w9 ∧ (w9.cell? ⟨w.heap.size, 0, none⟩ = some (.int .i64 N) ∧ w9.cell? ⟨w.heap.size, 1, none⟩ = some (.slice (some ⟨xb, xo, none⟩) n c)) ∧ (w9.cell? ⟨w.heap.size + 1, 0, none⟩ = some (.int .i64 N) ∧ w9.cell? ⟨w.heap.size + 1, 1, none⟩ = some (.slice (some ⟨yb, yo, none⟩) n d)) ∧ (w9.cell? ⟨xb, xo + k * 3, none⟩ = some (.int .i64 x.d) ∧ w9.cell? ⟨xb, xo + k * 3 + 1, none⟩ = some (.int .i64 x.p) ∧ w9.cell? ⟨xb, xo + k * 3 + 2, none⟩ = some (.int .i64 x.t)) ∧ (w9.cell? ⟨yb, yo + k * 3, none⟩ = some (.int .i64 x.d) ∧ w9.cell? ⟨yb, yo + k * 3 + 1, none⟩ = some (.int .i64 x.p) ∧ w9.cell? ⟨yb, yo + k * 3 + 2, none⟩ = some (.int .i64 x.t))) (by kernel_rfl) hHeld0 (fun hHeld => ?_)
      clear hHeld0
      refine wpAnyH_take (i := 0) (oi := { dst := some 27, op := Op.fieldAddr 24 (Operand.tmp 2) 1, type := 0, pos := "ref.go:114", after := #[], guard := none }) (v := ?_) rfl (by kernel_rfl) (by kernel_rfl) (by kernel_rfl) (fun _ _ _ h => h) (Or.inl ⟨by kernel_rfl, ?_⟩) hHeld ?_
      rotate_left
      · intro w9 hSw; (try dsimp only at hSw); go_simp; try with_reducible rfl
      simp only [Act.put, List.setIfInBounds_toArray, List.set_cons_zero, List.set_cons_succ]
      refine wpAnyH_take (i := 1) (oi := { dst := some 28, op := Op.load 22 (Operand.tmp 27), type := 22, pos := "ref.go:114", after := #[{ on := 0, ground := Ground.data }], guard := none }) (v := ?_) rfl (by kernel_rfl) (by kernel_rfl) (by kernel_rfl) (fun _ _ _ h => h) (Or.inl ⟨by kernel_rfl, ?_⟩) hHeld ?_
      rotate_left
      · intro w9 hSw; (try dsimp only at hSw); go_simp; try with_reducible rfl
      simp only [Act.put, List.setIfInBounds_toArray, List.set_cons_zero, List.set_cons_succ]
      refine wpAnyH_take (i := 2) (oi := { dst := some 29, op := Op.move (Operand.tmp 5), type := 3, pos := "ref.go:114", after := #[], guard := none }) (v := ?_) rfl (by kernel_rfl) (by kernel_rfl) (by kernel_rfl) (fun _ _ _ h => h) (Or.inl ⟨by kernel_rfl, ?_⟩) hHeld ?_
      rotate_left
      · intro w9 hSw; (try dsimp only at hSw); go_simp; try with_reducible rfl
      simp only [Act.put, List.setIfInBounds_toArray, List.set_cons_zero, List.set_cons_succ]
      refine wpAnyH_take (i := 3) (oi := { dst := some 30, op := Op.indexAddr 22 (Operand.tmp 28) (Operand.tmp 29), type := 0, pos := "ref.go:114", after := #[{ on := 1, ground := Ground.data }, { on := 2, ground := Ground.data }], guard := none }) (v := ?_) rfl (by kernel_rfl) (by kernel_rfl) (by kernel_rfl) (fun _ _ _ h => h) (Or.inl ⟨by kernel_rfl, ?_⟩) hHeld ?_
      rotate_left
      · intro w9 hSw; (try dsimp only at hSw); go_simp; try with_reducible rfl
      simp only [Act.put, List.setIfInBounds_toArray, List.set_cons_zero, List.set_cons_succ]
      refine wpAnyH_take (i := 4) (oi := { dst := some 31, op := Op.load 52 (Operand.tmp 30), type := 52, pos := "ref.go:114", after := #[{ on := 3, ground := Ground.data }], guard := none }) (v := ?_) rfl (by kernel_rfl) (by kernel_rfl) (by kernel_rfl) (fun _ _ _ h => h) (Or.inl ⟨by kernel_rfl, ?_⟩) hHeld ?_
      rotate_left
      · intro w9 hSw; (try dsimp only at hSw); go_simp; try with_reducible rfl
      simp only [Act.put, List.setIfInBounds_toArray, List.set_cons_zero, List.set_cons_succ]
      refine wpAnyH_take (i := 5) (oi := { dst := some 32, op := Op.fieldAddr 24 (Operand.tmp 3) 1, type := 0, pos := "ref.go:114", after := #[], guard := none }) (v := ?_) rfl (by kernel_rfl) (by kernel_rfl) (by kernel_rfl) (fun _ _ _ h => h) (Or.inl ⟨by kernel_rfl, ?_⟩) hHeld ?_
      rotate_left
      · intro w9 hSw; (try dsimp only at hSw); go_simp; try with_reducible rfl
      simp only [Act.put, List.setIfInBounds_toArray, List.set_cons_zero, List.set_cons_succ]
      refine wpAnyH_take (i := 6) (oi := { dst := some 33, op := Op.load 22 (Operand.tmp 32), type := 22, pos := "ref.go:114", after := #[{ on := 5, ground := Ground.data }], guard := none }) (v := ?_) rfl (by kernel_rfl) (by kernel_rfl) (by kernel_rfl) (fun _ _ _ h => h) (Or.inl ⟨by kernel_rfl, ?_⟩) hHeld ?_
      rotate_left
      · intro w9 hSw; (try dsimp only at hSw); go_simp; try with_reducible rfl
      simp only [Act.put, List.setIfInBounds_toArray, List.set_cons_zero, List.set_cons_succ]
      refine wpAnyH_take (i := 7) (oi := { dst := some 34, op := Op.move (Operand.tmp 5), type := 3, pos := "ref.go:114", after := #[], guard := none }) (v := ?_) rfl (by kernel_rfl) (by kernel_rfl) (by kernel_rfl) (fun _ _ _ h => h) (Or.inl ⟨by kernel_rfl, ?_⟩) hHeld ?_
      rotate_left
      · intro w9 hSw; (try dsimp only at hSw); go_simp; try with_reducible rfl
      simp only [Act.put, List.setIfInBounds_toArray, List.set_cons_zero, List.set_cons_succ]
      refine wpAnyH_take (i := 8) (oi := { dst := some 35, op := Op.indexAddr 22 (Operand.tmp 33) (Operand.tmp 34), type := 0, pos := "ref.go:114", after := #[{ on := 6, ground := Ground.data }, { on := 7, ground := Ground.data }], guard := none }) (v := ?_) rfl (by kernel_rfl) (by kernel_rfl) (by kernel_rfl) (fun _ _ _ h => h) (Or.inl ⟨by kernel_rfl, ?_⟩) hHeld ?_
      rotate_left
      · intro w9 hSw; (try dsimp only at hSw); go_simp; try with_reducible rfl
      simp only [Act.put, List.setIfInBounds_toArray, List.set_cons_zero, List.set_cons_succ]
      refine wpAnyH_take (i := 9) (oi := { dst := some 36, op := Op.load 52 (Operand.tmp 35), type := 52, pos := "ref.go:114", after := #[{ on := 8, ground := Ground.data }], guard := none }) (v := ?_) rfl (by kernel_rfl) (by kernel_rfl) (by kernel_rfl) (fun _ _ _ h => h) (Or.inl ⟨by kernel_rfl, ?_⟩) hHeld ?_
      rotate_left
      · intro w9 hSw; (try dsimp only at hSw); go_simp; try with_reducible rfl
      simp only [Act.put, List.setIfInBounds_toArray, List.set_cons_zero, List.set_cons_succ]
      refine wpAnyH_take (i := 10) (oi := { dst := some 37, op := Op.binOp BinOp.neq 52 (Operand.tmp 31) (Operand.tmp 36) 52, type := 4, pos := "ref.go:114", after := #[{ on := 4, ground := Ground.data }, { on := 9, ground := Ground.data }], guard := none }) (v := ?_) rfl (by kernel_rfl) (by kernel_rfl) (by kernel_rfl) (fun _ _ _ h => h) (Or.inl ⟨by kernel_rfl, ?_⟩) hHeld ?_
      rotate_left
      · intro w9 hSw; (try dsimp only at hSw); go_simp; try with_reducible rfl
      simp only [Act.put, List.setIfInBounds_toArray, List.set_cons_zero, List.set_cons_succ]
      refine wpAnyH_done (by kernel_rfl) ?_ _
      go_wp2
      go_roundw
      case rel => exact ⟨k + 1, by omega, by go_num, HV.out.drew⟩
      case measure => simp [intOf]; omega
    · obtain rfl : k = n := by omega
      go_wp2
      go_ret
      exact ⟨rfl, below_then HB.out HV.out⟩
theorem in_end {x : It} {l : List It} {j : Nat} (h : l.length = j) : l.take (bhA x l) ++ x :: (l.take j).drop (bhA x l) = inL x l := by
  have e : l.take j = l := List.take_of_length_le (by rw [h]; exact Nat.le_refl _)
  rw [e]; rfl
theorem in_more {x : It} {l : List It} {j a : Nat} (h : j < l.length) (ha : a < j) (y : It) (hy : l.getD j i0 = y) : (l.take a ++ x :: (l.take j).drop a) ++ [y] = l.take a ++ x :: (l.take (j + 1)).drop a := by
  rw [take_snoc l j h, hy, List.drop_append_of_le_length (by simp; omega)]
  simp
theorem in_here {x : It} {l : List It} {j : Nat} (h : j < l.length) (y : It) (hy : l.getD j i0 = y) : (l.take j ++ [x]) ++ [y] = l.take j ++ x :: (l.take (j + 1)).drop j := by
  rw [take_snoc l j h, hy, List.drop_append_of_le_length (by simp; omega), List.drop_of_length_le (by simp; omega)]
  simp
set_option maxHeartbeats 4000000 in
theorem rput_is (N : Int) (A : Option Addr) (n c : Nat) (l : List It) (d p : Int) (w : World) (h : Its w A n c l) :
    Calls Try.prog 11 #[.agg #[.int .i64 N, .slice A n c], .int .i64 d, .int .i64 p] w (Q2Post A n (puN (tkN N l) (tkL N l) d p) (puL (tkN N l) (tkL N l) d p) (puB (tkN N l) (tkL N l) d p) w) := by
  have X0 := Lib.hid ((Qv.new w 24 N A n c).alloc (.cells #[.int .i64 0, .slice none 0 0] 24))
  have X1 := Lib.hid (Qv.at_ (w.alloc (.cells #[.int .i64 N, .slice A n c] 24)) 24 0 none 0 0 (w.heap.size + 1) (by simp))
  have HB := Lib.hid (two_new w (.cells #[.int .i64 N, .slice A n c] 24) (.cells #[.int .i64 0, .slice none 0 0] 24))
  have H0 := Lib.hid h
  have H := Lib.hid (h.below HB.out)
  have HL := Lib.hid h.len
  clear h
  have hsq := sq_tk N l
  obtain ⟨N1, hN1⟩ : ∃ x, tkN N l = x := ⟨_, rfl⟩
  obtain ⟨l1, hl1⟩ : ∃ x, tkL N l = x := ⟨_, rfl⟩
  rw [hN1, hl1] at hsq ⊢
  have HN1 := Lib.hid hN1
  have HL1 := Lib.hid hl1
  have HS := Lib.hid hsq
  clear hN1 hl1 hsq
  go_enter Try.func11, Try.ntmps11
  go_upto_region 1 with (fail)
  generalize (w.alloc (.cells #[.int .i64 N, .slice A n c] 24)).alloc (.cells #[.int .i64 0, .slice none 0 0] 24) = W at *
  have gs := HB.out.size
  have gl := X1.out.lt
  have qa := X0.out.c0; have qb := X0.out.c1; have qfa := X0.out.f 0; have qfb := X0.out.f 1; have ql := X0.out.lt; have y0 := X1.out.c0; have y1 := X1.out.c1; have yf0 := X1.out.f 0; have yf1 := X1.out.f 1; have yl := X1.out.lt
  have AP0 := Lib.hid (its_old H0.out (g := w.heap.size) (Nat.le_refl _))
  have AP1 := Lib.hid (its_old H0.out (g := w.heap.size + 1) (Nat.le_succ _))
  go_upto_region 2 with (go_at_call 31; refine (rtaken_at N A n c l N1 l1 _ H.out HN1.out HL1.out).mono ?_; rintro e w1 ⟨A1, n1, c1, rfl, hi, hb, hbo⟩; have HI := Lib.hid hi; have HO := Lib.hid hbo; clear hi hbo; have HB := Lib.hid (below_then HB.out hb); have H := Lib.hid (H.out.below hb); have X0 := Lib.hid (X0.out.keep hb); have X1 := Lib.hid (X1.out.keep hb); clear hb; clear qa qb qfa qfb ql y0 y1 yf0 yf1 yl; have qa := X0.out.c0; have qb := X0.out.c1; have qfa := X0.out.f 0; have qfb := X0.out.f 1; have ql := X0.out.lt; have y0 := X1.out.c0; have y1 := X1.out.c1; have yf0 := X1.out.f 0; have yf1 := X1.out.f 1; have yl := X1.out.lt)
  have X0 := Lib.hid (X0.out.set N1 A1 n1 c1)
  have X1 := Lib.hid ((X1.out.other (p := ⟨w.heap.size, 0, none⟩) (by simp) (.int .i64 N1)).other (p := ⟨w.heap.size, 1, none⟩) (by simp) (.slice A1 n1 c1))
  have HB := Lib.hid (below_set (below_set HB.out (p := ⟨w.heap.size, 0, none⟩) (Nat.le_refl _) (.int .i64 N1)) (p := ⟨w.heap.size, 1, none⟩) (Nat.le_refl _) (.slice A1 n1 c1))
  have H := Lib.hid ((HI.out.set_ (HO.out _ (by omega) AP0.out) 0 (.int .i64 N1)).set_ (HO.out _ (by omega) AP0.out) 1 (.slice A1 n1 c1))
  have AQ1 := Lib.hid (HO.out _ (by omega) AP1.out)
  have BO : Hid (Born w A n A1 n1) := Lib.hid (Born.trans Born.same gs HO.out)
  generalize (w1.setCell ⟨w.heap.size, 0, none⟩ (.int .i64 N1)).setCell ⟨w.heap.size, 1, none⟩ (.slice A1 n1 c1) = W2 at *
  clear HI HO qa qb qfa qfb ql y0 y1 yf0 yf1 yl
  have hn1 : n1 ≤ 8 := by rw [← H.out.len]; exact HS.out.2.1
  have HL1 := Lib.hid H.out.len
  have qa := X0.out.c0; have qb := X0.out.c1; have qfa := X0.out.f 0; have qfb := X0.out.f 1; have ql := X0.out.lt; have y0 := X1.out.c0; have y1 := X1.out.c1; have yf0 := X1.out.f 0; have yf1 := X1.out.f 1; have yl := X1.out.lt
  have hN0 := HS.out.1.1
  have hNm := HS.out.1.2
  have gs2 := HB.out.size
  have gl2 := X1.out.lt
  by_cases h1 : d < 0
  · have HP : Hid (puB N1 l1 d p = false) := Lib.hid (by unfold puB; exact decide_eq_false (by omega))
    have Z := Lib.hid (X1.out.set N1 A1 n1 c1); have z0 := Z.out.c0; have z1 := Z.out.c1
    go_wp2
    refine bodyPost_ret (v := .tuple #[.agg #[.int .i64 N1, .slice A1 n1 c1], .bool false]) (by simp [results, Try.results11, go_sem, z0, z1]) rfl ⟨A1, n1, c1, by rw [(pu_no HP.out).1, HP.out], by rw [(pu_no HP.out).2]; exact (H.out.set_ AQ1.out 0 _).set_ AQ1.out 1 _, below_set (below_set HB.out (Nat.le_succ _) _) (Nat.le_succ _) _, BO.out⟩
  by_cases h2 : 7 < d
  · have HP : Hid (puB N1 l1 d p = false) := Lib.hid (by unfold puB; exact decide_eq_false (by omega))
    have Z := Lib.hid (X1.out.set N1 A1 n1 c1); have z0 := Z.out.c0; have z1 := Z.out.c1
    go_wp2
    refine bodyPost_ret (v := .tuple #[.agg #[.int .i64 N1, .slice A1 n1 c1], .bool false]) (by simp [results, Try.results11, go_sem, z0, z1]) rfl ⟨A1, n1, c1, by rw [(pu_no HP.out).1, HP.out], by rw [(pu_no HP.out).2]; exact (H.out.set_ AQ1.out 0 _).set_ AQ1.out 1 _, below_set (below_set HB.out (Nat.le_succ _) _) (Nat.le_succ _) _, BO.out⟩
  by_cases h3 : p < 0
  · have HP : Hid (puB N1 l1 d p = false) := Lib.hid (by unfold puB; exact decide_eq_false (by omega))
    have Z := Lib.hid (X1.out.set N1 A1 n1 c1); have z0 := Z.out.c0; have z1 := Z.out.c1
    go_wp2
    refine bodyPost_ret (v := .tuple #[.agg #[.int .i64 N1, .slice A1 n1 c1], .bool false]) (by simp [results, Try.results11, go_sem, z0, z1]) rfl ⟨A1, n1, c1, by rw [(pu_no HP.out).1, HP.out], by rw [(pu_no HP.out).2]; exact (H.out.set_ AQ1.out 0 _).set_ AQ1.out 1 _, below_set (below_set HB.out (Nat.le_succ _) _) (Nat.le_succ _) _, BO.out⟩
  by_cases h4 : 4 < p
  · have HP : Hid (puB N1 l1 d p = false) := Lib.hid (by unfold puB; exact decide_eq_false (by omega))
    have Z := Lib.hid (X1.out.set N1 A1 n1 c1); have z0 := Z.out.c0; have z1 := Z.out.c1
    go_wp2
    refine bodyPost_ret (v := .tuple #[.agg #[.int .i64 N1, .slice A1 n1 c1], .bool false]) (by simp [results, Try.results11, go_sem, z0, z1]) rfl ⟨A1, n1, c1, by rw [(pu_no HP.out).1, HP.out], by rw [(pu_no HP.out).2]; exact (H.out.set_ AQ1.out 0 _).set_ AQ1.out 1 _, below_set (below_set HB.out (Nat.le_succ _) _) (Nat.le_succ _) _, BO.out⟩

  cases h5' : (N1 == 1099511627776)
  rotate_left
  · have HP : Hid (puB N1 l1 d p = false) := Lib.hid (by
      have h5 : N1 = 1099511627776 := by simpa using h5'
      unfold puB; exact decide_eq_false (by omega))
    have Z := Lib.hid (X1.out.set N1 A1 n1 c1); have z0 := Z.out.c0; have z1 := Z.out.c1
    go_wp2
    refine bodyPost_ret (v := .tuple #[.agg #[.int .i64 N1, .slice A1 n1 c1], .bool false]) (by simp [results, Try.results11, go_sem, z0, z1]) rfl ⟨A1, n1, c1, by rw [(pu_no HP.out).1, HP.out], by rw [(pu_no HP.out).2]; exact (H.out.set_ AQ1.out 0 _).set_ AQ1.out 1 _, below_set (below_set HB.out (Nat.le_succ _) _) (Nat.le_succ _) _, BO.out⟩
  have h5 : N1 ≠ 1099511627776 := by simpa using h5'
  have hw : IntKind.i64.wrap (N1 + 1) = N1 + 1 := by rw [IntKind.wrap_i64]; omega
  obtain ⟨gx, hgx⟩ : ∃ g, W2.heap.size = g := ⟨_, rfl⟩
  have X2 := Lib.hid (Iv.at_ W2 52 ⟨d, p, N1⟩ gx hgx)
  have X0 := Lib.hid (X0.out.alloc (.cells #[.int .i64 d, .int .i64 p, .int .i64 N1] 52))
  have X1 := Lib.hid (X1.out.alloc (.cells #[.int .i64 d, .int .i64 p, .int .i64 N1] 52))
  have HB := Lib.hid (HB.out.alloc HB.out.size (.cells #[.int .i64 d, .int .i64 p, .int .i64 N1] 52))
  have H := Lib.hid (H.out.alloc (.cells #[.int .i64 d, .int .i64 p, .int .i64 N1] 52))
  go_upto_region 8 with (fail)
  generalize W2.alloc (.cells #[.int .i64 d, .int .i64 p, .int .i64 N1] 52) = W3 at *
  try rw [hgx]
  clear qa qb qfa qfb ql y0 y1 yf0 yf1 yl
  clear hgx
  have gs3 := X1.out.lt
  obtain ⟨a, ha⟩ : ∃ a, bhA ⟨d, p, N1⟩ l1 = a := ⟨_, rfl⟩
  have HA := Lib.hid ha
  have han : a ≤ n1 := by rw [← ha, ← HL1.out]; exact bh_le _ _
  clear ha
  go_loopw [9, 10, 11] (fun v b i wr => ∃ (j m : Nat) (A' : Option Addr) (c' : Nat) (L : List It), j ≤ n1 ∧ i = .int .i64 j ∧ v = .slice A' m c' ∧ (∀ q, q < j → (l1.getD q i0).d ≠ d) ∧ OwnI 52 W3 wr A' m c' L ∧
    ((j ≤ a ∧ b = .bool false ∧ m = j ∧ L = l1.take j) ∨ (a < j ∧ b = .bool true ∧ m = j + 1 ∧ L = l1.take a ++ ⟨d, p, N1⟩ :: (l1.take j).drop a))) (fun _ _ i _ => ((n1 : Int) - intOf i).toNat)
  case atStart => exact ⟨0, 0, none, 0, [], by omega, rfl, rfl, fun q hq => absurd hq (by omega), OwnI.nil _ _, .inl ⟨by omega, rfl, rfl, by rw [List.take_zero]⟩⟩
  case round =>
    obtain ⟨j, m, A', c', L, hj, rfl, rfl, hq, hO, hd⟩ := hrel
    have HQ := Lib.hid hq
    have HO := Lib.hid hO
    have XQ := Lib.hid (X0.out.keep hO.below)
    have XR := Lib.hid (X1.out.keep hO.below)
    have XX := Lib.hid (X2.out.keep hO.below)
    have HIr := Lib.hid (H.out.below hO.below)
    have HBr := Lib.hid (below_then HB.out hO.below)
    clear hq hO
    have qa := XQ.out.c0; have qb := XQ.out.c1
    have y0 := XR.out.c0; have y1 := XR.out.c1; have yf0 := XR.out.f 0; have yf1 := XR.out.f 1; have yl := XR.out.lt
    have xa := XX.out.c0; have xbb := XX.out.c1; have xc := XX.out.c2
    by_cases hlt : j < n1
    · have hjl : j < l1.length := by rw [HL1.out]; exact hlt
      obtain ⟨xb, xo, hAe, hbl, f0, f1, f2⟩ := HIr.out.at_ j hlt
      obtain ⟨y, hy⟩ : ∃ y, l1.getD j i0 = y := ⟨_, rfl⟩
      have HY := Lib.hid hy
      rw [hy] at f0 f1 f2
      clear hy
      have hyt : y.t < N1 := by
        have := it_iff.1 (HS.out.2.2.1 _ (List.getElem_mem hjl))
        rw [← HY.out, getD_lt hjl]; omega
      obtain ⟨d1, p1, t1⟩ := y
      simp only at f0 f1 f2 hyt
      have hk0 : (0 : Int) ≤ (j : Int) := by omega
      have hkn : (j : Int) < (n1 : Int) := by omega
      cases hyd : (d1 == d)
      rotate_left
      · have HP : Hid (puB N1 l1 d p = false) := Lib.hid (by
          unfold puB
          refine decide_eq_false fun h => h.2.2.2.2.2 _ (List.getElem_mem hjl) ?_
          have := HY.out
          rw [getD_lt hjl] at this
          rw [this]; simpa using hyd)
        have Z := Lib.hid (XR.out.set N1 A1 n1 c1); have z0 := Z.out.c0; have z1 := Z.out.c1
        subst hAe
        go_wp2
        refine bodyPost_ret (v := .tuple #[.agg #[.int .i64 N1, .slice (some ⟨xb, xo, none⟩) n1 c1], .bool false]) (by simp [results, Try.results11, go_sem, z0, z1]) rfl ⟨some ⟨xb, xo, none⟩, n1, c1, by rw [(pu_no HP.out).1, HP.out], by rw [(pu_no HP.out).2]; exact (HIr.out.set_ AQ1.out 0 _).set_ AQ1.out 1 _, below_set (below_set HBr.out (Nat.le_succ _) _) (Nat.le_succ _) _, BO.out⟩
      have HNX : Hid (∀ q, q < j + 1 → (l1.getD q i0).d ≠ d) := Lib.hid (fun q hq => by
        rcases Nat.lt_succ_iff_lt_or_eq.1 hq with g | rfl
        · exact HQ.out q g
        · rw [HY.out]; simpa using hyd)
      subst hAe
      rcases hd with ⟨hja, rfl, rfl, rfl⟩ | ⟨hja, rfl, rfl, rfl⟩
      · obtain ⟨va, hva⟩ : ∃ v, ahB ⟨d, p, N1⟩ ⟨d1, p1, t1⟩ = v := ⟨_, rfl⟩
        have HVA := Lib.hid hva
        have HC : Hid (if va = true then m = a else m < a) := Lib.hid (by
          rcases Nat.lt_or_eq_of_le hja with g | g
          · have h1 := bh_before ⟨d, p, N1⟩ l1 m (by rw [HA.out]; exact g)
            rw [HY.out] at h1
            have h2 := ah_anti h1
            rw [hva] at h2
            rw [h2]; simpa using g
          · have h1 := bh_at ⟨d, p, N1⟩ l1 (by rw [HA.out, ← g]; exact hjl)
            rw [HA.out, ← g, HY.out] at h1
            have h2 := ah_total h1 (by simp only; omega)
            rw [hva] at h2
            rw [h2]; simpa using g)
        clear hva
        go_upto_region 12 with (fail)
        clear qa qb xa xbb xc
        cases va
        · have hc := HC.out
          simp at hc
          have hHeld0 : (fun w9 => Below wr.heap.size wr w9 ∧ (w9.cell? ⟨w.heap.size, 0, none⟩ = some (.int .i64 N1) ∧ w9.cell? ⟨w.heap.size, 1, none⟩ = some (.slice (some ⟨xb, xo, none⟩) n1 c1)) ∧ (w9.cell? ⟨gx, 0, none⟩ = some (.int .i64 d) ∧ w9.cell? ⟨gx, 1, none⟩ = some (.int .i64 p) ∧ w9.cell? ⟨gx, 2, none⟩ = some (.int .i64 N1)) ∧ (w9.cell? ⟨xb, xo + m * 3, none⟩ = some (.int .i64 d1) ∧ w9.cell? ⟨xb, xo + m * 3 + 1, none⟩ = some (.int .i64 p1) ∧ w9.cell? ⟨xb, xo + m * 3 + 2, none⟩ = some (.int .i64 t1))) wr.drew := skJ XQ.out XX.out hbl f0 f1 f2 (Below.refl _ _).drew
          refine wp_region_held_drew (S := fun w9 => Below wr.heap.size wr w9 ∧ (w9.cell? ⟨w.heap.size, 0, none⟩ = some (.int .i64 N1) ∧ w9.cell? ⟨w.heap.size, 1, none⟩ = some (.slice (some ⟨xb, xo, none⟩) n1 c1)) ∧ (w9.cell? ⟨gx, 0, none⟩ = some (.int .i64 d) ∧ w9.cell? ⟨gx, 1, none⟩ = some (.int .i64 p) ∧ w9.cell? ⟨gx, 2, none⟩ = some (.int .i64 N1)) ∧ (w9.cell? ⟨xb, xo + m * 3, none⟩ = some (.int .i64 d1) ∧ w9.cell? ⟨xb, xo + m * 3 + 1, none⟩ = some (.int .i64 p1) ∧ w9.cell? ⟨xb, xo + m * 3 + 2, none⟩ = some (.int .i64 t1))) (by kernel_rfl) hHeld0 (fun hHeld => ?_)
          clear hHeld0
          refine wpAnyH_take (i := 0) (oi := { dst := some 55, op := Op.move (Operand.tmp 10), type := 4, pos := "ref.go:55", after := #[], guard := none }) (v := ?_) rfl (by kernel_rfl) (by kernel_rfl) (by kernel_rfl) (fun _ _ _ h => h) (Or.inl ⟨by kernel_rfl, ?_⟩) hHeld ?_
          rotate_left
          · intro w9 hSw; (try dsimp only at hSw); go_simp; try with_reducible rfl
          simp only [Act.put, List.setIfInBounds_toArray, List.set_cons_zero, List.set_cons_succ]
          refine wpAnyH_take (i := 1) (oi := { dst := some 56, op := Op.unOp UnOp.not 4 (Operand.tmp 55), type := 4, pos := "ref.go:55", after := #[{ on := 0, ground := Ground.data }], guard := none }) (v := ?_) rfl (by kernel_rfl) (by kernel_rfl) (by kernel_rfl) (fun _ _ _ h => h) (Or.inl ⟨by kernel_rfl, ?_⟩) hHeld ?_
          rotate_left
          · intro w9 hSw; (try dsimp only at hSw); go_simp; try with_reducible rfl
          simp only [Act.put, List.setIfInBounds_toArray, List.set_cons_zero, List.set_cons_succ]
          refine wpAnyH_take (i := 2) (oi := { dst := some 57, op := Op.move (Operand.tmp 56), type := 4, pos := "ref.go:55", after := #[{ on := 1, ground := Ground.data }], guard := none }) (v := ?_) rfl (by kernel_rfl) (by kernel_rfl) (by kernel_rfl) (fun _ _ _ h => h) (Or.inl ⟨by kernel_rfl, ?_⟩) hHeld ?_
          rotate_left
          · intro w9 hSw; (try dsimp only at hSw); go_simp; try with_reducible rfl
          simp only [Act.put, List.setIfInBounds_toArray, List.set_cons_zero, List.set_cons_succ]
          refine wpAnyH_take (i := 3) (oi := { dst := some 58, op := Op.load 52 (Operand.tmp 8), type := 52, pos := "ref.go:55", after := #[{ on := 2, ground := Ground.guard }], guard := some (2, true) }) (v := ?_) rfl (by kernel_rfl) (by kernel_rfl) (by kernel_rfl) (fun _ _ _ h => h) (Or.inl ⟨by kernel_rfl, ?_⟩) hHeld ?_
          rotate_left
          · intro w9 hSw; (try dsimp only at hSw); go_simp; try with_reducible rfl
          simp only [Act.put, List.setIfInBounds_toArray, List.set_cons_zero, List.set_cons_succ]
          refine wpAnyH_take (i := 4) (oi := { dst := some 59, op := Op.fieldAddr 24 (Operand.tmp 3) 1, type := 0, pos := "ref.go:55", after := #[{ on := 2, ground := Ground.guard }], guard := some (2, true) }) (v := ?_) rfl (by kernel_rfl) (by kernel_rfl) (by kernel_rfl) (fun _ _ _ h => h) (Or.inl ⟨by kernel_rfl, ?_⟩) hHeld ?_
          rotate_left
          · intro w9 hSw; (try dsimp only at hSw); go_simp; try with_reducible rfl
          simp only [Act.put, List.setIfInBounds_toArray, List.set_cons_zero, List.set_cons_succ]
          refine wpAnyH_take (i := 5) (oi := { dst := some 60, op := Op.load 22 (Operand.tmp 59), type := 22, pos := "ref.go:55", after := #[{ on := 4, ground := Ground.data }, { on := 2, ground := Ground.guard }], guard := some (2, true) }) (v := ?_) rfl (by kernel_rfl) (by kernel_rfl) (by kernel_rfl) (fun _ _ _ h => h) (Or.inl ⟨by kernel_rfl, ?_⟩) hHeld ?_
          rotate_left
          · intro w9 hSw; (try dsimp only at hSw); go_simp; try with_reducible rfl
          simp only [Act.put, List.setIfInBounds_toArray, List.set_cons_zero, List.set_cons_succ]
          refine wpAnyH_take (i := 6) (oi := { dst := some 61, op := Op.move (Operand.tmp 11), type := 3, pos := "ref.go:55", after := #[{ on := 2, ground := Ground.guard }], guard := some (2, true) }) (v := ?_) rfl (by kernel_rfl) (by kernel_rfl) (by kernel_rfl) (fun _ _ _ h => h) (Or.inl ⟨by kernel_rfl, ?_⟩) hHeld ?_
          rotate_left
          · intro w9 hSw; (try dsimp only at hSw); go_simp; try with_reducible rfl
          simp only [Act.put, List.setIfInBounds_toArray, List.set_cons_zero, List.set_cons_succ]
          refine wpAnyH_take (i := 7) (oi := { dst := some 62, op := Op.indexAddr 22 (Operand.tmp 60) (Operand.tmp 61), type := 0, pos := "ref.go:55", after := #[{ on := 5, ground := Ground.data }, { on := 6, ground := Ground.data }, { on := 2, ground := Ground.guard }], guard := some (2, true) }) (v := ?_) rfl (by kernel_rfl) (by kernel_rfl) (by kernel_rfl) (fun _ _ _ h => h) (Or.inl ⟨by kernel_rfl, ?_⟩) hHeld ?_
          rotate_left
          · intro w9 hSw; (try dsimp only at hSw); go_simp; try with_reducible rfl
          simp only [Act.put, List.setIfInBounds_toArray, List.set_cons_zero, List.set_cons_succ]
          refine wpAnyH_take (i := 8) (oi := { dst := some 63, op := Op.load 52 (Operand.tmp 62), type := 52, pos := "ref.go:55", after := #[{ on := 7, ground := Ground.data }, { on := 2, ground := Ground.guard }], guard := some (2, true) }) (v := ?_) rfl (by kernel_rfl) (by kernel_rfl) (by kernel_rfl) (fun _ _ _ h => h) (Or.inl ⟨by kernel_rfl, ?_⟩) hHeld ?_
          rotate_left
          · intro w9 hSw; (try dsimp only at hSw); go_simp; try with_reducible rfl
          simp only [Act.put, List.setIfInBounds_toArray, List.set_cons_zero, List.set_cons_succ]
          refine wpAnyH_ready (rs := [9]) (by kernel_rfl) (by simp) ?_
          refine AllReadyH.cons (o := { dst := some 64, op := Op.call { callee := Callee.value (Operand.func 32), args := #[Operand.tmp 58, Operand.tmp 63], argTypes := #[52, 52] }, type := 4, pos := "ref.go:55", after := #[{ on := 3, ground := Ground.data }, { on := 8, ground := Ground.data }, { on := 2, ground := Ground.chain }, { on := 2, ground := Ground.guard }], guard := some (2, true) }) rfl (fun K hK => ?_) AllReadyH.nil
          go_simp
          refine (rahead_is ⟨d, p, N1⟩ ⟨d1, p1, t1⟩ _ HVA.out _).mono ?_; rintro e w4 ⟨rfl, hb4⟩
          refine hK.out _ _ (skJ XQ.out XX.out hbl f0 f1 f2 (below_then hHeld.1 hb4)) (fun hHeld => ?_)
          clear hK K
          try simp only [Act.put, List.setIfInBounds_toArray, List.set_cons_zero, List.set_cons_succ]
          refine wpAnyH_take (i := 10) (oi := { dst := some 65, op := Op.pick (Operand.tmp 57) (Operand.tmp 64) (Operand.const (Value.bool false)), type := 4, pos := "ref.go:55", after := #[{ on := 2, ground := Ground.data }, { on := 9, ground := Ground.data }], guard := none }) (v := ?_) rfl (by kernel_rfl) (by kernel_rfl) (by kernel_rfl) (fun _ _ _ h => h) (Or.inl ⟨by kernel_rfl, ?_⟩) hHeld ?_
          rotate_left
          · intro w9 hSw; (try dsimp only at hSw); go_simp; try with_reducible rfl
          simp only [Act.put, List.setIfInBounds_toArray, List.set_cons_zero, List.set_cons_succ]
          refine wpAnyH_done (by kernel_rfl) ?_ _
          have fx := hHeld.2.2.1
          have fq := hHeld.2.1
          have fy := hHeld.2.2.2
          have HW4 := Lib.hid hHeld.1
          clear hHeld f0 f1 f2
          obtain ⟨f0, f1, f2⟩ := fy
          obtain ⟨qa, qb⟩ := fq
          clear fx
          go_wp2_with (at_builtin; refine wpList_appI etR (W := W3) rfl (.tmp 70) (.tmp 76) rfl rfl rfl (HO.out.grow (below_then HW4.out (below_one _ (.cells #[.int .i64 d1, .int .i64 p1, .int .i64 t1] 52)))) (Its.new1 _ 52 ⟨d1, p1, t1⟩) (by omega) ?_; intro A5 c5 w5 hw5; have HO5 := Lib.hid hw5; clear hw5)
          go_roundw
          case rel => exact ⟨m + 1, m + 1, A5, c5, _, by omega, by go_num, by go_num, HNX.out, HO5.out, .inl ⟨by omega, rfl, rfl, by rw [take_snoc l1 m hjl, HY.out]⟩⟩
          case measure => simp [intOf]; omega
        · have hc := HC.out
          simp at hc
          subst hc
          have hHeld0 : (fun w9 => Below wr.heap.size wr w9 ∧ (w9.cell? ⟨w.heap.size, 0, none⟩ = some (.int .i64 N1) ∧ w9.cell? ⟨w.heap.size, 1, none⟩ = some (.slice (some ⟨xb, xo, none⟩) n1 c1)) ∧ (w9.cell? ⟨gx, 0, none⟩ = some (.int .i64 d) ∧ w9.cell? ⟨gx, 1, none⟩ = some (.int .i64 p) ∧ w9.cell? ⟨gx, 2, none⟩ = some (.int .i64 N1)) ∧ (w9.cell? ⟨xb, xo + m * 3, none⟩ = some (.int .i64 d1) ∧ w9.cell? ⟨xb, xo + m * 3 + 1, none⟩ = some (.int .i64 p1) ∧ w9.cell? ⟨xb, xo + m * 3 + 2, none⟩ = some (.int .i64 t1))) wr.drew := skJ XQ.out XX.out hbl f0 f1 f2 (Below.refl _ _).drew
          refine wp_region_held_drew (S := fun w9 => Below wr.heap.size wr w9 ∧ (w9.cell? ⟨w.heap.size, 0, none⟩ = some (.int .i64 N1) ∧ w9.cell? ⟨w.heap.size, 1, none⟩ = some (.slice (some ⟨xb, xo, none⟩) n1 c1)) ∧ (w9.cell? ⟨gx, 0, none⟩ = some (.int .i64 d) ∧ w9.cell? ⟨gx, 1, none⟩ = some (.int .i64 p) ∧ w9.cell? ⟨gx, 2, none⟩ = some (.int .i64 N1)) ∧ (w9.cell? ⟨xb, xo + m * 3, none⟩ = some (.int .i64 d1) ∧ w9.cell? ⟨xb, xo + m * 3 + 1, none⟩ = some (.int .i64 p1) ∧ w9.cell? ⟨xb, xo + m * 3 + 2, none⟩ = some (.int .i64 t1))) (by kernel_rfl) hHeld0 (fun hHeld => ?_)
          clear hHeld0
          refine wpAnyH_take (i := 0) (oi := { dst := some 55, op := Op.move (Operand.tmp 10), type := 4, pos := "ref.go:55", after := #[], guard := none }) (v := ?_) rfl (by kernel_rfl) (by kernel_rfl) (by kernel_rfl) (fun _ _ _ h => h) (Or.inl ⟨by kernel_rfl, ?_⟩) hHeld ?_
          rotate_left
          · intro w9 hSw; (try dsimp only at hSw); go_simp; try with_reducible rfl
          simp only [Act.put, List.setIfInBounds_toArray, List.set_cons_zero, List.set_cons_succ]
          refine wpAnyH_take (i := 1) (oi := { dst := some 56, op := Op.unOp UnOp.not 4 (Operand.tmp 55), type := 4, pos := "ref.go:55", after := #[{ on := 0, ground := Ground.data }], guard := none }) (v := ?_) rfl (by kernel_rfl) (by kernel_rfl) (by kernel_rfl) (fun _ _ _ h => h) (Or.inl ⟨by kernel_rfl, ?_⟩) hHeld ?_
          rotate_left
          · intro w9 hSw; (try dsimp only at hSw); go_simp; try with_reducible rfl
          simp only [Act.put, List.setIfInBounds_toArray, List.set_cons_zero, List.set_cons_succ]
          refine wpAnyH_take (i := 2) (oi := { dst := some 57, op := Op.move (Operand.tmp 56), type := 4, pos := "ref.go:55", after := #[{ on := 1, ground := Ground.data }], guard := none }) (v := ?_) rfl (by kernel_rfl) (by kernel_rfl) (by kernel_rfl) (fun _ _ _ h => h) (Or.inl ⟨by kernel_rfl, ?_⟩) hHeld ?_
          rotate_left
          · intro w9 hSw; (try dsimp only at hSw); go_simp; try with_reducible rfl
          simp only [Act.put, List.setIfInBounds_toArray, List.set_cons_zero, List.set_cons_succ]
          refine wpAnyH_take (i := 3) (oi := { dst := some 58, op := Op.load 52 (Operand.tmp 8), type := 52, pos := "ref.go:55", after := #[{ on := 2, ground := Ground.guard }], guard := some (2, true) }) (v := ?_) rfl (by kernel_rfl) (by kernel_rfl) (by kernel_rfl) (fun _ _ _ h => h) (Or.inl ⟨by kernel_rfl, ?_⟩) hHeld ?_
          rotate_left
          · intro w9 hSw; (try dsimp only at hSw); go_simp; try with_reducible rfl
          simp only [Act.put, List.setIfInBounds_toArray, List.set_cons_zero, List.set_cons_succ]
          refine wpAnyH_take (i := 4) (oi := { dst := some 59, op := Op.fieldAddr 24 (Operand.tmp 3) 1, type := 0, pos := "ref.go:55", after := #[{ on := 2, ground := Ground.guard }], guard := some (2, true) }) (v := ?_) rfl (by kernel_rfl) (by kernel_rfl) (by kernel_rfl) (fun _ _ _ h => h) (Or.inl ⟨by kernel_rfl, ?_⟩) hHeld ?_
          rotate_left
          · intro w9 hSw; (try dsimp only at hSw); go_simp; try with_reducible rfl
          simp only [Act.put, List.setIfInBounds_toArray, List.set_cons_zero, List.set_cons_succ]
          refine wpAnyH_take (i := 5) (oi := { dst := some 60, op := Op.load 22 (Operand.tmp 59), type := 22, pos := "ref.go:55", after := #[{ on := 4, ground := Ground.data }, { on := 2, ground := Ground.guard }], guard := some (2, true) }) (v := ?_) rfl (by kernel_rfl) (by kernel_rfl) (by kernel_rfl) (fun _ _ _ h => h) (Or.inl ⟨by kernel_rfl, ?_⟩) hHeld ?_
          rotate_left
          · intro w9 hSw; (try dsimp only at hSw); go_simp; try with_reducible rfl
          simp only [Act.put, List.setIfInBounds_toArray, List.set_cons_zero, List.set_cons_succ]
          refine wpAnyH_take (i := 6) (oi := { dst := some 61, op := Op.move (Operand.tmp 11), type := 3, pos := "ref.go:55", after := #[{ on := 2, ground := Ground.guard }], guard := some (2, true) }) (v := ?_) rfl (by kernel_rfl) (by kernel_rfl) (by kernel_rfl) (fun _ _ _ h => h) (Or.inl ⟨by kernel_rfl, ?_⟩) hHeld ?_
          rotate_left
          · intro w9 hSw; (try dsimp only at hSw); go_simp; try with_reducible rfl
          simp only [Act.put, List.setIfInBounds_toArray, List.set_cons_zero, List.set_cons_succ]
          refine wpAnyH_take (i := 7) (oi := { dst := some 62, op := Op.indexAddr 22 (Operand.tmp 60) (Operand.tmp 61), type := 0, pos := "ref.go:55", after := #[{ on := 5, ground := Ground.data }, { on := 6, ground := Ground.data }, { on := 2, ground := Ground.guard }], guard := some (2, true) }) (v := ?_) rfl (by kernel_rfl) (by kernel_rfl) (by kernel_rfl) (fun _ _ _ h => h) (Or.inl ⟨by kernel_rfl, ?_⟩) hHeld ?_
          rotate_left
          · intro w9 hSw; (try dsimp only at hSw); go_simp; try with_reducible rfl
          simp only [Act.put, List.setIfInBounds_toArray, List.set_cons_zero, List.set_cons_succ]
          refine wpAnyH_take (i := 8) (oi := { dst := some 63, op := Op.load 52 (Operand.tmp 62), type := 52, pos := "ref.go:55", after := #[{ on := 7, ground := Ground.data }, { on := 2, ground := Ground.guard }], guard := some (2, true) }) (v := ?_) rfl (by kernel_rfl) (by kernel_rfl) (by kernel_rfl) (fun _ _ _ h => h) (Or.inl ⟨by kernel_rfl, ?_⟩) hHeld ?_
          rotate_left
          · intro w9 hSw; (try dsimp only at hSw); go_simp; try with_reducible rfl
          simp only [Act.put, List.setIfInBounds_toArray, List.set_cons_zero, List.set_cons_succ]
          refine wpAnyH_ready (rs := [9]) (by kernel_rfl) (by simp) ?_
          refine AllReadyH.cons (o := { dst := some 64, op := Op.call { callee := Callee.value (Operand.func 32), args := #[Operand.tmp 58, Operand.tmp 63], argTypes := #[52, 52] }, type := 4, pos := "ref.go:55", after := #[{ on := 3, ground := Ground.data }, { on := 8, ground := Ground.data }, { on := 2, ground := Ground.chain }, { on := 2, ground := Ground.guard }], guard := some (2, true) }) rfl (fun K hK => ?_) AllReadyH.nil
          go_simp
          refine (rahead_is ⟨d, p, N1⟩ ⟨d1, p1, t1⟩ _ HVA.out _).mono ?_; rintro e w4 ⟨rfl, hb4⟩
          refine hK.out _ _ (skJ XQ.out XX.out hbl f0 f1 f2 (below_then hHeld.1 hb4)) (fun hHeld => ?_)
          clear hK K
          try simp only [Act.put, List.setIfInBounds_toArray, List.set_cons_zero, List.set_cons_succ]
          refine wpAnyH_take (i := 10) (oi := { dst := some 65, op := Op.pick (Operand.tmp 57) (Operand.tmp 64) (Operand.const (Value.bool false)), type := 4, pos := "ref.go:55", after := #[{ on := 2, ground := Ground.data }, { on := 9, ground := Ground.data }], guard := none }) (v := ?_) rfl (by kernel_rfl) (by kernel_rfl) (by kernel_rfl) (fun _ _ _ h => h) (Or.inl ⟨by kernel_rfl, ?_⟩) hHeld ?_
          rotate_left
          · intro w9 hSw; (try dsimp only at hSw); go_simp; try with_reducible rfl
          simp only [Act.put, List.setIfInBounds_toArray, List.set_cons_zero, List.set_cons_succ]
          refine wpAnyH_done (by kernel_rfl) ?_ _
          have fx := hHeld.2.2.1
          have fq := hHeld.2.1
          have fy := hHeld.2.2.2
          have HW4 := Lib.hid hHeld.1
          have XQ4 := Lib.hid (XQ.out.keep hHeld.1)
          clear hHeld
          have hb4 : xb < w4.heap.size := Nat.lt_of_lt_of_le hbl HW4.out.size
          have HG := Lib.hid fy
          clear f0 f1 f2
          obtain ⟨xa, xbb, xc⟩ := fx
          go_upto_region 15 with (at_builtin; refine wpList_appI etR (W := W3) rfl (.tmp 66) (.tmp 68) rfl rfl rfl (HO.out.grow (below_then HW4.out (below_one _ (.cells #[.int .i64 d, .int .i64 p, .int .i64 N1] 52)))) (Its.new1 _ 52 ⟨d, p, N1⟩) (by omega) ?_; intro A5 c5 w5 hw5; have HO5 := Lib.hid hw5; clear hw5)
          have HY5 := Lib.hid ((H.out.below HO5.out.below).at_ m hlt)
          obtain ⟨b6, o6, hbo, hbl6, f0, f1, f2⟩ := HY5.out
          injection hbo with hbo
          injection hbo with hb1 hb2 _
          subst hb1 hb2
          rw [HY.out] at f0 f1 f2
          simp only at f0 f1 f2
          have qa := (X0.out.keep HO5.out.below).c0
          have qb := (X0.out.keep HO5.out.below).c1
          go_wp2_with (at_builtin; refine wpList_appI etR (W := W3) rfl (.tmp 70) (.tmp 76) rfl rfl rfl (HO5.out.grow (below_one _ (.cells #[.int .i64 d1, .int .i64 p1, .int .i64 t1] 52))) (Its.new1 _ 52 ⟨d1, p1, t1⟩) (by omega) ?_; intro A6 c6 w6 hw6; have HO6 := Lib.hid hw6; clear hw6)
          go_roundw
          case rel => exact ⟨m + 1, m + 1 + 1, A6, c6, _, by omega, by go_num, by go_num, HNX.out, HO6.out, .inr ⟨by omega, rfl, rfl, in_here hjl _ HY.out⟩⟩
          case measure => simp [intOf]; omega
      · go_upto_region 12 with (fail)
        clear qa qb xa xbb xc
        have hHeld0 : (fun w9 => Below wr.heap.size wr w9 ∧ (w9.cell? ⟨w.heap.size, 0, none⟩ = some (.int .i64 N1) ∧ w9.cell? ⟨w.heap.size, 1, none⟩ = some (.slice (some ⟨xb, xo, none⟩) n1 c1)) ∧ (w9.cell? ⟨gx, 0, none⟩ = some (.int .i64 d) ∧ w9.cell? ⟨gx, 1, none⟩ = some (.int .i64 p) ∧ w9.cell? ⟨gx, 2, none⟩ = some (.int .i64 N1)) ∧ (w9.cell? ⟨xb, xo + j * 3, none⟩ = some (.int .i64 d1) ∧ w9.cell? ⟨xb, xo + j * 3 + 1, none⟩ = some (.int .i64 p1) ∧ w9.cell? ⟨xb, xo + j * 3 + 2, none⟩ = some (.int .i64 t1))) wr.drew := skJ XQ.out XX.out hbl f0 f1 f2 (Below.refl _ _).drew
        refine wp_region_held_drew (S := fun w9 => Below wr.heap.size wr w9 ∧ (w9.cell? ⟨w.heap.size, 0, none⟩ = some (.int .i64 N1) ∧ w9.cell? ⟨w.heap.size, 1, none⟩ = some (.slice (some ⟨xb, xo, none⟩) n1 c1)) ∧ (w9.cell? ⟨gx, 0, none⟩ = some (.int .i64 d) ∧ w9.cell? ⟨gx, 1, none⟩ = some (.int .i64 p) ∧ w9.cell? ⟨gx, 2, none⟩ = some (.int .i64 N1)) ∧ (w9.cell? ⟨xb, xo + j * 3, none⟩ = some (.int .i64 d1) ∧ w9.cell? ⟨xb, xo + j * 3 + 1, none⟩ = some (.int .i64 p1) ∧ w9.cell? ⟨xb, xo + j * 3 + 2, none⟩ = some (.int .i64 t1))) (by kernel_rfl) hHeld0 (fun hHeld => ?_)
        clear hHeld0
        refine wpAnyH_take (i := 0) (oi := { dst := some 55, op := Op.move (Operand.tmp 10), type := 4, pos := "ref.go:55", after := #[], guard := none }) (v := ?_) rfl (by kernel_rfl) (by kernel_rfl) (by kernel_rfl) (fun _ _ _ h => h) (Or.inl ⟨by kernel_rfl, ?_⟩) hHeld ?_
        rotate_left
        · intro w9 hSw; (try dsimp only at hSw); go_simp; try with_reducible rfl
        simp only [Act.put, List.setIfInBounds_toArray, List.set_cons_zero, List.set_cons_succ]
        refine wpAnyH_take (i := 1) (oi := { dst := some 56, op := Op.unOp UnOp.not 4 (Operand.tmp 55), type := 4, pos := "ref.go:55", after := #[{ on := 0, ground := Ground.data }], guard := none }) (v := ?_) rfl (by kernel_rfl) (by kernel_rfl) (by kernel_rfl) (fun _ _ _ h => h) (Or.inl ⟨by kernel_rfl, ?_⟩) hHeld ?_
        rotate_left
        · intro w9 hSw; (try dsimp only at hSw); go_simp; try with_reducible rfl
        simp only [Act.put, List.setIfInBounds_toArray, List.set_cons_zero, List.set_cons_succ]
        refine wpAnyH_take (i := 2) (oi := { dst := some 57, op := Op.move (Operand.tmp 56), type := 4, pos := "ref.go:55", after := #[{ on := 1, ground := Ground.data }], guard := none }) (v := ?_) rfl (by kernel_rfl) (by kernel_rfl) (by kernel_rfl) (fun _ _ _ h => h) (Or.inl ⟨by kernel_rfl, ?_⟩) hHeld ?_
        rotate_left
        · intro w9 hSw; (try dsimp only at hSw); go_simp; try with_reducible rfl
        simp only [Act.put, List.setIfInBounds_toArray, List.set_cons_zero, List.set_cons_succ]
        refine wpAnyH_take (i := 3) (oi := { dst := some 58, op := Op.load 52 (Operand.tmp 8), type := 52, pos := "ref.go:55", after := #[{ on := 2, ground := Ground.guard }], guard := some (2, true) }) (v := undef) rfl (by kernel_rfl) (by kernel_rfl) (by kernel_rfl) (fun _ _ _ h => h) (Or.inr ⟨by kernel_rfl, rfl⟩) hHeld ?_
        simp only [Act.put, List.setIfInBounds_toArray, List.set_cons_zero, List.set_cons_succ]
        refine wpAnyH_take (i := 4) (oi := { dst := some 59, op := Op.fieldAddr 24 (Operand.tmp 3) 1, type := 0, pos := "ref.go:55", after := #[{ on := 2, ground := Ground.guard }], guard := some (2, true) }) (v := undef) rfl (by kernel_rfl) (by kernel_rfl) (by kernel_rfl) (fun _ _ _ h => h) (Or.inr ⟨by kernel_rfl, rfl⟩) hHeld ?_
        simp only [Act.put, List.setIfInBounds_toArray, List.set_cons_zero, List.set_cons_succ]
        refine wpAnyH_take (i := 5) (oi := { dst := some 60, op := Op.load 22 (Operand.tmp 59), type := 22, pos := "ref.go:55", after := #[{ on := 4, ground := Ground.data }, { on := 2, ground := Ground.guard }], guard := some (2, true) }) (v := undef) rfl (by kernel_rfl) (by kernel_rfl) (by kernel_rfl) (fun _ _ _ h => h) (Or.inr ⟨by kernel_rfl, rfl⟩) hHeld ?_
        simp only [Act.put, List.setIfInBounds_toArray, List.set_cons_zero, List.set_cons_succ]
        refine wpAnyH_take (i := 6) (oi := { dst := some 61, op := Op.move (Operand.tmp 11), type := 3, pos := "ref.go:55", after := #[{ on := 2, ground := Ground.guard }], guard := some (2, true) }) (v := undef) rfl (by kernel_rfl) (by kernel_rfl) (by kernel_rfl) (fun _ _ _ h => h) (Or.inr ⟨by kernel_rfl, rfl⟩) hHeld ?_
        simp only [Act.put, List.setIfInBounds_toArray, List.set_cons_zero, List.set_cons_succ]
        refine wpAnyH_take (i := 7) (oi := { dst := some 62, op := Op.indexAddr 22 (Operand.tmp 60) (Operand.tmp 61), type := 0, pos := "ref.go:55", after := #[{ on := 5, ground := Ground.data }, { on := 6, ground := Ground.data }, { on := 2, ground := Ground.guard }], guard := some (2, true) }) (v := undef) rfl (by kernel_rfl) (by kernel_rfl) (by kernel_rfl) (fun _ _ _ h => h) (Or.inr ⟨by kernel_rfl, rfl⟩) hHeld ?_
        simp only [Act.put, List.setIfInBounds_toArray, List.set_cons_zero, List.set_cons_succ]
        refine wpAnyH_take (i := 8) (oi := { dst := some 63, op := Op.load 52 (Operand.tmp 62), type := 52, pos := "ref.go:55", after := #[{ on := 7, ground := Ground.data }, { on := 2, ground := Ground.guard }], guard := some (2, true) }) (v := undef) rfl (by kernel_rfl) (by kernel_rfl) (by kernel_rfl) (fun _ _ _ h => h) (Or.inr ⟨by kernel_rfl, rfl⟩) hHeld ?_
        simp only [Act.put, List.setIfInBounds_toArray, List.set_cons_zero, List.set_cons_succ]
        refine wpAnyH_take (i := 9) (oi := { dst := some 64, op := Op.call { callee := Callee.value (Operand.func 32), args := #[Operand.tmp 58, Operand.tmp 63], argTypes := #[52, 52] }, type := 4, pos := "ref.go:55", after := #[{ on := 3, ground := Ground.data }, { on := 8, ground := Ground.data }, { on := 2, ground := Ground.chain }, { on := 2, ground := Ground.guard }], guard := some (2, true) }) (v := undef) rfl (by kernel_rfl) (by kernel_rfl) (by kernel_rfl) (fun _ _ _ h => h) (Or.inr ⟨by kernel_rfl, rfl⟩) hHeld ?_
        simp only [Act.put, List.setIfInBounds_toArray, List.set_cons_zero, List.set_cons_succ]
        refine wpAnyH_take (i := 10) (oi := { dst := some 65, op := Op.pick (Operand.tmp 57) (Operand.tmp 64) (Operand.const (Value.bool false)), type := 4, pos := "ref.go:55", after := #[{ on := 2, ground := Ground.data }, { on := 9, ground := Ground.data }], guard := none }) (v := ?_) rfl (by kernel_rfl) (by kernel_rfl) (by kernel_rfl) (fun _ _ _ h => h) (Or.inl ⟨by kernel_rfl, ?_⟩) hHeld ?_
        rotate_left
        · intro w9 hSw; (try dsimp only at hSw); go_simp; try with_reducible rfl
        simp only [Act.put, List.setIfInBounds_toArray, List.set_cons_zero, List.set_cons_succ]
        refine wpAnyH_done (by kernel_rfl) ?_ _
        have fq := hHeld.2.1
        have fy := hHeld.2.2.2
        have HW4 := Lib.hid hHeld.1
        clear hHeld f0 f1 f2
        obtain ⟨f0, f1, f2⟩ := fy
        obtain ⟨qa, qb⟩ := fq
        go_wp2_with (at_builtin; refine wpList_appI etR (W := W3) rfl (.tmp 70) (.tmp 76) rfl rfl rfl (HO.out.grow (below_then HW4.out (below_one _ (.cells #[.int .i64 d1, .int .i64 p1, .int .i64 t1] 52)))) (Its.new1 _ 52 ⟨d1, p1, t1⟩) (by omega) ?_; intro A5 c5 w5 hw5; have HO5 := Lib.hid hw5; clear hw5)
        go_roundw
        case rel => exact ⟨j + 1, j + 1 + 1, A5, c5, _, by omega, by go_num, by go_num, HNX.out, HO5.out, .inr ⟨by omega, rfl, rfl, in_more hjl hja _ HY.out⟩⟩
        case measure => simp [intOf]; omega
    · obtain rfl : j = n1 := by omega
      have HP : Hid (puB N1 l1 d p = true) := Lib.hid (by
        unfold puB
        refine decide_eq_true ⟨by omega, by omega, by omega, by omega, h5, fun o ho e => ?_⟩
        obtain ⟨i, hi, rfl⟩ := List.mem_iff_getElem.1 ho
        have := HQ.out i (by rw [← HL1.out]; exact hi)
        rw [getD_lt hi] at this
        exact this e)
      have HPN : Hid (puN N1 l1 d p = N1 + 1) := Lib.hid (by unfold puN; rw [HP.out]; rfl)
      have HPL : Hid (puL N1 l1 d p = inL ⟨d, p, N1⟩ l1) := Lib.hid (by unfold puL; rw [HP.out]; rfl)
      rcases hd with ⟨hja, rfl, rfl, rfl⟩ | ⟨hja, rfl, rfl, rfl⟩
      · obtain rfl : a = m := by omega
        go_upto_region 18 with (at_builtin; refine wpList_appI etR (W := W3) rfl (.tmp 80) (.tmp 82) rfl rfl rfl (HO.out.grow (below_one _ (.cells #[.int .i64 d, .int .i64 p, .int .i64 N1] 52))) (Its.new1 _ 52 ⟨d, p, N1⟩) (by omega) ?_; intro A5 c5 w5 hw5; have HO5 := Lib.hid hw5; clear hw5)
        clear qa qb y0 y1 yf0 yf1 yl
        have XR5 := Lib.hid (X1.out.keep HO5.out.below)
        have qa := (X0.out.keep HO5.out.below).c0
        have y0 := XR5.out.c0; have y1 := XR5.out.c1; have yf0 := XR5.out.f 0; have yf1 := XR5.out.f 1; have yl := XR5.out.lt
        have Z := Lib.hid (XR5.out.set (N1 + 1) A5 (a + 1) c5); have z0 := Z.out.c0; have z1 := Z.out.c1
        have HB5 := Lib.hid (below_then HB.out HO5.out.below)
        have HF := Lib.hid HO5.out.fre
        go_wp2
        refine bodyPost_ret (v := .tuple #[.agg #[.int .i64 (N1 + 1), .slice A5 (a + 1) c5], .bool true]) (by simp [results, Try.results11, go_sem, z0, z1]) rfl ⟨A5, a + 1, c5, by rw [HPN.out, HP.out], ?_, below_set (below_set HB5.out (Nat.le_succ _) _) (Nat.le_succ _) _, HF.out.born (by omega)⟩
        rw [HPL.out]
        refine ((HO5.out.its.set_ (HF.out.ne (by omega)) 0 _).set_ (HF.out.ne (by omega)) 1 _).as ?_
        unfold inL
        rw [HA.out, List.take_of_length_le (by rw [HL1.out]; exact Nat.le_refl _), List.drop_of_length_le (by rw [HL1.out]; exact Nat.le_refl _)]
      · have Z := Lib.hid (XR.out.set (N1 + 1) A' (j + 1) c'); have z0 := Z.out.c0; have z1 := Z.out.c1
        have HF := Lib.hid HO.out.fre
        go_wp2
        refine bodyPost_ret (v := .tuple #[.agg #[.int .i64 (N1 + 1), .slice A' (j + 1) c'], .bool true]) (by simp [results, Try.results11, go_sem, z0, z1]) rfl ⟨A', j + 1, c', by rw [HPN.out, HP.out], ?_, below_set (below_set HBr.out (Nat.le_succ _) _) (Nat.le_succ _) _, HF.out.born (by omega)⟩
        rw [HPL.out]
        refine ((HO.out.its.set_ (HF.out.ne (by omega)) 0 _).set_ (HF.out.ne (by omega)) 1 _).as ?_
        have := in_end (x := ⟨d, p, N1⟩) HL1.out
        rw [HA.out] at this
        exact this

end Go.Proofs.Ytoklocbdifefcaa
