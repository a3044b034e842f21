/-
  QueueFirst answers true, whatever the queue is.
-/
import Derived.Test.YtoklocbdifefcaaQueueLine
import Derived.Test.YtoklocbdifefcaaQueueFirstMath
namespace Go.Proofs.Ytoklocbdifefcaa
open Go.RowKit

theorem neIt (w : World) (d p t : Int) : (binOp .neq 52 (.agg #[.int .i64 d, .int .i64 p, .int .i64 t]) (.agg #[.int .i64 d, .int .i64 p, .int .i64 t])).run Try.prog w = .ok (.bool false) w := by
  have u3 := Try.underlying3
  have a3 := Try.isAgg3
  have z3 := Try.sizeOf3
  have hS : Try.prog.underlying 52 = some (.struct (Try.prog.fieldsOf 52)) := by kernel_rfl
  have hp : Try.prog.stoodInHeld 52 = false := by kernel_rfl
  rw [run_neq_struct, show (10000 : Nat) = 9999 + 1 from rfl, run_equalIn_agg w 9999 52 _ _ hS hp]
  simp only [Program.fieldsOf, Try.underlying52]
  go_simp
theorem sk24 {W w : World} {g h xb xo m : Nat} {T T' : TypeId} {N N' : Int} {A A' : Option Addr} {n n' c c' : Nat} {x : It} (X : Qv W g T N A n c) (Q : Qv W h T' N' A' n' c') (hx : xb < W.heap.size)
    (f0 : W.cell? ⟨xb, xo + m * 3, none⟩ = some (.int .i64 x.d)) (f1 : W.cell? ⟨xb, xo + m * 3 + 1, none⟩ = some (.int .i64 x.p)) (f2 : W.cell? ⟨xb, xo + m * 3 + 2, none⟩ = some (.int .i64 x.t)) (b : Below W.heap.size W w) :
    Below W.heap.size W w ∧ (w.cell? ⟨g, 0, none⟩ = some (.int .i64 N) ∧ w.cell? ⟨g, 1, none⟩ = some (.slice A n c)) ∧ (w.cell? ⟨h, 0, none⟩ = some (.int .i64 N') ∧ w.cell? ⟨h, 1, none⟩ = some (.slice A' n' c')) ∧ (w.cell? ⟨xb, xo + m * 3, none⟩ = some (.int .i64 x.d) ∧ w.cell? ⟨xb, xo + m * 3 + 1, none⟩ = some (.int .i64 x.p) ∧ w.cell? ⟨xb, xo + m * 3 + 2, none⟩ = some (.int .i64 x.t)) :=
  ⟨b, ⟨(X.keep b).c0, (X.keep b).c1⟩, ⟨(Q.keep b).c0, (Q.keep b).c1⟩, (b.cell (p := ⟨xb, _, none⟩) hx).trans f0, (b.cell (p := ⟨xb, _, none⟩) hx).trans f1, (b.cell (p := ⟨xb, _, none⟩) hx).trans f2⟩
theorem sk19 {w : World} {g i xb xo : Nat} {T T' : TypeId} {N : Int} {A : Option Addr} {n c : Nat} {x : It} {p t : Int} (Q : Qv w g T N A n c) (X : Iv w i T' x) (f1 : w.cell? ⟨xb, xo + 1, none⟩ = some (.int .i64 p)) (f2 : w.cell? ⟨xb, xo + 2, none⟩ = some (.int .i64 t)) :
    (w.cell? ⟨g, 0, none⟩ = some (.int .i64 N) ∧ w.cell? ⟨g, 1, none⟩ = some (.slice A n c)) ∧ (w.cell? ⟨i, 0, none⟩ = some (.int .i64 x.d) ∧ w.cell? ⟨i, 1, none⟩ = some (.int .i64 x.p) ∧ w.cell? ⟨i, 2, none⟩ = some (.int .i64 x.t)) ∧ w.cell? ⟨xb, xo + 1, none⟩ = some (.int .i64 p) ∧ w.cell? ⟨xb, xo + 2, none⟩ = some (.int .i64 t) :=
  ⟨⟨Q.c0, Q.c1⟩, ⟨X.c0, X.c1, X.c2⟩, f1, f2⟩
set_option maxHeartbeats 4000000 in
set_option maxRecDepth 4000 in
theorem first_any (N : Int) (A : Option Addr) (n c : Nat) (l : List It) (w : World) (h : Its w A n c l) :
    Calls Try.prog 4 #[.agg #[.int .i64 N, .slice A n c]] w fun e w' => e = .returned (.bool true) ∧ Below w.heap.size w w' := by
  have HQ := Lib.hid (Qv.new w 24 N A n c)
  have HB := Lib.hid (below_one w (.cells #[.int .i64 N, .slice A n c] 24))
  have HI := Lib.hid (h.below HB.out)
  have HN := Lib.hid h.len
  clear h
  go_enter Try.func4, Try.ntmps4
  go_upto_region 1 with (fail)
  generalize w.alloc (.cells #[.int .i64 N, .slice A n c] 24) = W at *
  have qa := HQ.out.c0; have qb := HQ.out.c1
  go_upto_region 2 with (go_at_call 8; (with_reducible refine (awake_any _).mono ?_); rintro e w1 ⟨rfl, hb⟩; have HB := Lib.hid (below_then HB.out hb); have HQ := Lib.hid (HQ.out.keep hb); have HI := Lib.hid (HI.out.below hb); clear qa qb; have qa := HQ.out.c0; have qb := HQ.out.c1; clear hb)
  by_cases hn : n ≤ 30
  rotate_left
  · go_wp2
    go_ret
    exact ⟨rfl, HB.out⟩
  by_cases hs : Sq N l
  rotate_left
  · have HS : Hid (decide (Sq N l) = false) := Lib.hid (decide_eq_false hs)
    clear hs
    go_wp2_with (first
      | (go_at_call 10; (with_reducible refine (line_is N A n c l _ (by omega) HI.out).mono ?_); rintro e w2 ⟨A2, c2, rfl, hi, hb, -⟩; have HL2 := Lib.hid hi; clear hi; have HB := Lib.hid (below_then HB.out hb); have HQ := Lib.hid (HQ.out.keep hb); have HI := Lib.hid (HI.out.below hb); clear qa qb; have qa := HQ.out.c0; have qb := HQ.out.c1; clear hb)
      | (go_at_call 23; (with_reducible refine (sane_is N A2 n c2 l false _ (by omega) HL2.out HS.out).mono ?_); rintro e w3 ⟨rfl, hb⟩; have HB := Lib.hid (below_then HB.out hb); have HQ := Lib.hid (HQ.out.keep hb); have HI := Lib.hid (HI.out.below hb); clear qa qb; have qa := HQ.out.c0; have qb := HQ.out.c1; clear hb))
    go_ret
    exact ⟨rfl, HB.out⟩
  have HS := Lib.hid hs
  clear hs
  go_upto_region 4 with (first
    | (go_at_call 10; (with_reducible refine (line_is N A n c l _ (by omega) HI.out).mono ?_); rintro e w2 ⟨A2, c2, rfl, hi, hb, -⟩; have HL2 := Lib.hid hi; clear hi; have HB := Lib.hid (below_then HB.out hb); have HQ := Lib.hid (HQ.out.keep hb); have HI := Lib.hid (HI.out.below hb); clear qa qb; have qa := HQ.out.c0; have qb := HQ.out.c1; clear hb)
    | (go_at_call 23; (with_reducible refine (sane_at N A2 n c2 l _ HS.out HL2.out).mono ?_); rintro e w3 ⟨rfl, hb⟩; have HB := Lib.hid (below_then HB.out hb); have HQ := Lib.hid (HQ.out.keep hb); have HI := Lib.hid (HI.out.below hb); clear qa qb; have qa := HQ.out.c0; have qb := HQ.out.c1; clear hb))
  go_upto_region 5 with (first
    | (go_at_call 10; (with_reducible refine (line_is N A n c l _ (by omega) HI.out).mono ?_); rintro e w4 ⟨A4, c4, rfl, hi, hb, -⟩; have HL4 := Lib.hid hi; clear hi; have HB := Lib.hid (below_then HB.out hb); have HQ := Lib.hid (HQ.out.keep hb); have HI := Lib.hid (HI.out.below hb); clear qa qb; have qa := HQ.out.c0; have qb := HQ.out.c1; clear hb)
    | (go_at_call 14; (with_reducible refine (take_at N A4 n c4 l _ _ _ _ HS.out rfl rfl rfl HL4.out).mono ?_); rintro e w5 ⟨A5, n5, c5, rfl, hi, hb, -⟩; have HL5 := Lib.hid hi; clear hi; have HB := Lib.hid (below_then HB.out hb); have HQ := Lib.hid (HQ.out.keep hb); have HI := Lib.hid (HI.out.below hb); clear qa qb; have qa := HQ.out.c0; have qb := HQ.out.c1; clear hb))
  have HB := Lib.hid (HB.out.alloc HB.out.size (.cells #[.int .i64 N, .slice A5 n5 c5] 28))
  have HQ := Lib.hid (HQ.out.alloc (.cells #[.int .i64 N, .slice A5 n5 c5] 28))
  have HI := Lib.hid (HI.out.alloc (.cells #[.int .i64 N, .slice A5 n5 c5] 28))
  have HL5 := Lib.hid (HL5.out.alloc (.cells #[.int .i64 N, .slice A5 n5 c5] 28))
  have X5 := Lib.hid (Qv.new w5 28 N A5 n5 c5)
  generalize w5.alloc (.cells #[.int .i64 N, .slice A5 n5 c5] 28) = W5 at *
  clear qa qb
  have qa := HQ.out.c0; have qb := HQ.out.c1
  by_cases hl : l = []
  · obtain rfl : n = 0 := by rw [← HN.out, hl]; rfl
    have hnb : nthB l = false := by rw [hl]; rfl
    rw [hnb]
    go_wp2
    go_ret
    exact ⟨rfl, HB.out⟩
  have hft := first_take hl
  rw [hft.1] at HL5
  rw [hft.2.1, hft.2.2]
  have hn0 : 0 < n := by have := length_pos_of hl; rw [HN.out] at this; exact this
  have hn5 : n5 = n - 1 := by have := HL5.out.len; rw [List.length_drop, HN.out] at this; omega
  have HN5 := Lib.hid hn5
  have HPA : Hid (∀ i, 0 < i → i < n → (l.getD 0 i0).d ≠ (l.getD i i0).d) := Lib.hid (fun i h0 hi => (first_pair HS.out.2.2 i h0 (by rw [HN.out]; exact hi)).1)
  have HAH : Hid (∀ i, i < n → ¬ (l.getD 0 i0).p < (l.getD i i0).p ∧ ((l.getD i i0).p = (l.getD 0 i0).p → ¬ (l.getD i i0).t < (l.getD 0 i0).t)) := Lib.hid (fun i hi => first_ahead HS.out.2.2 i (by rw [HN.out]; exact hi))
  have HDR : Hid (∀ i, i + 1 < n → (l.drop 1).getD i i0 = l.getD (i + 1) i0) := Lib.hid (fun i hi => drop_get l i (by rw [HN.out]; exact hi))
  obtain ⟨xb, xo, rfl, hxl0, z0, z1, z2⟩ := HI.out.at_ 0 hn0
  have HX0 := Lib.hid hxl0
  have xa := X5.out.c0
  have xb1 := X5.out.c1
  clear hft hl hn5 hxl0
  generalize l.getD 0 i0 = y at HPA HAH z0 z1 z2 ⊢
  obtain ⟨yd, yp, yt⟩ := y
  simp only [Nat.zero_mul, Nat.add_zero] at z0 z1 z2
  go_upto_region 9 with (fail)
  go_loop [7, 8] (fun v i => ∃ j : Nat, j ≤ n ∧ i = .int .i64 j ∧ v = .int .i64 (if j = 0 then -1 else 0)) (fun _ i => ((n : Int) - intOf i).toNat)
  case atStart => exact ⟨0, by omega, rfl, rfl⟩
  case round =>
    obtain ⟨j, hj, rfl, rfl⟩ := hrel
    by_cases hlt : j < n
    · rcases Nat.eq_zero_or_pos j with rfl | h0
      · have hyy : (yd == yd) = true := by simp
        go_wp2
        go_round
        case rel => exact ⟨0 + 1, by omega, by go_num, rfl⟩
        case measure => simp [intOf]; omega
      · obtain ⟨b1, o1, hbo, hbl, f0, f1, f2⟩ := HI.out.at_ j hlt
        injection hbo with hbo
        injection hbo with hb1 hb2 _
        subst hb1 hb2
        have hne := HPA.out j h0 hlt
        generalize (l.getD j i0).d = D at f0 hne
        clear f1 f2
        have hyy : (D == yd) = false := by simp only [beq_eq_false_iff_ne]; exact fun h => hne h.symm
        have hj0 : ¬ j = 0 := by omega
        rw [if_neg hj0]
        go_wp2
        go_round
        case rel => exact ⟨j + 1, by omega, by go_num, by rw [if_neg (by omega)]⟩
        case measure => simp [intOf]; omega
    · obtain rfl : j = n := by omega
      rw [if_neg (show ¬ j = 0 by omega)]
      have hw : IntKind.i64.wrap ((j : Int) - 1) = (n5 : Int) := by have := HN5.out; rw [IntKind.wrap_i64]; omega
      have h55 : ((n5 : Int) != (n5 : Int)) = false := by simp
      have hNN : (N != N) = false := by simp
      go_upto_region 16 with (fail)
      go_loopw [9] (fun i wr => ∃ q : Nat, q ≤ j ∧ i = .int .i64 q ∧ Below W5.heap.size W5 wr) (fun i _ => ((j : Int) - intOf i).toNat)
      case atStart => exact ⟨0, by omega, rfl, Below.refl _ _⟩
      case round =>
        obtain ⟨q, hq, rfl, hb⟩ := hrel
        have HV := Lib.hid hb
        have ka := (HQ.out.keep hb).c0
        have kb := (HQ.out.keep hb).c1
        clear hb
        by_cases hlt2 : q < j
        · obtain ⟨b1, o1, hbo, hbl, f0, f1, f2⟩ := (HI.out.below HV.out).at_ q hlt2
          injection hbo with hbo
          injection hbo with hb1 hb2 _
          subst hb1 hb2
          have e1 := (HV.out.cell (p := ⟨xb, xo + 1, none⟩) HX0.out).trans z1
          have e2 := (HV.out.cell (p := ⟨xb, xo + 2, none⟩) HX0.out).trans z2
          have hah := HAH.out q hlt2
          generalize l.getD q i0 = x at f0 f1 f2 hah
          obtain ⟨d, p, t⟩ := x
          simp only at f0 f1 f2 hah
          have hp1 : decide (p > yp) = false := decide_eq_false (by omega)
          have hp2 : decide (yp < p) = false := decide_eq_false (by omega)
          have hq0 : (0 : Int) ≤ (q : Int) := by omega
          have hqn : (q : Int) < (j : Int) := by omega
          have hz0 : (0 : Int) < (j : Int) := by omega
          have HX1 := Lib.hid (Iv.new wr 52 ⟨d, p, t⟩)
          have HVA := Lib.hid (HV.out.alloc HV.out.size (.cells #[.int .i64 d, .int .i64 p, .int .i64 t] 52))
          go_upto_region 19 with (fail)
          generalize wr.alloc (.cells #[.int .i64 d, .int .i64 p, .int .i64 t] 52) = V at *
          clear ka kb f0 f1 f2
          have s19 := sk19 (HQ.out.keep HVA.out) HX1.out ((HVA.out.cell (p := ⟨xb, xo + 1, none⟩) HX0.out).trans z1) ((HVA.out.cell (p := ⟨xb, xo + 2, none⟩) HX0.out).trans z2)
          clear e1 e2
          cases hpe : (p == yp)
          · skip
            have hHeld0 : (fun w9 => (w9.cell? ⟨w.heap.size, 0, none⟩ = some (.int .i64 N) ∧ w9.cell? ⟨w.heap.size, 1, none⟩ = some (.slice (some ⟨xb, xo, none⟩) j c)) ∧ (w9.cell? ⟨wr.heap.size, 0, none⟩ = some (.int .i64 d) ∧ w9.cell? ⟨wr.heap.size, 1, none⟩ = some (.int .i64 p) ∧ w9.cell? ⟨wr.heap.size, 2, none⟩ = some (.int .i64 t)) ∧ w9.cell? ⟨xb, xo + 1, none⟩ = some (.int .i64 yp) ∧ w9.cell? ⟨xb, xo + 2, none⟩ = some (.int .i64 yt)) V.drew := s19
            refine wp_region_held_drew (S := fun w9 => (w9.cell? ⟨w.heap.size, 0, none⟩ = some (.int .i64 N) ∧ w9.cell? ⟨w.heap.size, 1, none⟩ = some (.slice (some ⟨xb, xo, none⟩) j c)) ∧ (w9.cell? ⟨wr.heap.size, 0, none⟩ = some (.int .i64 d) ∧ w9.cell? ⟨wr.heap.size, 1, none⟩ = some (.int .i64 p) ∧ w9.cell? ⟨wr.heap.size, 2, none⟩ = some (.int .i64 t)) ∧ w9.cell? ⟨xb, xo + 1, none⟩ = some (.int .i64 yp) ∧ w9.cell? ⟨xb, xo + 2, none⟩ = some (.int .i64 yt)) (by kernel_rfl) hHeld0 (fun hHeld => ?_)
            clear hHeld0
            refine wpAnyH_take (i := 0) (oi := { dst := some 87, op := Op.fieldAddr 52 (Operand.tmp 10) 1, type := 0, pos := "law.go:78", after := #[], guard := none }) (v := ?_) rfl (by kernel_rfl) (by kernel_rfl) (by kernel_rfl) (fun _ _ _ h => h) (Or.inl ⟨by kernel_rfl, ?_⟩) hHeld ?_
            rotate_left
            · intro w9 hSw; (try dsimp only at hSw); go_simp; try with_reducible rfl
            simp only [Act.put, List.setIfInBounds_toArray, List.set_cons_zero, List.set_cons_succ]
            refine wpAnyH_take (i := 1) (oi := { dst := some 88, op := Op.load 3 (Operand.tmp 87), type := 3, pos := "law.go:78", after := #[{ on := 0, ground := Ground.data }], guard := none }) (v := ?_) rfl (by kernel_rfl) (by kernel_rfl) (by kernel_rfl) (fun _ _ _ h => h) (Or.inl ⟨by kernel_rfl, ?_⟩) hHeld ?_
            rotate_left
            · intro w9 hSw; (try dsimp only at hSw); go_simp; try with_reducible rfl
            simp only [Act.put, List.setIfInBounds_toArray, List.set_cons_zero, List.set_cons_succ]
            refine wpAnyH_take (i := 2) (oi := { dst := some 89, op := Op.fieldAddr 24 (Operand.tmp 1) 1, type := 0, pos := "law.go:78", after := #[], guard := none }) (v := ?_) rfl (by kernel_rfl) (by kernel_rfl) (by kernel_rfl) (fun _ _ _ h => h) (Or.inl ⟨by kernel_rfl, ?_⟩) hHeld ?_
            rotate_left
            · intro w9 hSw; (try dsimp only at hSw); go_simp; try with_reducible rfl
            simp only [Act.put, List.setIfInBounds_toArray, List.set_cons_zero, List.set_cons_succ]
            refine wpAnyH_take (i := 3) (oi := { dst := some 90, op := Op.load 22 (Operand.tmp 89), type := 22, pos := "law.go:78", after := #[{ on := 2, ground := Ground.data }], guard := none }) (v := ?_) rfl (by kernel_rfl) (by kernel_rfl) (by kernel_rfl) (fun _ _ _ h => h) (Or.inl ⟨by kernel_rfl, ?_⟩) hHeld ?_
            rotate_left
            · intro w9 hSw; (try dsimp only at hSw); go_simp; try with_reducible rfl
            simp only [Act.put, List.setIfInBounds_toArray, List.set_cons_zero, List.set_cons_succ]
            refine wpAnyH_take (i := 4) (oi := { dst := some 91, op := Op.move (Operand.tmp 7), type := 3, pos := "law.go:78", after := #[], guard := none }) (v := ?_) rfl (by kernel_rfl) (by kernel_rfl) (by kernel_rfl) (fun _ _ _ h => h) (Or.inl ⟨by kernel_rfl, ?_⟩) hHeld ?_
            rotate_left
            · intro w9 hSw; (try dsimp only at hSw); go_simp; try with_reducible rfl
            simp only [Act.put, List.setIfInBounds_toArray, List.set_cons_zero, List.set_cons_succ]
            refine wpAnyH_take (i := 5) (oi := { dst := some 92, op := Op.indexAddr 22 (Operand.tmp 90) (Operand.tmp 91), type := 0, pos := "law.go:78", after := #[{ on := 3, ground := Ground.data }, { on := 4, ground := Ground.data }], guard := none }) (v := ?_) rfl (by kernel_rfl) (by kernel_rfl) (by kernel_rfl) (fun _ _ _ h => h) (Or.inl ⟨by kernel_rfl, ?_⟩) hHeld ?_
            rotate_left
            · intro w9 hSw; (try dsimp only at hSw); go_simp; try with_reducible rfl
            simp only [Act.put, List.setIfInBounds_toArray, List.set_cons_zero, List.set_cons_succ]
            refine wpAnyH_take (i := 6) (oi := { dst := some 93, op := Op.fieldAddr 52 (Operand.tmp 92) 1, type := 0, pos := "law.go:78", after := #[{ on := 5, ground := Ground.data }], guard := none }) (v := ?_) rfl (by kernel_rfl) (by kernel_rfl) (by kernel_rfl) (fun _ _ _ h => h) (Or.inl ⟨by kernel_rfl, ?_⟩) hHeld ?_
            rotate_left
            · intro w9 hSw; (try dsimp only at hSw); go_simp; try with_reducible rfl
            simp only [Act.put, List.setIfInBounds_toArray, List.set_cons_zero, List.set_cons_succ]
            refine wpAnyH_take (i := 7) (oi := { dst := some 94, op := Op.load 3 (Operand.tmp 93), type := 3, pos := "law.go:78", after := #[{ on := 6, ground := Ground.data }], guard := none }) (v := ?_) rfl (by kernel_rfl) (by kernel_rfl) (by kernel_rfl) (fun _ _ _ h => h) (Or.inl ⟨by kernel_rfl, ?_⟩) hHeld ?_
            rotate_left
            · intro w9 hSw; (try dsimp only at hSw); go_simp; try with_reducible rfl
            simp only [Act.put, List.setIfInBounds_toArray, List.set_cons_zero, List.set_cons_succ]
            refine wpAnyH_take (i := 8) (oi := { dst := some 95, op := Op.binOp BinOp.gtr 3 (Operand.tmp 88) (Operand.tmp 94) 3, type := 4, pos := "law.go:78", after := #[{ on := 1, ground := Ground.data }, { on := 7, ground := Ground.data }], guard := none }) (v := ?_) rfl (by kernel_rfl) (by kernel_rfl) (by kernel_rfl) (fun _ _ _ h => h) (Or.inl ⟨by kernel_rfl, ?_⟩) hHeld ?_
            rotate_left
            · intro w9 hSw; (try dsimp only at hSw); go_simp; try with_reducible rfl
            simp only [Act.put, List.setIfInBounds_toArray, List.set_cons_zero, List.set_cons_succ]
            refine wpAnyH_take (i := 9) (oi := { dst := some 96, op := Op.move (Operand.tmp 95), type := 4, pos := "law.go:78", after := #[{ on := 8, ground := Ground.data }], guard := none }) (v := ?_) rfl (by kernel_rfl) (by kernel_rfl) (by kernel_rfl) (fun _ _ _ h => h) (Or.inl ⟨by kernel_rfl, ?_⟩) hHeld ?_
            rotate_left
            · intro w9 hSw; (try dsimp only at hSw); go_simp; try with_reducible rfl
            simp only [Act.put, List.setIfInBounds_toArray, List.set_cons_zero, List.set_cons_succ]
            refine wpAnyH_take (i := 10) (oi := { dst := some 97, op := Op.fieldAddr 52 (Operand.tmp 10) 1, type := 0, pos := "law.go:78", after := #[{ on := 9, ground := Ground.guard }], guard := some (9, false) }) (v := ?_) rfl (by kernel_rfl) (by kernel_rfl) (by kernel_rfl) (fun _ _ _ h => h) (Or.inl ⟨by kernel_rfl, ?_⟩) hHeld ?_
            rotate_left
            · intro w9 hSw; (try dsimp only at hSw); go_simp; try with_reducible rfl
            simp only [Act.put, List.setIfInBounds_toArray, List.set_cons_zero, List.set_cons_succ]
            refine wpAnyH_take (i := 11) (oi := { dst := some 98, op := Op.load 3 (Operand.tmp 97), type := 3, pos := "law.go:78", after := #[{ on := 10, ground := Ground.data }, { on := 9, ground := Ground.guard }], guard := some (9, false) }) (v := ?_) rfl (by kernel_rfl) (by kernel_rfl) (by kernel_rfl) (fun _ _ _ h => h) (Or.inl ⟨by kernel_rfl, ?_⟩) hHeld ?_
            rotate_left
            · intro w9 hSw; (try dsimp only at hSw); go_simp; try with_reducible rfl
            simp only [Act.put, List.setIfInBounds_toArray, List.set_cons_zero, List.set_cons_succ]
            refine wpAnyH_take (i := 12) (oi := { dst := some 99, op := Op.fieldAddr 24 (Operand.tmp 1) 1, type := 0, pos := "law.go:78", after := #[{ on := 9, ground := Ground.guard }], guard := some (9, false) }) (v := ?_) rfl (by kernel_rfl) (by kernel_rfl) (by kernel_rfl) (fun _ _ _ h => h) (Or.inl ⟨by kernel_rfl, ?_⟩) hHeld ?_
            rotate_left
            · intro w9 hSw; (try dsimp only at hSw); go_simp; try with_reducible rfl
            simp only [Act.put, List.setIfInBounds_toArray, List.set_cons_zero, List.set_cons_succ]
            refine wpAnyH_take (i := 13) (oi := { dst := some 100, op := Op.load 22 (Operand.tmp 99), type := 22, pos := "law.go:78", after := #[{ on := 12, ground := Ground.data }, { on := 9, ground := Ground.guard }], guard := some (9, false) }) (v := ?_) rfl (by kernel_rfl) (by kernel_rfl) (by kernel_rfl) (fun _ _ _ h => h) (Or.inl ⟨by kernel_rfl, ?_⟩) hHeld ?_
            rotate_left
            · intro w9 hSw; (try dsimp only at hSw); go_simp; try with_reducible rfl
            simp only [Act.put, List.setIfInBounds_toArray, List.set_cons_zero, List.set_cons_succ]
            refine wpAnyH_take (i := 14) (oi := { dst := some 101, op := Op.move (Operand.tmp 7), type := 3, pos := "law.go:78", after := #[{ on := 9, ground := Ground.guard }], guard := some (9, false) }) (v := ?_) rfl (by kernel_rfl) (by kernel_rfl) (by kernel_rfl) (fun _ _ _ h => h) (Or.inl ⟨by kernel_rfl, ?_⟩) hHeld ?_
            rotate_left
            · intro w9 hSw; (try dsimp only at hSw); go_simp; try with_reducible rfl
            simp only [Act.put, List.setIfInBounds_toArray, List.set_cons_zero, List.set_cons_succ]
            refine wpAnyH_take (i := 15) (oi := { dst := some 102, op := Op.indexAddr 22 (Operand.tmp 100) (Operand.tmp 101), type := 0, pos := "law.go:78", after := #[{ on := 13, ground := Ground.data }, { on := 14, ground := Ground.data }, { on := 9, ground := Ground.guard }], guard := some (9, false) }) (v := ?_) rfl (by kernel_rfl) (by kernel_rfl) (by kernel_rfl) (fun _ _ _ h => h) (Or.inl ⟨by kernel_rfl, ?_⟩) hHeld ?_
            rotate_left
            · intro w9 hSw; (try dsimp only at hSw); go_simp; try with_reducible rfl
            simp only [Act.put, List.setIfInBounds_toArray, List.set_cons_zero, List.set_cons_succ]
            refine wpAnyH_take (i := 16) (oi := { dst := some 103, op := Op.fieldAddr 52 (Operand.tmp 102) 1, type := 0, pos := "law.go:78", after := #[{ on := 15, ground := Ground.data }, { on := 9, ground := Ground.guard }], guard := some (9, false) }) (v := ?_) rfl (by kernel_rfl) (by kernel_rfl) (by kernel_rfl) (fun _ _ _ h => h) (Or.inl ⟨by kernel_rfl, ?_⟩) hHeld ?_
            rotate_left
            · intro w9 hSw; (try dsimp only at hSw); go_simp; try with_reducible rfl
            simp only [Act.put, List.setIfInBounds_toArray, List.set_cons_zero, List.set_cons_succ]
            refine wpAnyH_take (i := 17) (oi := { dst := some 104, op := Op.load 3 (Operand.tmp 103), type := 3, pos := "law.go:78", after := #[{ on := 16, ground := Ground.data }, { on := 9, ground := Ground.guard }], guard := some (9, false) }) (v := ?_) rfl (by kernel_rfl) (by kernel_rfl) (by kernel_rfl) (fun _ _ _ h => h) (Or.inl ⟨by kernel_rfl, ?_⟩) hHeld ?_
            rotate_left
            · intro w9 hSw; (try dsimp only at hSw); go_simp; try with_reducible rfl
            simp only [Act.put, List.setIfInBounds_toArray, List.set_cons_zero, List.set_cons_succ]
            refine wpAnyH_take (i := 18) (oi := { dst := some 105, op := Op.binOp BinOp.eql 3 (Operand.tmp 98) (Operand.tmp 104) 3, type := 4, pos := "law.go:78", after := #[{ on := 11, ground := Ground.data }, { on := 17, ground := Ground.data }, { on := 9, ground := Ground.guard }], guard := some (9, false) }) (v := ?_) rfl (by kernel_rfl) (by kernel_rfl) (by kernel_rfl) (fun _ _ _ h => h) (Or.inl ⟨by kernel_rfl, ?_⟩) hHeld ?_
            rotate_left
            · intro w9 hSw; (try dsimp only at hSw); go_simp; try with_reducible rfl
            simp only [Act.put, List.setIfInBounds_toArray, List.set_cons_zero, List.set_cons_succ]
            refine wpAnyH_take (i := 19) (oi := { dst := some 106, op := Op.move (Operand.tmp 105), type := 4, pos := "law.go:78", after := #[{ on := 18, ground := Ground.data }, { on := 9, ground := Ground.chain }, { on := 9, ground := Ground.guard }], guard := some (9, false) }) (v := ?_) rfl (by kernel_rfl) (by kernel_rfl) (by kernel_rfl) (fun _ _ _ h => h) (Or.inl ⟨by kernel_rfl, ?_⟩) hHeld ?_
            rotate_left
            · intro w9 hSw; (try dsimp only at hSw); go_simp; try with_reducible rfl
            simp only [Act.put, List.setIfInBounds_toArray, List.set_cons_zero, List.set_cons_succ]
            refine wpAnyH_take (i := 20) (oi := { dst := some 107, op := Op.fieldAddr 52 (Operand.tmp 10) 2, type := 0, pos := "law.go:78", after := #[{ on := 19, ground := Ground.guard }], guard := some (19, true) }) (v := undef) rfl (by kernel_rfl) (by kernel_rfl) (by kernel_rfl) (fun _ _ _ h => h) (Or.inr ⟨by kernel_rfl, rfl⟩) hHeld ?_
            simp only [Act.put, List.setIfInBounds_toArray, List.set_cons_zero, List.set_cons_succ]
            refine wpAnyH_take (i := 21) (oi := { dst := some 108, op := Op.load 3 (Operand.tmp 107), type := 3, pos := "law.go:78", after := #[{ on := 20, ground := Ground.data }, { on := 19, ground := Ground.guard }], guard := some (19, true) }) (v := undef) rfl (by kernel_rfl) (by kernel_rfl) (by kernel_rfl) (fun _ _ _ h => h) (Or.inr ⟨by kernel_rfl, rfl⟩) hHeld ?_
            simp only [Act.put, List.setIfInBounds_toArray, List.set_cons_zero, List.set_cons_succ]
            refine wpAnyH_take (i := 22) (oi := { dst := some 109, op := Op.fieldAddr 24 (Operand.tmp 1) 1, type := 0, pos := "law.go:78", after := #[{ on := 19, ground := Ground.guard }], guard := some (19, true) }) (v := undef) rfl (by kernel_rfl) (by kernel_rfl) (by kernel_rfl) (fun _ _ _ h => h) (Or.inr ⟨by kernel_rfl, rfl⟩) hHeld ?_
            simp only [Act.put, List.setIfInBounds_toArray, List.set_cons_zero, List.set_cons_succ]
            refine wpAnyH_take (i := 23) (oi := { dst := some 110, op := Op.load 22 (Operand.tmp 109), type := 22, pos := "law.go:78", after := #[{ on := 22, ground := Ground.data }, { on := 19, ground := Ground.guard }], guard := some (19, true) }) (v := undef) rfl (by kernel_rfl) (by kernel_rfl) (by kernel_rfl) (fun _ _ _ h => h) (Or.inr ⟨by kernel_rfl, rfl⟩) hHeld ?_
            simp only [Act.put, List.setIfInBounds_toArray, List.set_cons_zero, List.set_cons_succ]
            refine wpAnyH_take (i := 24) (oi := { dst := some 111, op := Op.move (Operand.tmp 7), type := 3, pos := "law.go:78", after := #[{ on := 19, ground := Ground.guard }], guard := some (19, true) }) (v := undef) rfl (by kernel_rfl) (by kernel_rfl) (by kernel_rfl) (fun _ _ _ h => h) (Or.inr ⟨by kernel_rfl, rfl⟩) hHeld ?_
            simp only [Act.put, List.setIfInBounds_toArray, List.set_cons_zero, List.set_cons_succ]
            refine wpAnyH_take (i := 25) (oi := { dst := some 112, op := Op.indexAddr 22 (Operand.tmp 110) (Operand.tmp 111), type := 0, pos := "law.go:78", after := #[{ on := 23, ground := Ground.data }, { on := 24, ground := Ground.data }, { on := 19, ground := Ground.guard }], guard := some (19, true) }) (v := undef) rfl (by kernel_rfl) (by kernel_rfl) (by kernel_rfl) (fun _ _ _ h => h) (Or.inr ⟨by kernel_rfl, rfl⟩) hHeld ?_
            simp only [Act.put, List.setIfInBounds_toArray, List.set_cons_zero, List.set_cons_succ]
            refine wpAnyH_take (i := 26) (oi := { dst := some 113, op := Op.fieldAddr 52 (Operand.tmp 112) 2, type := 0, pos := "law.go:78", after := #[{ on := 25, ground := Ground.data }, { on := 19, ground := Ground.guard }], guard := some (19, true) }) (v := undef) rfl (by kernel_rfl) (by kernel_rfl) (by kernel_rfl) (fun _ _ _ h => h) (Or.inr ⟨by kernel_rfl, rfl⟩) hHeld ?_
            simp only [Act.put, List.setIfInBounds_toArray, List.set_cons_zero, List.set_cons_succ]
            refine wpAnyH_take (i := 27) (oi := { dst := some 114, op := Op.load 3 (Operand.tmp 113), type := 3, pos := "law.go:78", after := #[{ on := 26, ground := Ground.data }, { on := 19, ground := Ground.guard }], guard := some (19, true) }) (v := undef) rfl (by kernel_rfl) (by kernel_rfl) (by kernel_rfl) (fun _ _ _ h => h) (Or.inr ⟨by kernel_rfl, rfl⟩) hHeld ?_
            simp only [Act.put, List.setIfInBounds_toArray, List.set_cons_zero, List.set_cons_succ]
            refine wpAnyH_take (i := 28) (oi := { dst := some 115, op := Op.binOp BinOp.lss 3 (Operand.tmp 108) (Operand.tmp 114) 3, type := 4, pos := "law.go:78", after := #[{ on := 21, ground := Ground.data }, { on := 27, ground := Ground.data }, { on := 19, ground := Ground.guard }], guard := some (19, true) }) (v := undef) rfl (by kernel_rfl) (by kernel_rfl) (by kernel_rfl) (fun _ _ _ h => h) (Or.inr ⟨by kernel_rfl, rfl⟩) hHeld ?_
            simp only [Act.put, List.setIfInBounds_toArray, List.set_cons_zero, List.set_cons_succ]
            refine wpAnyH_take (i := 29) (oi := { dst := some 116, op := Op.pick (Operand.tmp 106) (Operand.tmp 115) (Operand.const (Value.bool false)), type := 4, pos := "law.go:78", after := #[{ on := 19, ground := Ground.data }, { on := 28, ground := Ground.data }, { on := 9, ground := Ground.guard }], guard := some (9, false) }) (v := ?_) rfl (by kernel_rfl) (by kernel_rfl) (by kernel_rfl) (fun _ _ _ h => h) (Or.inl ⟨by kernel_rfl, ?_⟩) hHeld ?_
            rotate_left
            · intro w9 hSw; (try dsimp only at hSw); go_simp; try with_reducible rfl
            simp only [Act.put, List.setIfInBounds_toArray, List.set_cons_zero, List.set_cons_succ]
            refine wpAnyH_take (i := 30) (oi := { dst := some 117, op := Op.pick (Operand.tmp 96) (Operand.const (Value.bool true)) (Operand.tmp 116), type := 4, pos := "law.go:78", after := #[{ on := 9, ground := Ground.data }, { on := 29, ground := Ground.data }], guard := none }) (v := ?_) rfl (by kernel_rfl) (by kernel_rfl) (by kernel_rfl) (fun _ _ _ h => h) (Or.inl ⟨by kernel_rfl, ?_⟩) hHeld ?_
            rotate_left
            · intro w9 hSw; (try dsimp only at hSw); go_simp; try with_reducible rfl
            simp only [Act.put, List.setIfInBounds_toArray, List.set_cons_zero, List.set_cons_succ]
            refine wpAnyH_done (by kernel_rfl) ?_ _
            go_wp2
            go_roundw
            case rel => exact ⟨q + 1, by omega, by go_num, HVA.out.drew⟩
            case measure => simp [intOf]; omega
          · have hpe2 : p = yp := by simpa using hpe
            have ht1 : decide (t < yt) = false := decide_eq_false (by have := hah.2 hpe2; omega)
            clear hpe2
            have hHeld0 : (fun w9 => (w9.cell? ⟨w.heap.size, 0, none⟩ = some (.int .i64 N) ∧ w9.cell? ⟨w.heap.size, 1, none⟩ = some (.slice (some ⟨xb, xo, none⟩) j c)) ∧ (w9.cell? ⟨wr.heap.size, 0, none⟩ = some (.int .i64 d) ∧ w9.cell? ⟨wr.heap.size, 1, none⟩ = some (.int .i64 p) ∧ w9.cell? ⟨wr.heap.size, 2, none⟩ = some (.int .i64 t)) ∧ w9.cell? ⟨xb, xo + 1, none⟩ = some (.int .i64 yp) ∧ w9.cell? ⟨xb, xo + 2, none⟩ = some (.int .i64 yt)) V.drew := s19
            refine wp_region_held_drew (S := fun w9 => (w9.cell? ⟨w.heap.size, 0, none⟩ = some (.int .i64 N) ∧ w9.cell? ⟨w.heap.size, 1, none⟩ = some (.slice (some ⟨xb, xo, none⟩) j c)) ∧ (w9.cell? ⟨wr.heap.size, 0, none⟩ = some (.int .i64 d) ∧ w9.cell? ⟨wr.heap.size, 1, none⟩ = some (.int .i64 p) ∧ w9.cell? ⟨wr.heap.size, 2, none⟩ = some (.int .i64 t)) ∧ w9.cell? ⟨xb, xo + 1, none⟩ = some (.int .i64 yp) ∧ w9.cell? ⟨xb, xo + 2, none⟩ = some (.int .i64 yt)) (by kernel_rfl) hHeld0 (fun hHeld => ?_)
            clear hHeld0
            refine wpAnyH_take (i := 0) (oi := { dst := some 87, op := Op.fieldAddr 52 (Operand.tmp 10) 1, type := 0, pos := "law.go:78", after := #[], guard := none }) (v := ?_) rfl (by kernel_rfl) (by kernel_rfl) (by kernel_rfl) (fun _ _ _ h => h) (Or.inl ⟨by kernel_rfl, ?_⟩) hHeld ?_
            rotate_left
            · intro w9 hSw; (try dsimp only at hSw); go_simp; try with_reducible rfl
            simp only [Act.put, List.setIfInBounds_toArray, List.set_cons_zero, List.set_cons_succ]
            refine wpAnyH_take (i := 1) (oi := { dst := some 88, op := Op.load 3 (Operand.tmp 87), type := 3, pos := "law.go:78", after := #[{ on := 0, ground := Ground.data }], guard := none }) (v := ?_) rfl (by kernel_rfl) (by kernel_rfl) (by kernel_rfl) (fun _ _ _ h => h) (Or.inl ⟨by kernel_rfl, ?_⟩) hHeld ?_
            rotate_left
            · intro w9 hSw; (try dsimp only at hSw); go_simp; try with_reducible rfl
            simp only [Act.put, List.setIfInBounds_toArray, List.set_cons_zero, List.set_cons_succ]
            refine wpAnyH_take (i := 2) (oi := { dst := some 89, op := Op.fieldAddr 24 (Operand.tmp 1) 1, type := 0, pos := "law.go:78", after := #[], guard := none }) (v := ?_) rfl (by kernel_rfl) (by kernel_rfl) (by kernel_rfl) (fun _ _ _ h => h) (Or.inl ⟨by kernel_rfl, ?_⟩) hHeld ?_
            rotate_left
            · intro w9 hSw; (try dsimp only at hSw); go_simp; try with_reducible rfl
            simp only [Act.put, List.setIfInBounds_toArray, List.set_cons_zero, List.set_cons_succ]
            refine wpAnyH_take (i := 3) (oi := { dst := some 90, op := Op.load 22 (Operand.tmp 89), type := 22, pos := "law.go:78", after := #[{ on := 2, ground := Ground.data }], guard := none }) (v := ?_) rfl (by kernel_rfl) (by kernel_rfl) (by kernel_rfl) (fun _ _ _ h => h) (Or.inl ⟨by kernel_rfl, ?_⟩) hHeld ?_
            rotate_left
            · intro w9 hSw; (try dsimp only at hSw); go_simp; try with_reducible rfl
            simp only [Act.put, List.setIfInBounds_toArray, List.set_cons_zero, List.set_cons_succ]
            refine wpAnyH_take (i := 4) (oi := { dst := some 91, op := Op.move (Operand.tmp 7), type := 3, pos := "law.go:78", after := #[], guard := none }) (v := ?_) rfl (by kernel_rfl) (by kernel_rfl) (by kernel_rfl) (fun _ _ _ h => h) (Or.inl ⟨by kernel_rfl, ?_⟩) hHeld ?_
            rotate_left
            · intro w9 hSw; (try dsimp only at hSw); go_simp; try with_reducible rfl
            simp only [Act.put, List.setIfInBounds_toArray, List.set_cons_zero, List.set_cons_succ]
            refine wpAnyH_take (i := 5) (oi := { dst := some 92, op := Op.indexAddr 22 (Operand.tmp 90) (Operand.tmp 91), type := 0, pos := "law.go:78", after := #[{ on := 3, ground := Ground.data }, { on := 4, ground := Ground.data }], guard := none }) (v := ?_) rfl (by kernel_rfl) (by kernel_rfl) (by kernel_rfl) (fun _ _ _ h => h) (Or.inl ⟨by kernel_rfl, ?_⟩) hHeld ?_
            rotate_left
            · intro w9 hSw; (try dsimp only at hSw); go_simp; try with_reducible rfl
            simp only [Act.put, List.setIfInBounds_toArray, List.set_cons_zero, List.set_cons_succ]
            refine wpAnyH_take (i := 6) (oi := { dst := some 93, op := Op.fieldAddr 52 (Operand.tmp 92) 1, type := 0, pos := "law.go:78", after := #[{ on := 5, ground := Ground.data }], guard := none }) (v := ?_) rfl (by kernel_rfl) (by kernel_rfl) (by kernel_rfl) (fun _ _ _ h => h) (Or.inl ⟨by kernel_rfl, ?_⟩) hHeld ?_
            rotate_left
            · intro w9 hSw; (try dsimp only at hSw); go_simp; try with_reducible rfl
            simp only [Act.put, List.setIfInBounds_toArray, List.set_cons_zero, List.set_cons_succ]
            refine wpAnyH_take (i := 7) (oi := { dst := some 94, op := Op.load 3 (Operand.tmp 93), type := 3, pos := "law.go:78", after := #[{ on := 6, ground := Ground.data }], guard := none }) (v := ?_) rfl (by kernel_rfl) (by kernel_rfl) (by kernel_rfl) (fun _ _ _ h => h) (Or.inl ⟨by kernel_rfl, ?_⟩) hHeld ?_
            rotate_left
            · intro w9 hSw; (try dsimp only at hSw); go_simp; try with_reducible rfl
            simp only [Act.put, List.setIfInBounds_toArray, List.set_cons_zero, List.set_cons_succ]
            refine wpAnyH_take (i := 8) (oi := { dst := some 95, op := Op.binOp BinOp.gtr 3 (Operand.tmp 88) (Operand.tmp 94) 3, type := 4, pos := "law.go:78", after := #[{ on := 1, ground := Ground.data }, { on := 7, ground := Ground.data }], guard := none }) (v := ?_) rfl (by kernel_rfl) (by kernel_rfl) (by kernel_rfl) (fun _ _ _ h => h) (Or.inl ⟨by kernel_rfl, ?_⟩) hHeld ?_
            rotate_left
            · intro w9 hSw; (try dsimp only at hSw); go_simp; try with_reducible rfl
            simp only [Act.put, List.setIfInBounds_toArray, List.set_cons_zero, List.set_cons_succ]
            refine wpAnyH_take (i := 9) (oi := { dst := some 96, op := Op.move (Operand.tmp 95), type := 4, pos := "law.go:78", after := #[{ on := 8, ground := Ground.data }], guard := none }) (v := ?_) rfl (by kernel_rfl) (by kernel_rfl) (by kernel_rfl) (fun _ _ _ h => h) (Or.inl ⟨by kernel_rfl, ?_⟩) hHeld ?_
            rotate_left
            · intro w9 hSw; (try dsimp only at hSw); go_simp; try with_reducible rfl
            simp only [Act.put, List.setIfInBounds_toArray, List.set_cons_zero, List.set_cons_succ]
            refine wpAnyH_take (i := 10) (oi := { dst := some 97, op := Op.fieldAddr 52 (Operand.tmp 10) 1, type := 0, pos := "law.go:78", after := #[{ on := 9, ground := Ground.guard }], guard := some (9, false) }) (v := ?_) rfl (by kernel_rfl) (by kernel_rfl) (by kernel_rfl) (fun _ _ _ h => h) (Or.inl ⟨by kernel_rfl, ?_⟩) hHeld ?_
            rotate_left
            · intro w9 hSw; (try dsimp only at hSw); go_simp; try with_reducible rfl
            simp only [Act.put, List.setIfInBounds_toArray, List.set_cons_zero, List.set_cons_succ]
            refine wpAnyH_take (i := 11) (oi := { dst := some 98, op := Op.load 3 (Operand.tmp 97), type := 3, pos := "law.go:78", after := #[{ on := 10, ground := Ground.data }, { on := 9, ground := Ground.guard }], guard := some (9, false) }) (v := ?_) rfl (by kernel_rfl) (by kernel_rfl) (by kernel_rfl) (fun _ _ _ h => h) (Or.inl ⟨by kernel_rfl, ?_⟩) hHeld ?_
            rotate_left
            · intro w9 hSw; (try dsimp only at hSw); go_simp; try with_reducible rfl
            simp only [Act.put, List.setIfInBounds_toArray, List.set_cons_zero, List.set_cons_succ]
            refine wpAnyH_take (i := 12) (oi := { dst := some 99, op := Op.fieldAddr 24 (Operand.tmp 1) 1, type := 0, pos := "law.go:78", after := #[{ on := 9, ground := Ground.guard }], guard := some (9, false) }) (v := ?_) rfl (by kernel_rfl) (by kernel_rfl) (by kernel_rfl) (fun _ _ _ h => h) (Or.inl ⟨by kernel_rfl, ?_⟩) hHeld ?_
            rotate_left
            · intro w9 hSw; (try dsimp only at hSw); go_simp; try with_reducible rfl
            simp only [Act.put, List.setIfInBounds_toArray, List.set_cons_zero, List.set_cons_succ]
            refine wpAnyH_take (i := 13) (oi := { dst := some 100, op := Op.load 22 (Operand.tmp 99), type := 22, pos := "law.go:78", after := #[{ on := 12, ground := Ground.data }, { on := 9, ground := Ground.guard }], guard := some (9, false) }) (v := ?_) rfl (by kernel_rfl) (by kernel_rfl) (by kernel_rfl) (fun _ _ _ h => h) (Or.inl ⟨by kernel_rfl, ?_⟩) hHeld ?_
            rotate_left
            · intro w9 hSw; (try dsimp only at hSw); go_simp; try with_reducible rfl
            simp only [Act.put, List.setIfInBounds_toArray, List.set_cons_zero, List.set_cons_succ]
            refine wpAnyH_take (i := 14) (oi := { dst := some 101, op := Op.move (Operand.tmp 7), type := 3, pos := "law.go:78", after := #[{ on := 9, ground := Ground.guard }], guard := some (9, false) }) (v := ?_) rfl (by kernel_rfl) (by kernel_rfl) (by kernel_rfl) (fun _ _ _ h => h) (Or.inl ⟨by kernel_rfl, ?_⟩) hHeld ?_
            rotate_left
            · intro w9 hSw; (try dsimp only at hSw); go_simp; try with_reducible rfl
            simp only [Act.put, List.setIfInBounds_toArray, List.set_cons_zero, List.set_cons_succ]
            refine wpAnyH_take (i := 15) (oi := { dst := some 102, op := Op.indexAddr 22 (Operand.tmp 100) (Operand.tmp 101), type := 0, pos := "law.go:78", after := #[{ on := 13, ground := Ground.data }, { on := 14, ground := Ground.data }, { on := 9, ground := Ground.guard }], guard := some (9, false) }) (v := ?_) rfl (by kernel_rfl) (by kernel_rfl) (by kernel_rfl) (fun _ _ _ h => h) (Or.inl ⟨by kernel_rfl, ?_⟩) hHeld ?_
            rotate_left
            · intro w9 hSw; (try dsimp only at hSw); go_simp; try with_reducible rfl
            simp only [Act.put, List.setIfInBounds_toArray, List.set_cons_zero, List.set_cons_succ]
            refine wpAnyH_take (i := 16) (oi := { dst := some 103, op := Op.fieldAddr 52 (Operand.tmp 102) 1, type := 0, pos := "law.go:78", after := #[{ on := 15, ground := Ground.data }, { on := 9, ground := Ground.guard }], guard := some (9, false) }) (v := ?_) rfl (by kernel_rfl) (by kernel_rfl) (by kernel_rfl) (fun _ _ _ h => h) (Or.inl ⟨by kernel_rfl, ?_⟩) hHeld ?_
            rotate_left
            · intro w9 hSw; (try dsimp only at hSw); go_simp; try with_reducible rfl
            simp only [Act.put, List.setIfInBounds_toArray, List.set_cons_zero, List.set_cons_succ]
            refine wpAnyH_take (i := 17) (oi := { dst := some 104, op := Op.load 3 (Operand.tmp 103), type := 3, pos := "law.go:78", after := #[{ on := 16, ground := Ground.data }, { on := 9, ground := Ground.guard }], guard := some (9, false) }) (v := ?_) rfl (by kernel_rfl) (by kernel_rfl) (by kernel_rfl) (fun _ _ _ h => h) (Or.inl ⟨by kernel_rfl, ?_⟩) hHeld ?_
            rotate_left
            · intro w9 hSw; (try dsimp only at hSw); go_simp; try with_reducible rfl
            simp only [Act.put, List.setIfInBounds_toArray, List.set_cons_zero, List.set_cons_succ]
            refine wpAnyH_take (i := 18) (oi := { dst := some 105, op := Op.binOp BinOp.eql 3 (Operand.tmp 98) (Operand.tmp 104) 3, type := 4, pos := "law.go:78", after := #[{ on := 11, ground := Ground.data }, { on := 17, ground := Ground.data }, { on := 9, ground := Ground.guard }], guard := some (9, false) }) (v := ?_) rfl (by kernel_rfl) (by kernel_rfl) (by kernel_rfl) (fun _ _ _ h => h) (Or.inl ⟨by kernel_rfl, ?_⟩) hHeld ?_
            rotate_left
            · intro w9 hSw; (try dsimp only at hSw); go_simp; try with_reducible rfl
            simp only [Act.put, List.setIfInBounds_toArray, List.set_cons_zero, List.set_cons_succ]
            refine wpAnyH_take (i := 19) (oi := { dst := some 106, op := Op.move (Operand.tmp 105), type := 4, pos := "law.go:78", after := #[{ on := 18, ground := Ground.data }, { on := 9, ground := Ground.chain }, { on := 9, ground := Ground.guard }], guard := some (9, false) }) (v := ?_) rfl (by kernel_rfl) (by kernel_rfl) (by kernel_rfl) (fun _ _ _ h => h) (Or.inl ⟨by kernel_rfl, ?_⟩) hHeld ?_
            rotate_left
            · intro w9 hSw; (try dsimp only at hSw); go_simp; try with_reducible rfl
            simp only [Act.put, List.setIfInBounds_toArray, List.set_cons_zero, List.set_cons_succ]
            refine wpAnyH_take (i := 20) (oi := { dst := some 107, op := Op.fieldAddr 52 (Operand.tmp 10) 2, type := 0, pos := "law.go:78", after := #[{ on := 19, ground := Ground.guard }], guard := some (19, true) }) (v := ?_) rfl (by kernel_rfl) (by kernel_rfl) (by kernel_rfl) (fun _ _ _ h => h) (Or.inl ⟨by kernel_rfl, ?_⟩) hHeld ?_
            rotate_left
            · intro w9 hSw; (try dsimp only at hSw); go_simp; try with_reducible rfl
            simp only [Act.put, List.setIfInBounds_toArray, List.set_cons_zero, List.set_cons_succ]
            refine wpAnyH_take (i := 21) (oi := { dst := some 108, op := Op.load 3 (Operand.tmp 107), type := 3, pos := "law.go:78", after := #[{ on := 20, ground := Ground.data }, { on := 19, ground := Ground.guard }], guard := some (19, true) }) (v := ?_) rfl (by kernel_rfl) (by kernel_rfl) (by kernel_rfl) (fun _ _ _ h => h) (Or.inl ⟨by kernel_rfl, ?_⟩) hHeld ?_
            rotate_left
            · intro w9 hSw; (try dsimp only at hSw); go_simp; try with_reducible rfl
            simp only [Act.put, List.setIfInBounds_toArray, List.set_cons_zero, List.set_cons_succ]
            refine wpAnyH_take (i := 22) (oi := { dst := some 109, op := Op.fieldAddr 24 (Operand.tmp 1) 1, type := 0, pos := "law.go:78", after := #[{ on := 19, ground := Ground.guard }], guard := some (19, true) }) (v := ?_) rfl (by kernel_rfl) (by kernel_rfl) (by kernel_rfl) (fun _ _ _ h => h) (Or.inl ⟨by kernel_rfl, ?_⟩) hHeld ?_
            rotate_left
            · intro w9 hSw; (try dsimp only at hSw); go_simp; try with_reducible rfl
            simp only [Act.put, List.setIfInBounds_toArray, List.set_cons_zero, List.set_cons_succ]
            refine wpAnyH_take (i := 23) (oi := { dst := some 110, op := Op.load 22 (Operand.tmp 109), type := 22, pos := "law.go:78", after := #[{ on := 22, ground := Ground.data }, { on := 19, ground := Ground.guard }], guard := some (19, true) }) (v := ?_) rfl (by kernel_rfl) (by kernel_rfl) (by kernel_rfl) (fun _ _ _ h => h) (Or.inl ⟨by kernel_rfl, ?_⟩) hHeld ?_
            rotate_left
            · intro w9 hSw; (try dsimp only at hSw); go_simp; try with_reducible rfl
            simp only [Act.put, List.setIfInBounds_toArray, List.set_cons_zero, List.set_cons_succ]
            refine wpAnyH_take (i := 24) (oi := { dst := some 111, op := Op.move (Operand.tmp 7), type := 3, pos := "law.go:78", after := #[{ on := 19, ground := Ground.guard }], guard := some (19, true) }) (v := ?_) rfl (by kernel_rfl) (by kernel_rfl) (by kernel_rfl) (fun _ _ _ h => h) (Or.inl ⟨by kernel_rfl, ?_⟩) hHeld ?_
            rotate_left
            · intro w9 hSw; (try dsimp only at hSw); go_simp; try with_reducible rfl
            simp only [Act.put, List.setIfInBounds_toArray, List.set_cons_zero, List.set_cons_succ]
            refine wpAnyH_take (i := 25) (oi := { dst := some 112, op := Op.indexAddr 22 (Operand.tmp 110) (Operand.tmp 111), type := 0, pos := "law.go:78", after := #[{ on := 23, ground := Ground.data }, { on := 24, ground := Ground.data }, { on := 19, ground := Ground.guard }], guard := some (19, true) }) (v := ?_) rfl (by kernel_rfl) (by kernel_rfl) (by kernel_rfl) (fun _ _ _ h => h) (Or.inl ⟨by kernel_rfl, ?_⟩) hHeld ?_
            rotate_left
            · intro w9 hSw; (try dsimp only at hSw); go_simp; try with_reducible rfl
            simp only [Act.put, List.setIfInBounds_toArray, List.set_cons_zero, List.set_cons_succ]
            refine wpAnyH_take (i := 26) (oi := { dst := some 113, op := Op.fieldAddr 52 (Operand.tmp 112) 2, type := 0, pos := "law.go:78", after := #[{ on := 25, ground := Ground.data }, { on := 19, ground := Ground.guard }], guard := some (19, true) }) (v := ?_) rfl (by kernel_rfl) (by kernel_rfl) (by kernel_rfl) (fun _ _ _ h => h) (Or.inl ⟨by kernel_rfl, ?_⟩) hHeld ?_
            rotate_left
            · intro w9 hSw; (try dsimp only at hSw); go_simp; try with_reducible rfl
            simp only [Act.put, List.setIfInBounds_toArray, List.set_cons_zero, List.set_cons_succ]
            refine wpAnyH_take (i := 27) (oi := { dst := some 114, op := Op.load 3 (Operand.tmp 113), type := 3, pos := "law.go:78", after := #[{ on := 26, ground := Ground.data }, { on := 19, ground := Ground.guard }], guard := some (19, true) }) (v := ?_) rfl (by kernel_rfl) (by kernel_rfl) (by kernel_rfl) (fun _ _ _ h => h) (Or.inl ⟨by kernel_rfl, ?_⟩) hHeld ?_
            rotate_left
            · intro w9 hSw; (try dsimp only at hSw); go_simp; try with_reducible rfl
            simp only [Act.put, List.setIfInBounds_toArray, List.set_cons_zero, List.set_cons_succ]
            refine wpAnyH_take (i := 28) (oi := { dst := some 115, op := Op.binOp BinOp.lss 3 (Operand.tmp 108) (Operand.tmp 114) 3, type := 4, pos := "law.go:78", after := #[{ on := 21, ground := Ground.data }, { on := 27, ground := Ground.data }, { on := 19, ground := Ground.guard }], guard := some (19, true) }) (v := ?_) rfl (by kernel_rfl) (by kernel_rfl) (by kernel_rfl) (fun _ _ _ h => h) (Or.inl ⟨by kernel_rfl, ?_⟩) hHeld ?_
            rotate_left
            · intro w9 hSw; (try dsimp only at hSw); go_simp; try with_reducible rfl
            simp only [Act.put, List.setIfInBounds_toArray, List.set_cons_zero, List.set_cons_succ]
            refine wpAnyH_take (i := 29) (oi := { dst := some 116, op := Op.pick (Operand.tmp 106) (Operand.tmp 115) (Operand.const (Value.bool false)), type := 4, pos := "law.go:78", after := #[{ on := 19, ground := Ground.data }, { on := 28, ground := Ground.data }, { on := 9, ground := Ground.guard }], guard := some (9, false) }) (v := ?_) rfl (by kernel_rfl) (by kernel_rfl) (by kernel_rfl) (fun _ _ _ h => h) (Or.inl ⟨by kernel_rfl, ?_⟩) hHeld ?_
            rotate_left
            · intro w9 hSw; (try dsimp only at hSw); go_simp; try with_reducible rfl
            simp only [Act.put, List.setIfInBounds_toArray, List.set_cons_zero, List.set_cons_succ]
            refine wpAnyH_take (i := 30) (oi := { dst := some 117, op := Op.pick (Operand.tmp 96) (Operand.const (Value.bool true)) (Operand.tmp 116), type := 4, pos := "law.go:78", after := #[{ on := 9, ground := Ground.data }, { on := 29, ground := Ground.data }], guard := none }) (v := ?_) rfl (by kernel_rfl) (by kernel_rfl) (by kernel_rfl) (fun _ _ _ h => h) (Or.inl ⟨by kernel_rfl, ?_⟩) hHeld ?_
            rotate_left
            · intro w9 hSw; (try dsimp only at hSw); go_simp; try with_reducible rfl
            simp only [Act.put, List.setIfInBounds_toArray, List.set_cons_zero, List.set_cons_succ]
            refine wpAnyH_done (by kernel_rfl) ?_ _
            go_wp2
            go_roundw
            case rel => exact ⟨q + 1, by omega, by go_num, HVA.out.drew⟩
            case measure => simp [intOf]; omega
        · obtain rfl : q = j := by omega
          have qfl : ∀ (M : Int) (B : Option Addr) (m d : Nat) (W : World), (Instr.field 24 (.agg #[.int .i64 M, .slice B m d]) 1).run Try.prog W = .ok (.slice B m d) W := fun _ _ _ _ _ => by kernel_rfl
          have qne := neIt
          go_upto_region 22 with (fail)
          have HV0 := HV
          go_loopw [11] (fun i wr2 => ∃ k : Nat, k ≤ n5 ∧ i = .int .i64 k ∧ Below W5.heap.size W5 wr2) (fun i _ => ((n5 : Int) - intOf i).toNat)
          case atStart => exact ⟨0, by omega, rfl, HV0.out⟩
          case round =>
            obtain ⟨k, hk, rfl, hb⟩ := hrel
            have HV2 := Lib.hid hb
            have ra := (X5.out.keep hb).c0
            have rb := (X5.out.keep hb).c1
            clear hb
            by_cases hlt3 : k < n5
            · obtain ⟨m, hm⟩ : ∃ m, m = k + 1 := ⟨_, rfl⟩
              have hw3 : IntKind.i64.wrap ((k : Int) + 1) = (m : Int) := by have := HN5.out; rw [IntKind.wrap_i64]; omega
              have hmq : m < q := by have := HN5.out; omega
              obtain ⟨b1, o1, hbo, hbl, f0, f1, f2⟩ := HI.out.at_ m hmq
              injection hbo with hbo
              injection hbo with hb1 hb2 _
              subst hb1 hb2
              have HE0 := HDR.out k (by omega)
              rw [show k + 1 = m from hm.symm] at HE0
              obtain ⟨x, hx⟩ : ∃ x, l.getD m i0 = x := ⟨_, rfl⟩
              rw [hx] at f0 f1 f2 HE0
              have HE := Lib.hid HE0
              have HM := Lib.hid hm
              have hk0 : (0 : Int) ≤ (k : Int) := by omega
              have hk9 : (k : Int) < (n5 : Int) := by omega
              have hm0 : (0 : Int) ≤ (m : Int) := by omega
              have hm9 : (m : Int) < (q : Int) := by omega
              clear HE0 hx hm
              go_upto_region 24 with (fail)
              have hHeld0 : (fun w9 => Below W5.heap.size W5 w9 ∧ (w9.cell? ⟨w5.heap.size, 0, none⟩ = some (.int .i64 N) ∧ w9.cell? ⟨w5.heap.size, 1, none⟩ = some (.slice A5 n5 c5)) ∧ (w9.cell? ⟨w.heap.size, 0, none⟩ = some (.int .i64 N) ∧ w9.cell? ⟨w.heap.size, 1, none⟩ = some (.slice (some ⟨xb, xo, none⟩) q c)) ∧ (w9.cell? ⟨xb, xo + m * 3, none⟩ = some (.int .i64 x.d) ∧ w9.cell? ⟨xb, xo + m * 3 + 1, none⟩ = some (.int .i64 x.p) ∧ w9.cell? ⟨xb, xo + m * 3 + 2, none⟩ = some (.int .i64 x.t))) wr.drew := sk24 X5.out HQ.out HX0.out f0 f1 f2 HV2.out.drew
              refine wp_region_held_drew (S := fun w9 => Below W5.heap.size W5 w9 ∧ (w9.cell? ⟨w5.heap.size, 0, none⟩ = some (.int .i64 N) ∧ w9.cell? ⟨w5.heap.size, 1, none⟩ = some (.slice A5 n5 c5)) ∧ (w9.cell? ⟨w.heap.size, 0, none⟩ = some (.int .i64 N) ∧ w9.cell? ⟨w.heap.size, 1, none⟩ = some (.slice (some ⟨xb, xo, none⟩) q c)) ∧ (w9.cell? ⟨xb, xo + m * 3, none⟩ = some (.int .i64 x.d) ∧ w9.cell? ⟨xb, xo + m * 3 + 1, none⟩ = some (.int .i64 x.p) ∧ w9.cell? ⟨xb, xo + m * 3 + 2, none⟩ = some (.int .i64 x.t))) (by kernel_rfl) hHeld0 (fun hHeld => ?_)
              clear hHeld0
              refine wpAnyH_take (i := 0) (oi := { dst := some 125, op := Op.load 28 (Operand.tmp 4), type := 28, pos := "law.go:83", after := #[], guard := none }) (v := ?_) rfl (by kernel_rfl) (by kernel_rfl) (by kernel_rfl) (fun _ _ _ h => h) (Or.inl ⟨by kernel_rfl, ?_⟩) hHeld ?_
              rotate_left
              · intro w9 hSw; (try dsimp only at hSw); go_simp; try with_reducible rfl
              simp only [Act.put, List.setIfInBounds_toArray, List.set_cons_zero, List.set_cons_succ]
              refine wpAnyH_take (i := 3) (oi := { dst := some 128, op := Op.move (Operand.tmp 11), type := 3, pos := "law.go:83", after := #[], guard := none }) (v := ?_) rfl (by kernel_rfl) (by kernel_rfl) (by kernel_rfl) (fun _ _ _ h => h) (Or.inl ⟨by kernel_rfl, ?_⟩) hHeld ?_
              rotate_left
              · intro w9 hSw; (try dsimp only at hSw); go_simp; try with_reducible rfl
              simp only [Act.put, List.setIfInBounds_toArray, List.set_cons_zero, List.set_cons_succ]
              refine wpAnyH_take (i := 6) (oi := { dst := some 131, op := Op.fieldAddr 24 (Operand.tmp 1) 1, type := 0, pos := "law.go:83", after := #[], guard := none }) (v := ?_) rfl (by kernel_rfl) (by kernel_rfl) (by kernel_rfl) (fun _ _ _ h => h) (Or.inl ⟨by kernel_rfl, ?_⟩) hHeld ?_
              rotate_left
              · intro w9 hSw; (try dsimp only at hSw); go_simp; try with_reducible rfl
              simp only [Act.put, List.setIfInBounds_toArray, List.set_cons_zero, List.set_cons_succ]
              refine wpAnyH_take (i := 7) (oi := { dst := some 132, op := Op.load 22 (Operand.tmp 131), type := 22, pos := "law.go:83", after := #[{ on := 6, ground := Ground.data }], guard := none }) (v := ?_) rfl (by kernel_rfl) (by kernel_rfl) (by kernel_rfl) (fun _ _ _ h => h) (Or.inl ⟨by kernel_rfl, ?_⟩) hHeld ?_
              rotate_left
              · intro w9 hSw; (try dsimp only at hSw); go_simp; try with_reducible rfl
              simp only [Act.put, List.setIfInBounds_toArray, List.set_cons_zero, List.set_cons_succ]
              refine wpAnyH_take (i := 8) (oi := { dst := some 133, op := Op.move (Operand.tmp 11), type := 3, pos := "law.go:83", after := #[], guard := none }) (v := ?_) rfl (by kernel_rfl) (by kernel_rfl) (by kernel_rfl) (fun _ _ _ h => h) (Or.inl ⟨by kernel_rfl, ?_⟩) hHeld ?_
              rotate_left
              · intro w9 hSw; (try dsimp only at hSw); go_simp; try with_reducible rfl
              simp only [Act.put, List.setIfInBounds_toArray, List.set_cons_zero, List.set_cons_succ]
              refine wpAnyH_take (i := 9) (oi := { dst := some 134, op := Op.binOp BinOp.add 3 (Operand.tmp 133) (Operand.const (Value.int IntKind.i64 1)) 3, type := 3, pos := "law.go:83", after := #[{ on := 8, ground := Ground.data }], guard := none }) (v := ?_) rfl (by kernel_rfl) (by kernel_rfl) (by kernel_rfl) (fun _ _ _ h => h) (Or.inl ⟨by kernel_rfl, ?_⟩) hHeld ?_
              rotate_left
              · intro w9 hSw; (try dsimp only at hSw); go_simp; try with_reducible rfl
              simp only [Act.put, List.setIfInBounds_toArray, List.set_cons_zero, List.set_cons_succ]
              refine wpAnyH_take (i := 10) (oi := { dst := some 135, op := Op.indexAddr 22 (Operand.tmp 132) (Operand.tmp 134), type := 0, pos := "law.go:83", after := #[{ on := 7, ground := Ground.data }, { on := 9, ground := Ground.data }], guard := none }) (v := ?_) rfl (by kernel_rfl) (by kernel_rfl) (by kernel_rfl) (fun _ _ _ h => h) (Or.inl ⟨by kernel_rfl, ?_⟩) hHeld ?_
              rotate_left
              · intro w9 hSw; (try dsimp only at hSw); go_simp; try with_reducible rfl
              simp only [Act.put, List.setIfInBounds_toArray, List.set_cons_zero, List.set_cons_succ]
              refine wpAnyH_take (i := 11) (oi := { dst := some 136, op := Op.load 52 (Operand.tmp 135), type := 52, pos := "law.go:83", after := #[{ on := 10, ground := Ground.data }], guard := none }) (v := ?_) rfl (by kernel_rfl) (by kernel_rfl) (by kernel_rfl) (fun _ _ _ h => h) (Or.inl ⟨by kernel_rfl, ?_⟩) hHeld ?_
              rotate_left
              · intro w9 hSw; (try dsimp only at hSw); go_simp; try with_reducible rfl
              simp only [Act.put, List.setIfInBounds_toArray, List.set_cons_zero, List.set_cons_succ]
              refine wpAnyH_ready (rs := [1]) (by kernel_rfl) (by simp) ?_
              refine AllReadyH.cons (o := { dst := some 126, op := Op.call { callee := Callee.value (Operand.func 19), args := #[Operand.tmp 125], argTypes := #[28] }, type := 24, pos := "law.go:83", after := #[{ on := 0, ground := Ground.data }], guard := none }) rfl (fun K hK => ?_) AllReadyH.nil
              go_simp
              refine (lined_is N A5 n5 c5 (l.drop 1) _ (by have := HN5.out; omega) (HL5.out.below hHeld.1)).mono ?_; rintro e w7 ⟨A7, c7, rfl, hi, hb, -⟩; have HB7 := Lib.hid (below_then hHeld.1 hb); obtain ⟨yb, yo, rfl, hyl, g0, g1, g2⟩ := hi.at_ k hlt3; rw [HE.out] at g0 g1 g2; clear hi
              refine hK.out _ _ (sk24 X5.out HQ.out HX0.out f0 f1 f2 HB7.out) (fun hHeld => ?_)
              clear hK K
              try simp only [Act.put, List.setIfInBounds_toArray, List.set_cons_zero, List.set_cons_succ]
              refine wpAnyH_take (i := 2) (oi := { dst := some 127, op := Op.field 24 (Operand.tmp 126) 1, type := 22, pos := "law.go:83", after := #[{ on := 1, ground := Ground.data }], guard := none }) (v := ?_) rfl (by kernel_rfl) (by kernel_rfl) (by kernel_rfl) (fun _ _ _ h => h) (Or.inl ⟨by kernel_rfl, ?_⟩) hHeld ?_
              rotate_left
              · intro w9 hSw; (try dsimp only at hSw); go_simp; try with_reducible rfl
              simp only [Act.put, List.setIfInBounds_toArray, List.set_cons_zero, List.set_cons_succ]
              refine wpAnyH_take (i := 4) (oi := { dst := some 129, op := Op.indexAddr 22 (Operand.tmp 127) (Operand.tmp 128), type := 0, pos := "law.go:83", after := #[{ on := 2, ground := Ground.data }, { on := 3, ground := Ground.data }], guard := none }) (v := ?_) rfl (by kernel_rfl) (by kernel_rfl) (by kernel_rfl) (fun _ _ _ h => h) (Or.inl ⟨by kernel_rfl, ?_⟩) hHeld ?_
              rotate_left
              · intro w9 hSw; (try dsimp only at hSw); go_simp; try with_reducible rfl
              simp only [Act.put, List.setIfInBounds_toArray, List.set_cons_zero, List.set_cons_succ]
              refine wpAnyH_ready (rs := [5]) (by kernel_rfl) (by simp) ?_
              refine AllReadyH.cons (o := { dst := some 130, op := Op.load 52 (Operand.tmp 129), type := 52, pos := "law.go:83", after := #[{ on := 4, ground := Ground.data }], guard := none }) rfl (fun K hK => ?_) AllReadyH.nil
              go_simp
              skip
              refine hK.out _ _ (hHeld) (fun hHeld => ?_)
              clear hK K
              try simp only [Act.put, List.setIfInBounds_toArray, List.set_cons_zero, List.set_cons_succ]
              refine wpAnyH_take (i := 12) (oi := { dst := some 137, op := Op.binOp BinOp.neq 52 (Operand.tmp 130) (Operand.tmp 136) 52, type := 4, pos := "law.go:83", after := #[{ on := 5, ground := Ground.data }, { on := 11, ground := Ground.data }], guard := none }) (v := ?_) rfl (by kernel_rfl) (by kernel_rfl) (by kernel_rfl) (fun _ _ _ h => h) (Or.inl ⟨by kernel_rfl, ?_⟩) hHeld ?_
              rotate_left
              · intro w9 hSw; (try dsimp only at hSw); go_simp; try with_reducible rfl
              simp only [Act.put, List.setIfInBounds_toArray, List.set_cons_zero, List.set_cons_succ]
              refine wpAnyH_done (by kernel_rfl) ?_ _
              go_wp2
              go_roundw
              case rel => exact ⟨m, by have := HM.out; omega, rfl, hHeld.1⟩
              case measure => have := HM.out; simp [intOf]; omega
            · obtain rfl : k = n5 := by omega
              go_wp2
              go_ret
              exact ⟨rfl, below_then HB.out HV2.out⟩
end Go.Proofs.Ytoklocbdifefcaa
