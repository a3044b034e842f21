/-
  TimerParts answers true, whatever sleeps and whatever the times are.
-/
import Derived.Test.YtpkfmbknbdlnpaaTimerAwake
import Derived.Test.YtpkfmbknbdlnpaaTimerPartsMath
import Derived.Test.YtpkfmbknbdlnpaaBelowThen
import Derived.Deep.RegionHeld3
namespace Go.Proofs.Ytpkfmbknbdlnpaa
open Go.RowKit

set_option maxHeartbeats 8000000 in
set_option maxRecDepth 8000 in
theorem parts_any (A : Option Addr) (n c : Nat) (l : List Np) (a by_ : Int) (w : World) (hw : InC a) (h : Nps w A n c l) :
    Calls Try.prog 6 #[.slice A n c, .int .i64 a, .int .i64 by_] w fun e w' => e = .returned (.bool true) ∧ Below w.heap.size w w' := by
  have H := Lib.hid h
  have HL := Lib.hid h.len
  clear h
  by_cases hn : n ≤ 30
  rotate_left
  · have d1 : decide ((30 : Int) < (n : Int)) = true := decide_eq_true (by omega)
    go_enter Try.func6, Try.ntmps6
    go_wp2_with (go_at_call 7; (with_reducible refine (tawake_any _).mono ?_); rintro e w1 ⟨rfl, hb⟩; have HB := Lib.hid hb; have H := Lib.hid (H.out.below hb); clear hb)
    go_ret
    exact ⟨rfl, HB.out⟩
  have d1 : decide ((30 : Int) < (n : Int)) = false := decide_eq_false (by omega)
  by_cases hs : Sn l
  rotate_left
  · have HS := Lib.hid (decide_eq_false hs)
    clear hs
    go_enter Try.func6, Try.ntmps6
    go_wp2_with (first
    | (go_at_call 7; (with_reducible refine (tawake_any _).mono ?_); rintro e w1 ⟨rfl, hb⟩; have HB := Lib.hid hb; have H := Lib.hid (H.out.below hb); clear hb)
    | (go_at_call 9; (with_reducible refine (naps_is A n c l _ (by omega) H.out).mono ?_); rintro e w2 ⟨A2, c2, rfl, hi, hb⟩; have HB := Lib.hid (below_then HB.out hb); have H := Lib.hid (H.out.below hb); have HN := Lib.hid hi; clear hi hb)
    | (go_at_call 20; (with_reducible refine (tsane_is A2 n c2 l false _ (by omega) HN.out HS.out).mono ?_); rintro e w3 ⟨rfl, hb⟩; have HB := Lib.hid (below_then HB.out hb); have H := Lib.hid (H.out.below hb); clear hb))
    go_ret
    exact ⟨rfl, HB.out⟩
  have HS := Lib.hid (decide_eq_true hs)
  have HSn := Lib.hid hs
  clear hs
  by_cases ha : a ≤ 1125899906842624
  rotate_left
  · have d2 : decide ((1125899906842624 : Int) < a) = true := decide_eq_true (by omega)
    go_enter Try.func6, Try.ntmps6
    go_wp2_with (first
    | (go_at_call 7; (with_reducible refine (tawake_any _).mono ?_); rintro e w1 ⟨rfl, hb⟩; have HB := Lib.hid hb; have H := Lib.hid (H.out.below hb); clear hb)
    | (go_at_call 9; (with_reducible refine (naps_is A n c l _ (by omega) H.out).mono ?_); rintro e w2 ⟨A2, c2, rfl, hi, hb⟩; have HB := Lib.hid (below_then HB.out hb); have H := Lib.hid (H.out.below hb); have HN := Lib.hid hi; clear hi hb)
    | (go_at_call 20; (with_reducible refine (tsane_is A2 n c2 l true _ (by omega) HN.out HS.out).mono ?_); rintro e w3 ⟨rfl, hb⟩; have HB := Lib.hid (below_then HB.out hb); have H := Lib.hid (H.out.below hb); clear hb))
    go_ret
    exact ⟨rfl, HB.out⟩
  have d2 : decide ((1125899906842624 : Int) < a) = false := decide_eq_false (by omega)
  obtain ⟨r, hr⟩ : ∃ r : Int, by_ % 65536 = r := ⟨_, rfl⟩
  obtain ⟨b, hb⟩ : ∃ b : Int, a + r = b := ⟨_, rfl⟩
  have d3 : bits .and .i64 by_ 65535 = r := (low16 by_).trans hr
  have hab : a ≤ b := by omega
  have d4 : IntKind.i64.wrap (a + r) = b := by unfold InC at hw; rw [IntKind.wrap_i64]; omega
  have hg := gn_times HSn.out.2
  have HX := Lib.hid (sn_ov (l := l) a HSn.out)
  have HY := Lib.hid (sn_ov (l := l) b HSn.out)
  have HOO := Lib.hid (ov_ov (l := l) hab)
  have HKK := Lib.hid (ni_parts hg hab)
  have HLL := Lib.hid (ov_up_len (b := b) hg)
  clear hr hb hg hw
  obtain ⟨X, hX⟩ : ∃ X, ovL l a = X := ⟨_, rfl⟩
  obtain ⟨Y, hY⟩ : ∃ Y, ovL l b = Y := ⟨_, rfl⟩
  obtain ⟨KI, hI⟩ : ∃ KI, niL (upL l a) = KI := ⟨_, rfl⟩
  obtain ⟨KK, hK⟩ : ∃ KK, niL (upL l b) = KK := ⟨_, rfl⟩
  rw [hX] at HX HOO HKK
  rw [hY] at HY HOO HLL
  rw [hI, hK] at HKK
  rw [hK] at HLL
  obtain ⟨KJ, hJ⟩ : ∃ KJ, niL (upL X b) = KJ := ⟨_, rfl⟩
  rw [hJ] at HKK
  have G1 := Lib.hid hX
  have G2 := Lib.hid hY
  have G3 := Lib.hid hI
  have G4 := Lib.hid hK
  have G5 := Lib.hid hJ
  clear hX hY hI hK hJ
  go_enter Try.func6, Try.ntmps6
  go_upto_region 4 with (first
    | (go_at_call 7; (with_reducible refine (tawake_any _).mono ?_); rintro e w1 ⟨rfl, hb⟩; have HB := Lib.hid hb; have H := Lib.hid (H.out.below hb); clear hb)
    | (go_at_call 9; (with_reducible refine (naps_is A n c l _ (by omega) H.out).mono ?_); rintro e w2 ⟨A2, c2, rfl, hi, hb⟩; have HB := Lib.hid (below_then HB.out hb); have H := Lib.hid (H.out.below hb); have HN := Lib.hid hi; clear hi hb)
    | (go_at_call 20; (with_reducible refine (tsane_is A2 n c2 l true _ (by omega) HN.out HS.out).mono ?_); rintro e w3 ⟨rfl, hb⟩; have HB := Lib.hid (below_then HB.out hb); have H := Lib.hid (H.out.below hb); clear hb))
  go_upto_region 5 with (fail)
  go_upto_region 6 with (first
    | (go_at_call 9; (with_reducible refine (naps_is A n c l _ (by omega) H.out).mono ?_); rintro e w4 ⟨A4, c4, rfl, hi, hb⟩; have HB := Lib.hid (below_then HB.out hb); have H := Lib.hid (H.out.below hb); have HN := Lib.hid hi; clear hi hb)
    | (go_at_call 11; (with_reducible refine (tdue_at A4 n c4 l a X KI _ HSn.out G1.out G3.out HN.out).mono ?_); rintro e w5 ⟨A5, n5, c5, B5, m5, d5, rfl, hi, hk, hb⟩; have HB := Lib.hid (below_then HB.out hb); have H := Lib.hid (H.out.below hb); have Hx := Lib.hid hi; have Hi := Lib.hid hk; clear hi hk hb))
  go_upto_region 7 with (go_at_call 11; (with_reducible refine (tdue_at A5 n5 c5 X b Y KJ _ HX.out HOO.out G5.out Hx.out).mono ?_); rintro e w6 ⟨A6, n6, c6, B6, m6, d6, rfl, hi, hk, hb⟩; have HB := Lib.hid (below_then HB.out hb); have H := Lib.hid (H.out.below hb); have Hx := Lib.hid (Hx.out.below hb); have Hi := Lib.hid (Hi.out.below hb); have Hy := Lib.hid hi; have Hj := Lib.hid hk; clear hi hk hb)
  go_upto_region 8 with (first
    | (go_at_call 9; (with_reducible refine (naps_is A n c l _ (by omega) H.out).mono ?_); rintro e w7 ⟨A7, c7, rfl, hi, hb⟩; have HB := Lib.hid (below_then HB.out hb); have H := Lib.hid (H.out.below hb); have Hx := Lib.hid (Hx.out.below hb); have Hi := Lib.hid (Hi.out.below hb); have Hy := Lib.hid (Hy.out.below hb); have Hj := Lib.hid (Hj.out.below hb); have HN := Lib.hid hi; clear hi hb)
    | (go_at_call 11; (with_reducible refine (tdue_at A7 n c7 l b Y KK _ HSn.out G2.out G4.out HN.out).mono ?_); rintro e w8 ⟨A8, n8, c8, B8, m8, d8, rfl, hi, hk, hb⟩; have HB := Lib.hid (below_then HB.out hb); have H := Lib.hid (H.out.below hb); have Hx := Lib.hid (Hx.out.below hb); have Hi := Lib.hid (Hi.out.below hb); have Hy := Lib.hid (Hy.out.below hb); have Hj := Lib.hid (Hj.out.below hb); have Hz := Lib.hid hi; have Hk := Lib.hid hk; clear hi hk hb))
  have hml : KK.length = KI.length + KJ.length := by have := congrArg List.length HKK.out; simpa using this
  have e5 : KI.length = m5 := Hi.out.len
  have e6 : KJ.length = m6 := Hj.out.len
  have e8 : KK.length = m8 := Hk.out.len
  have ey : Y.length = n6 := Hy.out.len
  have ez : Y.length = n8 := Hz.out.len
  have hll := HLL.out
  have hl := HL.out
  have hy8 : Y.length ≤ 8 := HY.out.1
  have hmm : m8 = m5 + m6 := by omega
  have hnn : n8 + m8 = n := by omega
  have hz8 : n6 ≤ 8 := by omega
  have q1 : IntKind.i64.wrap ((m5 : Int) + (m6 : Int)) = (m8 : Int) := by rw [IntKind.wrap_i64]; omega
  have q2 : IntKind.i64.wrap ((n8 : Int) + (m8 : Int)) = (n : Int) := by rw [IntKind.wrap_i64]; omega
  have q3 : ((m8 : Int) != (m8 : Int)) = false := by simp
  have q4 : ((n : Int) != (n : Int)) = false := by simp
  have hm30 : m8 ≤ 30 := by omega
  have EK := Lib.hid e5
  have HMM := Lib.hid hmm
  clear hmm hml e6 e8 ey ez hll hl hy8 hnn e5
  go_upto_region 11 with (first
    | (go_at_call 18; (with_reducible refine (slept_is A6 n6 c6 Y _ (by omega) Hy.out).mono ?_); rintro e w9 ⟨A9, c9, rfl, hi, hb⟩; have HB := Lib.hid (below_then HB.out hb); have H := Lib.hid (H.out.below hb); have Hx := Lib.hid (Hx.out.below hb); have Hi := Lib.hid (Hi.out.below hb); have Hy := Lib.hid (Hy.out.below hb); have Hj := Lib.hid (Hj.out.below hb); have Hz := Lib.hid (Hz.out.below hb); have Hk := Lib.hid (Hk.out.below hb); have HZ := Lib.hid hi; clear hi hb)
    | (go_at_call 18; (with_reducible refine (slept_is A8 n8 c8 Y _ (by have := Hz.out.len; have := Hy.out.len; omega) Hz.out).mono ?_); rintro e w10 ⟨A10, c10, rfl, hi, hb⟩; have HB := Lib.hid (below_then HB.out hb); have H := Lib.hid (H.out.below hb); have Hx := Lib.hid (Hx.out.below hb); have Hi := Lib.hid (Hi.out.below hb); have Hy := Lib.hid (Hy.out.below hb); have Hj := Lib.hid (Hj.out.below hb); have Hz := Lib.hid (Hz.out.below hb); have Hk := Lib.hid (Hk.out.below hb); have HZ := Lib.hid (HZ.out.below hb); have HV := Lib.hid hi; clear hi hb)
    | (go_at_call 17; (with_reducible refine (rnsame_is A9 n6 c9 A10 n8 c10 Y _ (by omega) HZ.out HV.out).mono ?_); rintro e w11 ⟨rfl, hb⟩; have HB := Lib.hid (below_then HB.out hb); have H := Lib.hid (H.out.below hb); have Hx := Lib.hid (Hx.out.below hb); have Hi := Lib.hid (Hi.out.below hb); have Hy := Lib.hid (Hy.out.below hb); have Hj := Lib.hid (Hj.out.below hb); have Hz := Lib.hid (Hz.out.below hb); have Hk := Lib.hid (Hk.out.below hb); clear hb))
  go_loopw [15] (fun i wr => ∃ q : Nat, q ≤ m8 ∧ i = .int .i64 q ∧ Below w11.heap.size w11 wr) (fun i _ => ((m8 : Int) - intOf i).toNat)
  case atStart => exact ⟨0, by omega, rfl, Below.refl _ _⟩
  case round =>
    obtain ⟨q, hq, rfl, hb⟩ := hrel
    have HV := Lib.hid hb
    clear hb
    by_cases hlt : q < m8
    · obtain ⟨kb, ko, rfl, hbk, f0⟩ := (Hk.out.below HV.out).at_ q hlt
      have hq0 : (0 : Int) ≤ (q : Int) := by omega
      by_cases hqi : q < m5
      · obtain ⟨ib, io, rfl, hbi, f1⟩ := (Hi.out.below HV.out).at_ q hqi
        rw [HKK.out, app_lt (by rw [EK.out]; exact hqi)] at f0
        generalize KI.getD q 0 = y at f0 f1
        have hyy : (y != y) = false := by simp
        have z1 : decide ((q : Int) < (m5 : Int)) = true := decide_eq_true (by omega)
        have z2 : decide ((m5 : Int) ≤ (q : Int)) = false := decide_eq_false (by omega)
        have z3 : decide (m5 ≤ q) = false := decide_eq_false (by omega)
        go_upto_region 13 with (fail)
        have hHeld0 : (fun w9 => w9.cell? ⟨kb, ko + q, none⟩ = some (.int .i64 y) ∧ w9.cell? ⟨ib, io + q, none⟩ = some (.int .i64 y)) wr.drew := ⟨f0, f1⟩
        refine wp_region_held_drew (S := fun w9 => w9.cell? ⟨kb, ko + q, none⟩ = some (.int .i64 y) ∧ w9.cell? ⟨ib, io + q, none⟩ = some (.int .i64 y)) (by kernel_rfl) hHeld0 (fun hHeld => ?_)
        clear hHeld0
        refine wpAnyH_take (i := 0) (oi := { dst := some 87, op := Op.move (Operand.tmp 15), type := 3, pos := "more.go:22", after := #[], guard := none }) (v := ?_) rfl (by kernel_rfl) (by kernel_rfl) (by kernel_rfl) (fun _ _ _ h => h) (Or.inl ⟨by kernel_rfl, ?_⟩) hHeld ?_
        rotate_left
        · intro w9 hSw; (try dsimp only at hSw); go_simp; try with_reducible rfl
        simp only [Act.put, List.setIfInBounds_toArray, List.set_cons_zero, List.set_cons_succ]
        refine wpAnyH_take (i := 1) (oi := { dst := some 88, op := Op.move (Operand.tmp 10), type := 30, pos := "more.go:22", after := #[], guard := none }) (v := ?_) rfl (by kernel_rfl) (by kernel_rfl) (by kernel_rfl) (fun _ _ _ h => h) (Or.inl ⟨by kernel_rfl, ?_⟩) hHeld ?_
        rotate_left
        · intro w9 hSw; (try dsimp only at hSw); go_simp; try with_reducible rfl
        simp only [Act.put, List.setIfInBounds_toArray, List.set_cons_zero, List.set_cons_succ]
        refine wpAnyH_take (i := 2) (oi := { dst := some 89, op := Op.call { callee := Callee.builtin Builtin.len, args := #[Operand.tmp 88], argTypes := #[30] }, type := 3, pos := "more.go:22", after := #[{ on := 1, ground := Ground.data }], guard := none }) (v := ?_) rfl (by kernel_rfl) (by kernel_rfl) (by kernel_rfl) (fun _ _ _ h => h) (Or.inl ⟨by kernel_rfl, ?_⟩) hHeld ?_
        rotate_left
        · intro w9 hSw; (try dsimp only at hSw); go_simp; try with_reducible rfl
        simp only [Act.put, List.setIfInBounds_toArray, List.set_cons_zero, List.set_cons_succ]
        refine wpAnyH_take (i := 3) (oi := { dst := some 90, op := Op.binOp BinOp.lss 3 (Operand.tmp 87) (Operand.tmp 89) 3, type := 4, pos := "more.go:22", after := #[{ on := 0, ground := Ground.data }, { on := 2, ground := Ground.data }], guard := none }) (v := ?_) rfl (by kernel_rfl) (by kernel_rfl) (by kernel_rfl) (fun _ _ _ h => h) (Or.inl ⟨by kernel_rfl, ?_⟩) hHeld ?_
        rotate_left
        · intro w9 hSw; (try dsimp only at hSw); go_simp; try with_reducible rfl
        simp only [Act.put, List.setIfInBounds_toArray, List.set_cons_zero, List.set_cons_succ]
        refine wpAnyH_take (i := 4) (oi := { dst := some 91, op := Op.move (Operand.tmp 90), type := 4, pos := "more.go:22", after := #[{ on := 3, ground := Ground.data }], guard := none }) (v := ?_) rfl (by kernel_rfl) (by kernel_rfl) (by kernel_rfl) (fun _ _ _ h => h) (Or.inl ⟨by kernel_rfl, ?_⟩) hHeld ?_
        rotate_left
        · intro w9 hSw; (try dsimp only at hSw); go_simp; try with_reducible rfl
        simp only [Act.put, List.setIfInBounds_toArray, List.set_cons_zero, List.set_cons_succ]
        refine wpAnyH_take (i := 5) (oi := { dst := some 92, op := Op.move (Operand.tmp 14), type := 30, pos := "more.go:22", after := #[{ on := 4, ground := Ground.guard }], guard := some (4, true) }) (v := ?_) rfl (by kernel_rfl) (by kernel_rfl) (by kernel_rfl) (fun _ _ _ h => h) (Or.inl ⟨by kernel_rfl, ?_⟩) hHeld ?_
        rotate_left
        · intro w9 hSw; (try dsimp only at hSw); go_simp; try with_reducible rfl
        simp only [Act.put, List.setIfInBounds_toArray, List.set_cons_zero, List.set_cons_succ]
        refine wpAnyH_take (i := 6) (oi := { dst := some 93, op := Op.move (Operand.tmp 15), type := 3, pos := "more.go:22", after := #[{ on := 4, ground := Ground.guard }], guard := some (4, true) }) (v := ?_) rfl (by kernel_rfl) (by kernel_rfl) (by kernel_rfl) (fun _ _ _ h => h) (Or.inl ⟨by kernel_rfl, ?_⟩) hHeld ?_
        rotate_left
        · intro w9 hSw; (try dsimp only at hSw); go_simp; try with_reducible rfl
        simp only [Act.put, List.setIfInBounds_toArray, List.set_cons_zero, List.set_cons_succ]
        refine wpAnyH_take (i := 7) (oi := { dst := some 94, op := Op.indexAddr 30 (Operand.tmp 92) (Operand.tmp 93), type := 0, pos := "more.go:22", after := #[{ on := 5, ground := Ground.data }, { on := 6, ground := Ground.data }, { on := 4, ground := Ground.guard }], guard := some (4, true) }) (v := ?_) rfl (by kernel_rfl) (by kernel_rfl) (by kernel_rfl) (fun _ _ _ h => h) (Or.inl ⟨by kernel_rfl, ?_⟩) hHeld ?_
        rotate_left
        · intro w9 hSw; (try dsimp only at hSw); go_simp; try with_reducible rfl
        simp only [Act.put, List.setIfInBounds_toArray, List.set_cons_zero, List.set_cons_succ]
        refine wpAnyH_take (i := 8) (oi := { dst := some 95, op := Op.load 3 (Operand.tmp 94), type := 3, pos := "more.go:22", after := #[{ on := 7, ground := Ground.data }, { on := 4, ground := Ground.guard }], guard := some (4, true) }) (v := ?_) rfl (by kernel_rfl) (by kernel_rfl) (by kernel_rfl) (fun _ _ _ h => h) (Or.inl ⟨by kernel_rfl, ?_⟩) hHeld ?_
        rotate_left
        · intro w9 hSw; (try dsimp only at hSw); go_simp; try with_reducible rfl
        simp only [Act.put, List.setIfInBounds_toArray, List.set_cons_zero, List.set_cons_succ]
        refine wpAnyH_take (i := 9) (oi := { dst := some 96, op := Op.move (Operand.tmp 10), type := 30, pos := "more.go:22", after := #[{ on := 4, ground := Ground.guard }], guard := some (4, true) }) (v := ?_) rfl (by kernel_rfl) (by kernel_rfl) (by kernel_rfl) (fun _ _ _ h => h) (Or.inl ⟨by kernel_rfl, ?_⟩) hHeld ?_
        rotate_left
        · intro w9 hSw; (try dsimp only at hSw); go_simp; try with_reducible rfl
        simp only [Act.put, List.setIfInBounds_toArray, List.set_cons_zero, List.set_cons_succ]
        refine wpAnyH_take (i := 10) (oi := { dst := some 97, op := Op.move (Operand.tmp 15), type := 3, pos := "more.go:22", after := #[{ on := 4, ground := Ground.guard }], guard := some (4, true) }) (v := ?_) rfl (by kernel_rfl) (by kernel_rfl) (by kernel_rfl) (fun _ _ _ h => h) (Or.inl ⟨by kernel_rfl, ?_⟩) hHeld ?_
        rotate_left
        · intro w9 hSw; (try dsimp only at hSw); go_simp; try with_reducible rfl
        simp only [Act.put, List.setIfInBounds_toArray, List.set_cons_zero, List.set_cons_succ]
        refine wpAnyH_take (i := 11) (oi := { dst := some 98, op := Op.indexAddr 30 (Operand.tmp 96) (Operand.tmp 97), type := 0, pos := "more.go:22", after := #[{ on := 9, ground := Ground.data }, { on := 10, ground := Ground.data }, { on := 4, ground := Ground.guard }], guard := some (4, true) }) (v := ?_) rfl (by kernel_rfl) (by kernel_rfl) (by kernel_rfl) (fun _ _ _ h => h) (Or.inl ⟨by kernel_rfl, ?_⟩) hHeld ?_
        rotate_left
        · intro w9 hSw; (try dsimp only at hSw); go_simp; try with_reducible rfl
        simp only [Act.put, List.setIfInBounds_toArray, List.set_cons_zero, List.set_cons_succ]
        refine wpAnyH_take (i := 12) (oi := { dst := some 99, op := Op.load 3 (Operand.tmp 98), type := 3, pos := "more.go:22", after := #[{ on := 11, ground := Ground.data }, { on := 4, ground := Ground.guard }], guard := some (4, true) }) (v := ?_) rfl (by kernel_rfl) (by kernel_rfl) (by kernel_rfl) (fun _ _ _ h => h) (Or.inl ⟨by kernel_rfl, ?_⟩) hHeld ?_
        rotate_left
        · intro w9 hSw; (try dsimp only at hSw); go_simp; try with_reducible rfl
        simp only [Act.put, List.setIfInBounds_toArray, List.set_cons_zero, List.set_cons_succ]
        refine wpAnyH_take (i := 13) (oi := { dst := some 100, op := Op.binOp BinOp.neq 3 (Operand.tmp 95) (Operand.tmp 99) 3, type := 4, pos := "more.go:22", after := #[{ on := 8, ground := Ground.data }, { on := 12, ground := Ground.data }, { on := 4, ground := Ground.guard }], guard := some (4, true) }) (v := ?_) rfl (by kernel_rfl) (by kernel_rfl) (by kernel_rfl) (fun _ _ _ h => h) (Or.inl ⟨by kernel_rfl, ?_⟩) hHeld ?_
        rotate_left
        · intro w9 hSw; (try dsimp only at hSw); go_simp; try with_reducible rfl
        simp only [Act.put, List.setIfInBounds_toArray, List.set_cons_zero, List.set_cons_succ]
        refine wpAnyH_take (i := 14) (oi := { dst := some 101, op := Op.pick (Operand.tmp 91) (Operand.tmp 100) (Operand.const (Value.bool false)), type := 4, pos := "more.go:22", after := #[{ on := 4, ground := Ground.data }, { on := 13, ground := Ground.data }], guard := none }) (v := ?_) rfl (by kernel_rfl) (by kernel_rfl) (by kernel_rfl) (fun _ _ _ h => h) (Or.inl ⟨by kernel_rfl, ?_⟩) hHeld ?_
        rotate_left
        · intro w9 hSw; (try dsimp only at hSw); go_simp; try with_reducible rfl
        simp only [Act.put, List.setIfInBounds_toArray, List.set_cons_zero, List.set_cons_succ]
        refine wpAnyH_take (i := 15) (oi := { dst := some 102, op := Op.move (Operand.tmp 101), type := 4, pos := "more.go:22", after := #[{ on := 14, ground := Ground.data }, { on := 4, ground := Ground.chain }], guard := none }) (v := ?_) rfl (by kernel_rfl) (by kernel_rfl) (by kernel_rfl) (fun _ _ _ h => h) (Or.inl ⟨by kernel_rfl, ?_⟩) hHeld ?_
        rotate_left
        · intro w9 hSw; (try dsimp only at hSw); go_simp; try with_reducible rfl
        simp only [Act.put, List.setIfInBounds_toArray, List.set_cons_zero, List.set_cons_succ]
        refine wpAnyH_take (i := 16) (oi := { dst := some 103, op := Op.move (Operand.tmp 15), type := 3, pos := "more.go:22", after := #[{ on := 15, ground := Ground.guard }], guard := some (15, false) }) (v := ?_) rfl (by kernel_rfl) (by kernel_rfl) (by kernel_rfl) (fun _ _ _ h => h) (Or.inl ⟨by kernel_rfl, ?_⟩) hHeld ?_
        rotate_left
        · intro w9 hSw; (try dsimp only at hSw); go_simp; try with_reducible rfl
        simp only [Act.put, List.setIfInBounds_toArray, List.set_cons_zero, List.set_cons_succ]
        refine wpAnyH_take (i := 17) (oi := { dst := some 104, op := Op.move (Operand.tmp 10), type := 30, pos := "more.go:22", after := #[{ on := 15, ground := Ground.guard }], guard := some (15, false) }) (v := ?_) rfl (by kernel_rfl) (by kernel_rfl) (by kernel_rfl) (fun _ _ _ h => h) (Or.inl ⟨by kernel_rfl, ?_⟩) hHeld ?_
        rotate_left
        · intro w9 hSw; (try dsimp only at hSw); go_simp; try with_reducible rfl
        simp only [Act.put, List.setIfInBounds_toArray, List.set_cons_zero, List.set_cons_succ]
        refine wpAnyH_take (i := 18) (oi := { dst := some 105, op := Op.call { callee := Callee.builtin Builtin.len, args := #[Operand.tmp 104], argTypes := #[30] }, type := 3, pos := "more.go:22", after := #[{ on := 17, ground := Ground.data }, { on := 15, ground := Ground.guard }], guard := some (15, false) }) (v := ?_) rfl (by kernel_rfl) (by kernel_rfl) (by kernel_rfl) (fun _ _ _ h => h) (Or.inl ⟨by kernel_rfl, ?_⟩) hHeld ?_
        rotate_left
        · intro w9 hSw; (try dsimp only at hSw); go_simp; try with_reducible rfl
        simp only [Act.put, List.setIfInBounds_toArray, List.set_cons_zero, List.set_cons_succ]
        refine wpAnyH_take (i := 19) (oi := { dst := some 106, op := Op.binOp BinOp.geq 3 (Operand.tmp 103) (Operand.tmp 105) 3, type := 4, pos := "more.go:22", after := #[{ on := 16, ground := Ground.data }, { on := 18, ground := Ground.data }, { on := 15, ground := Ground.guard }], guard := some (15, false) }) (v := ?_) rfl (by kernel_rfl) (by kernel_rfl) (by kernel_rfl) (fun _ _ _ h => h) (Or.inl ⟨by kernel_rfl, ?_⟩) hHeld ?_
        rotate_left
        · intro w9 hSw; (try dsimp only at hSw); go_simp; try with_reducible rfl
        simp only [Act.put, List.setIfInBounds_toArray, List.set_cons_zero, List.set_cons_succ]
        refine wpAnyH_take (i := 20) (oi := { dst := some 107, op := Op.move (Operand.tmp 106), type := 4, pos := "more.go:22", after := #[{ on := 19, ground := Ground.data }, { on := 15, ground := Ground.chain }, { on := 15, ground := Ground.guard }], guard := some (15, false) }) (v := ?_) rfl (by kernel_rfl) (by kernel_rfl) (by kernel_rfl) (fun _ _ _ h => h) (Or.inl ⟨by kernel_rfl, ?_⟩) hHeld ?_
        rotate_left
        · intro w9 hSw; (try dsimp only at hSw); go_simp; try with_reducible rfl
        simp only [Act.put, List.setIfInBounds_toArray, List.set_cons_zero, List.set_cons_succ]
        refine wpAnyH_take (i := 21) (oi := { dst := some 108, op := Op.move (Operand.tmp 14), type := 30, pos := "more.go:22", after := #[{ on := 20, ground := Ground.guard }], guard := some (20, true) }) (v := undef) rfl (by kernel_rfl) (by kernel_rfl) (by kernel_rfl) (fun _ _ _ h => h) (Or.inr ⟨by kernel_rfl, rfl⟩) hHeld ?_
        simp only [Act.put, List.setIfInBounds_toArray, List.set_cons_zero, List.set_cons_succ]
        refine wpAnyH_take (i := 22) (oi := { dst := some 109, op := Op.move (Operand.tmp 15), type := 3, pos := "more.go:22", after := #[{ on := 20, ground := Ground.guard }], guard := some (20, true) }) (v := undef) rfl (by kernel_rfl) (by kernel_rfl) (by kernel_rfl) (fun _ _ _ h => h) (Or.inr ⟨by kernel_rfl, rfl⟩) hHeld ?_
        simp only [Act.put, List.setIfInBounds_toArray, List.set_cons_zero, List.set_cons_succ]
        refine wpAnyH_take (i := 23) (oi := { dst := some 110, op := Op.indexAddr 30 (Operand.tmp 108) (Operand.tmp 109), type := 0, pos := "more.go:22", after := #[{ on := 21, ground := Ground.data }, { on := 22, ground := Ground.data }, { on := 20, ground := Ground.guard }], guard := some (20, true) }) (v := undef) rfl (by kernel_rfl) (by kernel_rfl) (by kernel_rfl) (fun _ _ _ h => h) (Or.inr ⟨by kernel_rfl, rfl⟩) hHeld ?_
        simp only [Act.put, List.setIfInBounds_toArray, List.set_cons_zero, List.set_cons_succ]
        refine wpAnyH_take (i := 24) (oi := { dst := some 111, op := Op.load 3 (Operand.tmp 110), type := 3, pos := "more.go:22", after := #[{ on := 23, ground := Ground.data }, { on := 20, ground := Ground.guard }], guard := some (20, true) }) (v := undef) rfl (by kernel_rfl) (by kernel_rfl) (by kernel_rfl) (fun _ _ _ h => h) (Or.inr ⟨by kernel_rfl, rfl⟩) hHeld ?_
        simp only [Act.put, List.setIfInBounds_toArray, List.set_cons_zero, List.set_cons_succ]
        refine wpAnyH_take (i := 25) (oi := { dst := some 112, op := Op.move (Operand.tmp 12), type := 30, pos := "more.go:22", after := #[{ on := 20, ground := Ground.guard }], guard := some (20, true) }) (v := undef) rfl (by kernel_rfl) (by kernel_rfl) (by kernel_rfl) (fun _ _ _ h => h) (Or.inr ⟨by kernel_rfl, rfl⟩) hHeld ?_
        simp only [Act.put, List.setIfInBounds_toArray, List.set_cons_zero, List.set_cons_succ]
        refine wpAnyH_take (i := 26) (oi := { dst := some 113, op := Op.move (Operand.tmp 15), type := 3, pos := "more.go:22", after := #[{ on := 20, ground := Ground.guard }], guard := some (20, true) }) (v := undef) rfl (by kernel_rfl) (by kernel_rfl) (by kernel_rfl) (fun _ _ _ h => h) (Or.inr ⟨by kernel_rfl, rfl⟩) hHeld ?_
        simp only [Act.put, List.setIfInBounds_toArray, List.set_cons_zero, List.set_cons_succ]
        refine wpAnyH_take (i := 27) (oi := { dst := some 114, op := Op.move (Operand.tmp 10), type := 30, pos := "more.go:22", after := #[{ on := 20, ground := Ground.guard }], guard := some (20, true) }) (v := undef) rfl (by kernel_rfl) (by kernel_rfl) (by kernel_rfl) (fun _ _ _ h => h) (Or.inr ⟨by kernel_rfl, rfl⟩) hHeld ?_
        simp only [Act.put, List.setIfInBounds_toArray, List.set_cons_zero, List.set_cons_succ]
        refine wpAnyH_take (i := 28) (oi := { dst := some 115, op := Op.call { callee := Callee.builtin Builtin.len, args := #[Operand.tmp 114], argTypes := #[30] }, type := 3, pos := "more.go:22", after := #[{ on := 27, ground := Ground.data }, { on := 20, ground := Ground.guard }], guard := some (20, true) }) (v := undef) rfl (by kernel_rfl) (by kernel_rfl) (by kernel_rfl) (fun _ _ _ h => h) (Or.inr ⟨by kernel_rfl, rfl⟩) hHeld ?_
        simp only [Act.put, List.setIfInBounds_toArray, List.set_cons_zero, List.set_cons_succ]
        refine wpAnyH_take (i := 29) (oi := { dst := some 116, op := Op.binOp BinOp.sub 3 (Operand.tmp 113) (Operand.tmp 115) 3, type := 3, pos := "more.go:22", after := #[{ on := 26, ground := Ground.data }, { on := 28, ground := Ground.data }, { on := 20, ground := Ground.guard }], guard := some (20, true) }) (v := undef) rfl (by kernel_rfl) (by kernel_rfl) (by kernel_rfl) (fun _ _ _ h => h) (Or.inr ⟨by kernel_rfl, rfl⟩) hHeld ?_
        simp only [Act.put, List.setIfInBounds_toArray, List.set_cons_zero, List.set_cons_succ]
        refine wpAnyH_take (i := 30) (oi := { dst := some 117, op := Op.indexAddr 30 (Operand.tmp 112) (Operand.tmp 116), type := 0, pos := "more.go:22", after := #[{ on := 25, ground := Ground.data }, { on := 29, ground := Ground.data }, { on := 20, ground := Ground.guard }], guard := some (20, true) }) (v := undef) rfl (by kernel_rfl) (by kernel_rfl) (by kernel_rfl) (fun _ _ _ h => h) (Or.inr ⟨by kernel_rfl, rfl⟩) hHeld ?_
        simp only [Act.put, List.setIfInBounds_toArray, List.set_cons_zero, List.set_cons_succ]
        refine wpAnyH_take (i := 31) (oi := { dst := some 118, op := Op.load 3 (Operand.tmp 117), type := 3, pos := "more.go:22", after := #[{ on := 30, ground := Ground.data }, { on := 20, ground := Ground.guard }], guard := some (20, true) }) (v := undef) rfl (by kernel_rfl) (by kernel_rfl) (by kernel_rfl) (fun _ _ _ h => h) (Or.inr ⟨by kernel_rfl, rfl⟩) hHeld ?_
        simp only [Act.put, List.setIfInBounds_toArray, List.set_cons_zero, List.set_cons_succ]
        refine wpAnyH_take (i := 32) (oi := { dst := some 119, op := Op.binOp BinOp.neq 3 (Operand.tmp 111) (Operand.tmp 118) 3, type := 4, pos := "more.go:22", after := #[{ on := 24, ground := Ground.data }, { on := 31, ground := Ground.data }, { on := 20, ground := Ground.guard }], guard := some (20, true) }) (v := undef) rfl (by kernel_rfl) (by kernel_rfl) (by kernel_rfl) (fun _ _ _ h => h) (Or.inr ⟨by kernel_rfl, rfl⟩) hHeld ?_
        simp only [Act.put, List.setIfInBounds_toArray, List.set_cons_zero, List.set_cons_succ]
        refine wpAnyH_take (i := 33) (oi := { dst := some 120, op := Op.pick (Operand.tmp 107) (Operand.tmp 119) (Operand.const (Value.bool false)), type := 4, pos := "more.go:22", after := #[{ on := 20, ground := Ground.data }, { on := 32, ground := Ground.data }, { on := 15, ground := Ground.guard }], guard := some (15, false) }) (v := ?_) rfl (by kernel_rfl) (by kernel_rfl) (by kernel_rfl) (fun _ _ _ h => h) (Or.inl ⟨by kernel_rfl, ?_⟩) hHeld ?_
        rotate_left
        · intro w9 hSw; (try dsimp only at hSw); go_simp; try with_reducible rfl
        simp only [Act.put, List.setIfInBounds_toArray, List.set_cons_zero, List.set_cons_succ]
        refine wpAnyH_take (i := 34) (oi := { dst := some 121, op := Op.pick (Operand.tmp 102) (Operand.const (Value.bool true)) (Operand.tmp 120), type := 4, pos := "more.go:22", after := #[{ on := 15, ground := Ground.data }, { on := 33, ground := Ground.data }], guard := none }) (v := ?_) rfl (by kernel_rfl) (by kernel_rfl) (by kernel_rfl) (fun _ _ _ h => h) (Or.inl ⟨by kernel_rfl, ?_⟩) hHeld ?_
        rotate_left
        · intro w9 hSw; (try dsimp only at hSw); go_simp; try with_reducible rfl
        simp only [Act.put, List.setIfInBounds_toArray, List.set_cons_zero, List.set_cons_succ]
        refine wpAnyH_done (by kernel_rfl) ?_ _
        go_wp2
        go_roundw
        case rel => exact ⟨q + 1, by omega, by go_num, HV.out.drew⟩
        case measure => simp [intOf]; omega
      · obtain ⟨r2, hr2⟩ : ∃ r2, q - m5 = r2 := ⟨_, rfl⟩
        have hr3 : r2 < m6 := by have := HMM.out; omega
        obtain ⟨ib, io, rfl, hbi, f1⟩ := (Hj.out.below HV.out).at_ r2 hr3
        rw [HKK.out, app_ge (by rw [EK.out]; omega), EK.out, hr2] at f0
        generalize KJ.getD r2 0 = y at f0 f1
        have hyy : (y != y) = false := by simp
        have z1 : decide ((q : Int) < (m5 : Int)) = false := decide_eq_false (by omega)
        have z2 : decide ((m5 : Int) ≤ (q : Int)) = true := decide_eq_true (by omega)
        have z3 : decide (m5 ≤ q) = true := decide_eq_true (by omega)
        have z4 : IntKind.i64.wrap ((q : Int) - (m5 : Int)) = (r2 : Int) := by rw [IntKind.wrap_i64]; omega
        have hr0 : (0 : Int) ≤ (r2 : Int) := by omega
        have hr6 : (r2 : Int) < (m6 : Int) := by omega
        go_upto_region 13 with (fail)
        have hHeld0 : (fun w9 => w9.cell? ⟨kb, ko + q, none⟩ = some (.int .i64 y) ∧ w9.cell? ⟨ib, io + r2, none⟩ = some (.int .i64 y)) wr.drew := ⟨f0, f1⟩
        refine wp_region_held_drew (S := fun w9 => w9.cell? ⟨kb, ko + q, none⟩ = some (.int .i64 y) ∧ w9.cell? ⟨ib, io + r2, none⟩ = some (.int .i64 y)) (by kernel_rfl) hHeld0 (fun hHeld => ?_)
        clear hHeld0
        refine wpAnyH_take (i := 0) (oi := { dst := some 87, op := Op.move (Operand.tmp 15), type := 3, pos := "more.go:22", after := #[], guard := none }) (v := ?_) rfl (by kernel_rfl) (by kernel_rfl) (by kernel_rfl) (fun _ _ _ h => h) (Or.inl ⟨by kernel_rfl, ?_⟩) hHeld ?_
        rotate_left
        · intro w9 hSw; (try dsimp only at hSw); go_simp; try with_reducible rfl
        simp only [Act.put, List.setIfInBounds_toArray, List.set_cons_zero, List.set_cons_succ]
        refine wpAnyH_take (i := 1) (oi := { dst := some 88, op := Op.move (Operand.tmp 10), type := 30, pos := "more.go:22", after := #[], guard := none }) (v := ?_) rfl (by kernel_rfl) (by kernel_rfl) (by kernel_rfl) (fun _ _ _ h => h) (Or.inl ⟨by kernel_rfl, ?_⟩) hHeld ?_
        rotate_left
        · intro w9 hSw; (try dsimp only at hSw); go_simp; try with_reducible rfl
        simp only [Act.put, List.setIfInBounds_toArray, List.set_cons_zero, List.set_cons_succ]
        refine wpAnyH_take (i := 2) (oi := { dst := some 89, op := Op.call { callee := Callee.builtin Builtin.len, args := #[Operand.tmp 88], argTypes := #[30] }, type := 3, pos := "more.go:22", after := #[{ on := 1, ground := Ground.data }], guard := none }) (v := ?_) rfl (by kernel_rfl) (by kernel_rfl) (by kernel_rfl) (fun _ _ _ h => h) (Or.inl ⟨by kernel_rfl, ?_⟩) hHeld ?_
        rotate_left
        · intro w9 hSw; (try dsimp only at hSw); go_simp; try with_reducible rfl
        simp only [Act.put, List.setIfInBounds_toArray, List.set_cons_zero, List.set_cons_succ]
        refine wpAnyH_take (i := 3) (oi := { dst := some 90, op := Op.binOp BinOp.lss 3 (Operand.tmp 87) (Operand.tmp 89) 3, type := 4, pos := "more.go:22", after := #[{ on := 0, ground := Ground.data }, { on := 2, ground := Ground.data }], guard := none }) (v := ?_) rfl (by kernel_rfl) (by kernel_rfl) (by kernel_rfl) (fun _ _ _ h => h) (Or.inl ⟨by kernel_rfl, ?_⟩) hHeld ?_
        rotate_left
        · intro w9 hSw; (try dsimp only at hSw); go_simp; try with_reducible rfl
        simp only [Act.put, List.setIfInBounds_toArray, List.set_cons_zero, List.set_cons_succ]
        refine wpAnyH_take (i := 4) (oi := { dst := some 91, op := Op.move (Operand.tmp 90), type := 4, pos := "more.go:22", after := #[{ on := 3, ground := Ground.data }], guard := none }) (v := ?_) rfl (by kernel_rfl) (by kernel_rfl) (by kernel_rfl) (fun _ _ _ h => h) (Or.inl ⟨by kernel_rfl, ?_⟩) hHeld ?_
        rotate_left
        · intro w9 hSw; (try dsimp only at hSw); go_simp; try with_reducible rfl
        simp only [Act.put, List.setIfInBounds_toArray, List.set_cons_zero, List.set_cons_succ]
        refine wpAnyH_take (i := 5) (oi := { dst := some 92, op := Op.move (Operand.tmp 14), type := 30, pos := "more.go:22", after := #[{ on := 4, ground := Ground.guard }], guard := some (4, true) }) (v := undef) rfl (by kernel_rfl) (by kernel_rfl) (by kernel_rfl) (fun _ _ _ h => h) (Or.inr ⟨by kernel_rfl, rfl⟩) hHeld ?_
        simp only [Act.put, List.setIfInBounds_toArray, List.set_cons_zero, List.set_cons_succ]
        refine wpAnyH_take (i := 6) (oi := { dst := some 93, op := Op.move (Operand.tmp 15), type := 3, pos := "more.go:22", after := #[{ on := 4, ground := Ground.guard }], guard := some (4, true) }) (v := undef) rfl (by kernel_rfl) (by kernel_rfl) (by kernel_rfl) (fun _ _ _ h => h) (Or.inr ⟨by kernel_rfl, rfl⟩) hHeld ?_
        simp only [Act.put, List.setIfInBounds_toArray, List.set_cons_zero, List.set_cons_succ]
        refine wpAnyH_take (i := 7) (oi := { dst := some 94, op := Op.indexAddr 30 (Operand.tmp 92) (Operand.tmp 93), type := 0, pos := "more.go:22", after := #[{ on := 5, ground := Ground.data }, { on := 6, ground := Ground.data }, { on := 4, ground := Ground.guard }], guard := some (4, true) }) (v := undef) rfl (by kernel_rfl) (by kernel_rfl) (by kernel_rfl) (fun _ _ _ h => h) (Or.inr ⟨by kernel_rfl, rfl⟩) hHeld ?_
        simp only [Act.put, List.setIfInBounds_toArray, List.set_cons_zero, List.set_cons_succ]
        refine wpAnyH_take (i := 8) (oi := { dst := some 95, op := Op.load 3 (Operand.tmp 94), type := 3, pos := "more.go:22", after := #[{ on := 7, ground := Ground.data }, { on := 4, ground := Ground.guard }], guard := some (4, true) }) (v := undef) rfl (by kernel_rfl) (by kernel_rfl) (by kernel_rfl) (fun _ _ _ h => h) (Or.inr ⟨by kernel_rfl, rfl⟩) hHeld ?_
        simp only [Act.put, List.setIfInBounds_toArray, List.set_cons_zero, List.set_cons_succ]
        refine wpAnyH_take (i := 9) (oi := { dst := some 96, op := Op.move (Operand.tmp 10), type := 30, pos := "more.go:22", after := #[{ on := 4, ground := Ground.guard }], guard := some (4, true) }) (v := undef) rfl (by kernel_rfl) (by kernel_rfl) (by kernel_rfl) (fun _ _ _ h => h) (Or.inr ⟨by kernel_rfl, rfl⟩) hHeld ?_
        simp only [Act.put, List.setIfInBounds_toArray, List.set_cons_zero, List.set_cons_succ]
        refine wpAnyH_take (i := 10) (oi := { dst := some 97, op := Op.move (Operand.tmp 15), type := 3, pos := "more.go:22", after := #[{ on := 4, ground := Ground.guard }], guard := some (4, true) }) (v := undef) rfl (by kernel_rfl) (by kernel_rfl) (by kernel_rfl) (fun _ _ _ h => h) (Or.inr ⟨by kernel_rfl, rfl⟩) hHeld ?_
        simp only [Act.put, List.setIfInBounds_toArray, List.set_cons_zero, List.set_cons_succ]
        refine wpAnyH_take (i := 11) (oi := { dst := some 98, op := Op.indexAddr 30 (Operand.tmp 96) (Operand.tmp 97), type := 0, pos := "more.go:22", after := #[{ on := 9, ground := Ground.data }, { on := 10, ground := Ground.data }, { on := 4, ground := Ground.guard }], guard := some (4, true) }) (v := undef) rfl (by kernel_rfl) (by kernel_rfl) (by kernel_rfl) (fun _ _ _ h => h) (Or.inr ⟨by kernel_rfl, rfl⟩) hHeld ?_
        simp only [Act.put, List.setIfInBounds_toArray, List.set_cons_zero, List.set_cons_succ]
        refine wpAnyH_take (i := 12) (oi := { dst := some 99, op := Op.load 3 (Operand.tmp 98), type := 3, pos := "more.go:22", after := #[{ on := 11, ground := Ground.data }, { on := 4, ground := Ground.guard }], guard := some (4, true) }) (v := undef) rfl (by kernel_rfl) (by kernel_rfl) (by kernel_rfl) (fun _ _ _ h => h) (Or.inr ⟨by kernel_rfl, rfl⟩) hHeld ?_
        simp only [Act.put, List.setIfInBounds_toArray, List.set_cons_zero, List.set_cons_succ]
        refine wpAnyH_take (i := 13) (oi := { dst := some 100, op := Op.binOp BinOp.neq 3 (Operand.tmp 95) (Operand.tmp 99) 3, type := 4, pos := "more.go:22", after := #[{ on := 8, ground := Ground.data }, { on := 12, ground := Ground.data }, { on := 4, ground := Ground.guard }], guard := some (4, true) }) (v := undef) rfl (by kernel_rfl) (by kernel_rfl) (by kernel_rfl) (fun _ _ _ h => h) (Or.inr ⟨by kernel_rfl, rfl⟩) hHeld ?_
        simp only [Act.put, List.setIfInBounds_toArray, List.set_cons_zero, List.set_cons_succ]
        refine wpAnyH_take (i := 14) (oi := { dst := some 101, op := Op.pick (Operand.tmp 91) (Operand.tmp 100) (Operand.const (Value.bool false)), type := 4, pos := "more.go:22", after := #[{ on := 4, ground := Ground.data }, { on := 13, ground := Ground.data }], guard := none }) (v := ?_) rfl (by kernel_rfl) (by kernel_rfl) (by kernel_rfl) (fun _ _ _ h => h) (Or.inl ⟨by kernel_rfl, ?_⟩) hHeld ?_
        rotate_left
        · intro w9 hSw; (try dsimp only at hSw); go_simp; try with_reducible rfl
        simp only [Act.put, List.setIfInBounds_toArray, List.set_cons_zero, List.set_cons_succ]
        refine wpAnyH_take (i := 15) (oi := { dst := some 102, op := Op.move (Operand.tmp 101), type := 4, pos := "more.go:22", after := #[{ on := 14, ground := Ground.data }, { on := 4, ground := Ground.chain }], guard := none }) (v := ?_) rfl (by kernel_rfl) (by kernel_rfl) (by kernel_rfl) (fun _ _ _ h => h) (Or.inl ⟨by kernel_rfl, ?_⟩) hHeld ?_
        rotate_left
        · intro w9 hSw; (try dsimp only at hSw); go_simp; try with_reducible rfl
        simp only [Act.put, List.setIfInBounds_toArray, List.set_cons_zero, List.set_cons_succ]
        refine wpAnyH_take (i := 16) (oi := { dst := some 103, op := Op.move (Operand.tmp 15), type := 3, pos := "more.go:22", after := #[{ on := 15, ground := Ground.guard }], guard := some (15, false) }) (v := ?_) rfl (by kernel_rfl) (by kernel_rfl) (by kernel_rfl) (fun _ _ _ h => h) (Or.inl ⟨by kernel_rfl, ?_⟩) hHeld ?_
        rotate_left
        · intro w9 hSw; (try dsimp only at hSw); go_simp; try with_reducible rfl
        simp only [Act.put, List.setIfInBounds_toArray, List.set_cons_zero, List.set_cons_succ]
        refine wpAnyH_take (i := 17) (oi := { dst := some 104, op := Op.move (Operand.tmp 10), type := 30, pos := "more.go:22", after := #[{ on := 15, ground := Ground.guard }], guard := some (15, false) }) (v := ?_) rfl (by kernel_rfl) (by kernel_rfl) (by kernel_rfl) (fun _ _ _ h => h) (Or.inl ⟨by kernel_rfl, ?_⟩) hHeld ?_
        rotate_left
        · intro w9 hSw; (try dsimp only at hSw); go_simp; try with_reducible rfl
        simp only [Act.put, List.setIfInBounds_toArray, List.set_cons_zero, List.set_cons_succ]
        refine wpAnyH_take (i := 18) (oi := { dst := some 105, op := Op.call { callee := Callee.builtin Builtin.len, args := #[Operand.tmp 104], argTypes := #[30] }, type := 3, pos := "more.go:22", after := #[{ on := 17, ground := Ground.data }, { on := 15, ground := Ground.guard }], guard := some (15, false) }) (v := ?_) rfl (by kernel_rfl) (by kernel_rfl) (by kernel_rfl) (fun _ _ _ h => h) (Or.inl ⟨by kernel_rfl, ?_⟩) hHeld ?_
        rotate_left
        · intro w9 hSw; (try dsimp only at hSw); go_simp; try with_reducible rfl
        simp only [Act.put, List.setIfInBounds_toArray, List.set_cons_zero, List.set_cons_succ]
        refine wpAnyH_take (i := 19) (oi := { dst := some 106, op := Op.binOp BinOp.geq 3 (Operand.tmp 103) (Operand.tmp 105) 3, type := 4, pos := "more.go:22", after := #[{ on := 16, ground := Ground.data }, { on := 18, ground := Ground.data }, { on := 15, ground := Ground.guard }], guard := some (15, false) }) (v := ?_) rfl (by kernel_rfl) (by kernel_rfl) (by kernel_rfl) (fun _ _ _ h => h) (Or.inl ⟨by kernel_rfl, ?_⟩) hHeld ?_
        rotate_left
        · intro w9 hSw; (try dsimp only at hSw); go_simp; try with_reducible rfl
        simp only [Act.put, List.setIfInBounds_toArray, List.set_cons_zero, List.set_cons_succ]
        refine wpAnyH_take (i := 20) (oi := { dst := some 107, op := Op.move (Operand.tmp 106), type := 4, pos := "more.go:22", after := #[{ on := 19, ground := Ground.data }, { on := 15, ground := Ground.chain }, { on := 15, ground := Ground.guard }], guard := some (15, false) }) (v := ?_) rfl (by kernel_rfl) (by kernel_rfl) (by kernel_rfl) (fun _ _ _ h => h) (Or.inl ⟨by kernel_rfl, ?_⟩) hHeld ?_
        rotate_left
        · intro w9 hSw; (try dsimp only at hSw); go_simp; try with_reducible rfl
        simp only [Act.put, List.setIfInBounds_toArray, List.set_cons_zero, List.set_cons_succ]
        refine wpAnyH_take (i := 21) (oi := { dst := some 108, op := Op.move (Operand.tmp 14), type := 30, pos := "more.go:22", after := #[{ on := 20, ground := Ground.guard }], guard := some (20, true) }) (v := ?_) rfl (by kernel_rfl) (by kernel_rfl) (by kernel_rfl) (fun _ _ _ h => h) (Or.inl ⟨by kernel_rfl, ?_⟩) hHeld ?_
        rotate_left
        · intro w9 hSw; (try dsimp only at hSw); go_simp; try with_reducible rfl
        simp only [Act.put, List.setIfInBounds_toArray, List.set_cons_zero, List.set_cons_succ]
        refine wpAnyH_take (i := 22) (oi := { dst := some 109, op := Op.move (Operand.tmp 15), type := 3, pos := "more.go:22", after := #[{ on := 20, ground := Ground.guard }], guard := some (20, true) }) (v := ?_) rfl (by kernel_rfl) (by kernel_rfl) (by kernel_rfl) (fun _ _ _ h => h) (Or.inl ⟨by kernel_rfl, ?_⟩) hHeld ?_
        rotate_left
        · intro w9 hSw; (try dsimp only at hSw); go_simp; try with_reducible rfl
        simp only [Act.put, List.setIfInBounds_toArray, List.set_cons_zero, List.set_cons_succ]
        refine wpAnyH_take (i := 23) (oi := { dst := some 110, op := Op.indexAddr 30 (Operand.tmp 108) (Operand.tmp 109), type := 0, pos := "more.go:22", after := #[{ on := 21, ground := Ground.data }, { on := 22, ground := Ground.data }, { on := 20, ground := Ground.guard }], guard := some (20, true) }) (v := ?_) rfl (by kernel_rfl) (by kernel_rfl) (by kernel_rfl) (fun _ _ _ h => h) (Or.inl ⟨by kernel_rfl, ?_⟩) hHeld ?_
        rotate_left
        · intro w9 hSw; (try dsimp only at hSw); go_simp; try with_reducible rfl
        simp only [Act.put, List.setIfInBounds_toArray, List.set_cons_zero, List.set_cons_succ]
        refine wpAnyH_take (i := 24) (oi := { dst := some 111, op := Op.load 3 (Operand.tmp 110), type := 3, pos := "more.go:22", after := #[{ on := 23, ground := Ground.data }, { on := 20, ground := Ground.guard }], guard := some (20, true) }) (v := ?_) rfl (by kernel_rfl) (by kernel_rfl) (by kernel_rfl) (fun _ _ _ h => h) (Or.inl ⟨by kernel_rfl, ?_⟩) hHeld ?_
        rotate_left
        · intro w9 hSw; (try dsimp only at hSw); go_simp; try with_reducible rfl
        simp only [Act.put, List.setIfInBounds_toArray, List.set_cons_zero, List.set_cons_succ]
        refine wpAnyH_take (i := 25) (oi := { dst := some 112, op := Op.move (Operand.tmp 12), type := 30, pos := "more.go:22", after := #[{ on := 20, ground := Ground.guard }], guard := some (20, true) }) (v := ?_) rfl (by kernel_rfl) (by kernel_rfl) (by kernel_rfl) (fun _ _ _ h => h) (Or.inl ⟨by kernel_rfl, ?_⟩) hHeld ?_
        rotate_left
        · intro w9 hSw; (try dsimp only at hSw); go_simp; try with_reducible rfl
        simp only [Act.put, List.setIfInBounds_toArray, List.set_cons_zero, List.set_cons_succ]
        refine wpAnyH_take (i := 26) (oi := { dst := some 113, op := Op.move (Operand.tmp 15), type := 3, pos := "more.go:22", after := #[{ on := 20, ground := Ground.guard }], guard := some (20, true) }) (v := ?_) rfl (by kernel_rfl) (by kernel_rfl) (by kernel_rfl) (fun _ _ _ h => h) (Or.inl ⟨by kernel_rfl, ?_⟩) hHeld ?_
        rotate_left
        · intro w9 hSw; (try dsimp only at hSw); go_simp; try with_reducible rfl
        simp only [Act.put, List.setIfInBounds_toArray, List.set_cons_zero, List.set_cons_succ]
        refine wpAnyH_take (i := 27) (oi := { dst := some 114, op := Op.move (Operand.tmp 10), type := 30, pos := "more.go:22", after := #[{ on := 20, ground := Ground.guard }], guard := some (20, true) }) (v := ?_) rfl (by kernel_rfl) (by kernel_rfl) (by kernel_rfl) (fun _ _ _ h => h) (Or.inl ⟨by kernel_rfl, ?_⟩) hHeld ?_
        rotate_left
        · intro w9 hSw; (try dsimp only at hSw); go_simp; try with_reducible rfl
        simp only [Act.put, List.setIfInBounds_toArray, List.set_cons_zero, List.set_cons_succ]
        refine wpAnyH_take (i := 28) (oi := { dst := some 115, op := Op.call { callee := Callee.builtin Builtin.len, args := #[Operand.tmp 114], argTypes := #[30] }, type := 3, pos := "more.go:22", after := #[{ on := 27, ground := Ground.data }, { on := 20, ground := Ground.guard }], guard := some (20, true) }) (v := ?_) rfl (by kernel_rfl) (by kernel_rfl) (by kernel_rfl) (fun _ _ _ h => h) (Or.inl ⟨by kernel_rfl, ?_⟩) hHeld ?_
        rotate_left
        · intro w9 hSw; (try dsimp only at hSw); go_simp; try with_reducible rfl
        simp only [Act.put, List.setIfInBounds_toArray, List.set_cons_zero, List.set_cons_succ]
        refine wpAnyH_take (i := 29) (oi := { dst := some 116, op := Op.binOp BinOp.sub 3 (Operand.tmp 113) (Operand.tmp 115) 3, type := 3, pos := "more.go:22", after := #[{ on := 26, ground := Ground.data }, { on := 28, ground := Ground.data }, { on := 20, ground := Ground.guard }], guard := some (20, true) }) (v := ?_) rfl (by kernel_rfl) (by kernel_rfl) (by kernel_rfl) (fun _ _ _ h => h) (Or.inl ⟨by kernel_rfl, ?_⟩) hHeld ?_
        rotate_left
        · intro w9 hSw; (try dsimp only at hSw); go_simp; try with_reducible rfl
        simp only [Act.put, List.setIfInBounds_toArray, List.set_cons_zero, List.set_cons_succ]
        refine wpAnyH_take (i := 30) (oi := { dst := some 117, op := Op.indexAddr 30 (Operand.tmp 112) (Operand.tmp 116), type := 0, pos := "more.go:22", after := #[{ on := 25, ground := Ground.data }, { on := 29, ground := Ground.data }, { on := 20, ground := Ground.guard }], guard := some (20, true) }) (v := ?_) rfl (by kernel_rfl) (by kernel_rfl) (by kernel_rfl) (fun _ _ _ h => h) (Or.inl ⟨by kernel_rfl, ?_⟩) hHeld ?_
        rotate_left
        · intro w9 hSw; (try dsimp only at hSw); go_simp; try with_reducible rfl
        simp only [Act.put, List.setIfInBounds_toArray, List.set_cons_zero, List.set_cons_succ]
        refine wpAnyH_take (i := 31) (oi := { dst := some 118, op := Op.load 3 (Operand.tmp 117), type := 3, pos := "more.go:22", after := #[{ on := 30, ground := Ground.data }, { on := 20, ground := Ground.guard }], guard := some (20, true) }) (v := ?_) rfl (by kernel_rfl) (by kernel_rfl) (by kernel_rfl) (fun _ _ _ h => h) (Or.inl ⟨by kernel_rfl, ?_⟩) hHeld ?_
        rotate_left
        · intro w9 hSw; (try dsimp only at hSw); go_simp; try with_reducible rfl
        simp only [Act.put, List.setIfInBounds_toArray, List.set_cons_zero, List.set_cons_succ]
        refine wpAnyH_take (i := 32) (oi := { dst := some 119, op := Op.binOp BinOp.neq 3 (Operand.tmp 111) (Operand.tmp 118) 3, type := 4, pos := "more.go:22", after := #[{ on := 24, ground := Ground.data }, { on := 31, ground := Ground.data }, { on := 20, ground := Ground.guard }], guard := some (20, true) }) (v := ?_) rfl (by kernel_rfl) (by kernel_rfl) (by kernel_rfl) (fun _ _ _ h => h) (Or.inl ⟨by kernel_rfl, ?_⟩) hHeld ?_
        rotate_left
        · intro w9 hSw; (try dsimp only at hSw); go_simp; try with_reducible rfl
        simp only [Act.put, List.setIfInBounds_toArray, List.set_cons_zero, List.set_cons_succ]
        refine wpAnyH_take (i := 33) (oi := { dst := some 120, op := Op.pick (Operand.tmp 107) (Operand.tmp 119) (Operand.const (Value.bool false)), type := 4, pos := "more.go:22", after := #[{ on := 20, ground := Ground.data }, { on := 32, ground := Ground.data }, { on := 15, ground := Ground.guard }], guard := some (15, false) }) (v := ?_) rfl (by kernel_rfl) (by kernel_rfl) (by kernel_rfl) (fun _ _ _ h => h) (Or.inl ⟨by kernel_rfl, ?_⟩) hHeld ?_
        rotate_left
        · intro w9 hSw; (try dsimp only at hSw); go_simp; try with_reducible rfl
        simp only [Act.put, List.setIfInBounds_toArray, List.set_cons_zero, List.set_cons_succ]
        refine wpAnyH_take (i := 34) (oi := { dst := some 121, op := Op.pick (Operand.tmp 102) (Operand.const (Value.bool true)) (Operand.tmp 120), type := 4, pos := "more.go:22", after := #[{ on := 15, ground := Ground.data }, { on := 33, ground := Ground.data }], guard := none }) (v := ?_) rfl (by kernel_rfl) (by kernel_rfl) (by kernel_rfl) (fun _ _ _ h => h) (Or.inl ⟨by kernel_rfl, ?_⟩) hHeld ?_
        rotate_left
        · intro w9 hSw; (try dsimp only at hSw); go_simp; try with_reducible rfl
        simp only [Act.put, List.setIfInBounds_toArray, List.set_cons_zero, List.set_cons_succ]
        refine wpAnyH_done (by kernel_rfl) ?_ _
        go_wp2
        go_roundw
        case rel => exact ⟨q + 1, by omega, by go_num, HV.out.drew⟩
        case measure => simp [intOf]; omega
    · obtain rfl : q = m8 := by omega
      go_wp2
      go_ret
      exact ⟨rfl, below_then HB.out HV.out⟩
end Go.Proofs.Ytpkfmbknbdlnpaa
