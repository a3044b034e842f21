/-
  HistOrder answers true, whatever was told.
-/
import Derived.Test.YtpkjepbeeebdoaaDoorHistAwake
import Derived.Test.YtpkjepbeeebdoaaDoorHistOrderLex
import Derived.Deep.RegionHeld3
import Derived.BigQuiet
namespace Go.Proofs.YtpkjepbeeebdoaaDoor
open Go.RowKit

/-- What is known of the operation at a place: of which event it is; it begins ahead of its return; one without a return did nothing. -/
theorem ho_facts {l : List Evt} {d : Int} {j : Nat} (hj : j < (hoL l d).length) : ∃ i : Nat, i < l.length ∧ (l.getD i ez).a = d ∧ (l.getD i ez).t = ((hoL l d).getD j hz).t ∧ ((hoL l d).getD j hz).f = i ∧
    0 ≤ ((hoL l d).getD j hz).k ∧ ((hoL l d).getD j hz).k ≤ 7 ∧ ((hoL l d).getD j hz).e < l.length ∧ (0 ≤ ((hoL l d).getD j hz).e → (i : Int) < ((hoL l d).getD j hz).e) ∧
    (((hoL l d).getD j hz).e < 0 → ((hoL l d).getD j hz).y = false ∧ ((hoL l d).getD j hz).r = 0) := by
  obtain ⟨i, h1, h2, h3, h4⟩ := ho_get hj
  rw [h4]
  have h5 : bkP l i < l.length ∧ (0 ≤ bkP l i → (i : Int) < bkP l i) := by
    rcases bk_lt l i with g | g
    · constructor <;> omega
    · obtain ⟨m, g1, g2, g3, _⟩ := bk_at g
      constructor <;> omega
  refine ⟨i, h1, h2, (op_t l i).symm, op_f l i, by rw [op_k]; exact h3, by rw [op_k]; exact (clK_in _).2, by rw [op_e]; exact h5.1, by rw [op_e]; exact h5.2, op_none l i⟩
set_option maxHeartbeats 8000000 in
set_option maxRecDepth 8000 in
theorem horder_any (A : Option Addr) (n c : Nat) (l : List Evt) (d : Int) (w : World) (h : Rw evK w A n c l) (hT : TabH w) :
    Calls Tryd.prog 3 #[.slice A n c, .int .i64 d] w fun e w' => e = .returned (.bool true) ∧ Below w.heap.size w w' := by
  have H := Lib.hid h
  have HL := Lib.hid h.len
  have HT := Lib.hid hT
  clear h hT
  by_cases hn : n ≤ 300
  rotate_left
  · have d1 : decide ((300 : Int) < (n : Int)) = true := decide_eq_true (by omega)
    go_enter Tryd.func3, Tryd.ntmps3
    go_wp2_with (go_at_call 5; (with_reducible refine (hawake_any _ HT.out).mono ?_); rintro e w1 ⟨rfl, hb⟩; have HB := Lib.hid hb; have H := Lib.hid (H.out.below hb); clear hb)
    go_ret
    exact ⟨rfl, HB.out⟩
  have d1 : decide ((300 : Int) < (n : Int)) = false := decide_eq_false (by omega)
  have hn1 : n ≤ 1000 := by omega
  cases hb0 : hoB l d
  · have HE := Lib.hid (ho_none hb0)
    have HB0 := Lib.hid hb0
    clear hb0
    go_enter Tryd.func3, Tryd.ntmps3
    go_upto_region 5 with (first
    | (go_at_call 5; (with_reducible refine (hawake_any _ HT.out).mono ?_); rintro e w1 ⟨rfl, hb⟩; have HB := Lib.hid hb; have H := Lib.hid (H.out.below hb); clear hb)
    | (go_at_call 6; (with_reducible refine (hops_at A n c l d [] false _ hn1 HE.out HB0.out H.out (HT.out.keep HB.out)).mono ?_); rintro e w2 ⟨A2, n2, c2, rfl, hi, hb⟩; have HB := Lib.hid (below_then HB.out hb); have HN := Lib.hid hi; clear hi hb))
    obtain rfl : 0 = n2 := by exact HN.out.len
    go_wp2
    go_ret
    exact ⟨rfl, HB.out⟩
  have HB0 := Lib.hid hb0
  have HF := Lib.hid (fun j hj => ho_facts (l := l) (d := d) (j := j) hj)
  have HR := Lib.hid (fun q j hq hj => ho_rise (h := l) (a := d) (q := q) (j := j) hq hj)
  have HP := Lib.hid (fun q j hq hj ht => ho_apart (h := l) (a := d) (q := q) (j := j) hq hj ht)
  have HK := Lib.hid (ho_le l d)
  clear hb0
  obtain ⟨M, hM⟩ : ∃ M, hoL l d = M := ⟨_, rfl⟩
  have HM0 := Lib.hid hM
  rw [hM] at HF HR HP HK
  clear hM
  go_enter Tryd.func3, Tryd.ntmps3
  go_upto_region 5 with (first
    | (go_at_call 5; (with_reducible refine (hawake_any _ HT.out).mono ?_); rintro e w1 ⟨rfl, hb⟩; have HB := Lib.hid hb; have H := Lib.hid (H.out.below hb); clear hb)
    | (go_at_call 6; (with_reducible refine (hops_at A n c l d M true _ hn1 HM0.out HB0.out H.out (HT.out.keep HB.out)).mono ?_); rintro e w2 ⟨A2, n2, c2, rfl, hi, hb⟩; have HB := Lib.hid (below_then HB.out hb); have H := Lib.hid (H.out.below hb); have HN := Lib.hid hi; clear hi hb))
  obtain rfl : M.length = n2 := HN.out.len
  have hmn : M.length ≤ 300 := by have := HK.out; have := HL.out; omega
  go_upto_region 8 with (fail)
  go_loopw [8] (fun i wr => ∃ j : Nat, j ≤ M.length ∧ i = .int .i64 j ∧ Below w2.heap.size w2 wr) (fun i _ => ((M.length : Int) - intOf i).toNat)
  case atStart => exact ⟨0, by omega, rfl, Below.refl _ _⟩
  case round =>
    obtain ⟨j, hj, rfl, hb⟩ := hrel
    have HV := Lib.hid hb
    clear hb
    obtain ⟨W0, rfl⟩ : ∃ W0, W0 = wr := ⟨_, rfl⟩
    by_cases hlt : j < M.length
    · obtain ⟨i, hi, ha, ht, hf, hk0, hk7, he1, he2, he3⟩ := HF.out j hlt
      have hin : i < n := by rw [← HL.out]; exact hi
      obtain ⟨xb, xo, hA2, hbl, f0, f1, f2, f3, f4, f5, f6⟩ := hp_at (HN.out.below HV.out) j hlt
      obtain ⟨yb, yo, hA, hyl, g0, g1, g2, g3⟩ := ev_at (H.out.below HV.out) i hin
      have HQ := Lib.hid (fun q (hq : q < j) => hp_at (HN.out.below HV.out) q (by omega))
      have HR2 := Lib.hid (fun q (hq : q < j) => HR.out q j hq hlt)
      have HP2 := Lib.hid (fun q (hq : q < j) ht => HP.out q j hq hlt ht)
      rw [ha] at g2
      rw [ht] at g0
      rw [hf] at f5 HR2 HP2
      rw [HL.out] at he1
      obtain ⟨x, hx⟩ : ∃ x, M.getD j hz = x := ⟨_, rfl⟩
      rw [hx] at f0 f1 f2 f3 f4 f6 g0 hk0 hk7 he1 he2 he3 HP2
      obtain ⟨xt, xk, xg, xr, xy, xf, xe⟩ := x
      dsimp only at f0 f1 f2 f3 f4 f6 g0 hk0 hk7 he1 he2 he3 HP2
      clear hx ha ht hf g1 g3
      subst hA2 hA
      have e1 : (d != d) = false := by simp
      have e2 : (xt != xt) = false := by simp
      have e3 : decide ((i : Int) < 0) = false := decide_eq_false (by omega)
      have e4 : decide ((n : Int) ≤ (i : Int)) = false := decide_eq_false (by omega)
      have e5 : decide (n ≤ i) = false := decide_eq_false (by omega)
      have e6 : decide ((n : Int) ≤ xe) = false := decide_eq_false (by omega)
      have e7 : decide (xk < 0) = false := decide_eq_false (by omega)
      have e8 : decide ((7 : Int) < xk) = false := decide_eq_false (by omega)
      have z1 : (0 : Int) ≤ (i : Int) := by omega
      have z2 : (i : Int) < (n : Int) := by omega
      have z3 : ((0 : Int) != 0) = false := by simp
      have HX : Hid (xe < 0 → xy = false ∧ xr = 0) := Lib.hid he3
      have HY : Hid (0 ≤ xe → (i : Int) < xe) := Lib.hid he2
      clear he2 he3 he1
      have HJ : Hid (0 < j → ∃ p, p < j ∧ IntKind.i64.wrap ((j : Int) - 1) = (p : Int) ∧ ∃ y, y < (i : Int) ∧ W0.cell? ⟨xb, xo + p * 7 + 5, none⟩ = some (.int .i64 y)) := Lib.hid (fun hj0 => by
        obtain ⟨b', o', e, _, _, _, _, _, _, k5, _⟩ := HQ.out (j - 1) (by omega)
        cases e
        exact ⟨j - 1, by omega, by rw [IntKind.wrap_i64]; omega, _, HR2.out (j - 1) (by omega), k5⟩)
      have HM2 : Hid (∀ q, q < j → ∃ qt qe, (qt = xt → qe ≤ (i : Int)) ∧ W0.cell? ⟨xb, xo + q * 7, none⟩ = some (.int .i64 qt) ∧ W0.cell? ⟨xb, xo + q * 7 + 6, none⟩ = some (.int .i64 qe)) := Lib.hid (fun q hq => by
        obtain ⟨b', o', e, _, k0, _, _, _, _, _, k6⟩ := HQ.out q hq
        cases e
        exact ⟨_, _, fun e => (by have := HP2.out q hq e; omega), k0, k6⟩)
      clear HQ HR2 HP2
      have parts : (xe < 0 ∨ 0 ≤ xe) ∧ (j = 0 ∨ 0 < j) := by omega
      rcases parts with ⟨hxe | hxe, hj0 | hj0⟩
      · obtain ⟨rfl, rfl⟩ := HX.out hxe
        have v1 : decide (0 ≤ xe) = false := decide_eq_false (by omega)
        have v2 : decide (xe < 0) = true := decide_eq_true hxe
        have v4 : decide (0 < j) = false := decide_eq_false (by omega)
        have v5 : decide ((0 : Int) < (j : Int)) = false := decide_eq_false (by omega)
        clear hj0
        have XB : Hid (Bk hpK (W0.alloc (.cells #[.int .i64 xt, .int .i64 xk, .int .i64 xg, .int .i64 0, .bool false, .int .i64 (i : Int), .int .i64 xe] 28)) W0.heap.size 28 ⟨xt, xk, xg, 0, false, i, xe⟩) := Lib.hid (Bk.at_ (K := hpK) W0 28 ⟨xt, xk, xg, 0, false, i, xe⟩ _ rfl _ rfl)
        have G0 := Lib.hid (below_one W0 (.cells #[.int .i64 xt, .int .i64 xk, .int .i64 xg, .int .i64 0, .bool false, .int .i64 (i : Int), .int .i64 xe] 28))
        obtain ⟨B, hB⟩ : ∃ B, W0.heap.size = B := ⟨_, rfl⟩
        go_upto_region 11 with (fail)
        generalize W0.alloc (.cells #[.int .i64 xt, .int .i64 xk, .int .i64 xg, .int .i64 0, .bool false, .int .i64 (i : Int), .int .i64 xe] 28) = W1 at *
        have m0 := G0.out.cell (p := ⟨yb, yo + i * 4, none⟩) hyl
        have m2 := G0.out.cell (p := ⟨yb, yo + i * 4 + 2, none⟩) hyl
        rw [g0] at m0
        rw [g2] at m2
        have HM3 : Hid (∀ q, q < j → ∃ qt qe, (qt = xt → qe ≤ (i : Int)) ∧ W1.cell? ⟨xb, xo + q * 7, none⟩ = some (.int .i64 qt) ∧ W1.cell? ⟨xb, xo + q * 7 + 6, none⟩ = some (.int .i64 qe)) := Lib.hid (fun q hq => by
          obtain ⟨qt, qe, h1, h2, h3⟩ := HM2.out q hq
          exact ⟨qt, qe, h1, (G0.out.cell (p := ⟨xb, xo + q * 7, none⟩) hbl).trans h2, (G0.out.cell (p := ⟨xb, xo + q * 7 + 6, none⟩) hbl).trans h3⟩)
        have G1 := Lib.hid (HV.out.trans (G0.out.mono HV.out.size))
        have x0 : W1.cell? ⟨W0.heap.size, 0, none⟩ = some (.int .i64 xt) := XB.out.cell 0
        have x1 : W1.cell? ⟨W0.heap.size, 1, none⟩ = some (.int .i64 xk) := XB.out.cell 1
        have x3 : W1.cell? ⟨W0.heap.size, 3, none⟩ = some (.int .i64 0) := XB.out.cell 3
        have x4 : W1.cell? ⟨W0.heap.size, 4, none⟩ = some (.bool false) := XB.out.cell 4
        have x5 : W1.cell? ⟨W0.heap.size, 5, none⟩ = some (.int .i64 (i : Int)) := XB.out.cell 5
        have x6 : W1.cell? ⟨W0.heap.size, 6, none⟩ = some (.int .i64 xe) := XB.out.cell 6
        rw [hB] at x0 x1 x3 x4 x5 x6
        clear f0 f1 f2 f3 f4 f5 f6 g0 g2 XB HM2 HJ HX HY HV G0
        refine wp_region_quiet_lit (l := ord11) (by kernel_rfl) ord11_lex ?_
        unfold ord11
        repeat (go_big_quiet_step (fail))
        refine wpQuiet_nil ?_
        intro _ hw'
        obtain ⟨nq, hw''⟩ := hw'
        subst hw''
        clear m0 m2
        go_upto_region 14 with (fail)
        go_loopw [10] (fun q w3 => ∃ k m : Nat, k ≤ j ∧ q = .int .i64 k ∧ w3 = W1.drewN m) (fun q _ => ((j : Int) - intOf q).toNat)
        case atStart => exact ⟨0, nq, by omega, rfl, rfl⟩
        case round =>
          obtain ⟨k, m, hk, rfl, rfl⟩ := hrel
          by_cases hkj : k < j
          · obtain ⟨qt, qe, hq, k0, k6⟩ := HM3.out k hkj
            have w1 : (0 : Int) ≤ (k : Int) := by omega
            have w2 : (k : Int) < (M.length : Int) := by omega
            have w3 : decide ((k : Int) < (j : Int)) = true := decide_eq_true (by omega)
            have w4 : decide (k < j) = true := decide_eq_true (by omega)
            by_cases hqt : qt = xt
            · have w5 : (qt == xt) = true := by simpa using hqt
              have w6 : decide ((i : Int) < qe) = false := decide_eq_false (by have := hq hqt; omega)
              clear hq hqt
              go_wp2
              go_quiet (fail)
              go_wp2
              go_roundw
              case rel => exact ⟨k + 1, _, by omega, by go_num, rfl⟩
              case measure => simp [intOf]; omega
            · have w5 : (qt == xt) = false := by simpa using hqt
              clear hq hqt
              go_wp2
              go_quiet (fail)
              go_wp2
              go_roundw
              case rel => exact ⟨k + 1, _, by omega, by go_num, rfl⟩
              case measure => simp [intOf]; omega
          · have w3 : decide ((k : Int) < (j : Int)) = false := decide_eq_false (by omega)
            have w4 : decide (k < j) = false := decide_eq_false (by omega)
            go_wp2
            go_roundw
            case rel => exact ⟨j + 1, by omega, by go_num, belowN G1.out _⟩
            case measure => simp [intOf]; omega
      · obtain ⟨rfl, rfl⟩ := HX.out hxe
        have v1 : decide (0 ≤ xe) = false := decide_eq_false (by omega)
        have v2 : decide (xe < 0) = true := decide_eq_true hxe
        obtain ⟨p, hpj, hpw, y, hyi, k5⟩ := HJ.out hj0
        have v4 : decide (0 < j) = true := decide_eq_true (by omega)
        have v5 : decide ((0 : Int) < (j : Int)) = true := decide_eq_true (by omega)
        have v6 : decide ((i : Int) ≤ y) = false := decide_eq_false (by omega)
        have v7 : (0 : Int) ≤ (p : Int) := by omega
        have v8 : (p : Int) < (M.length : Int) := by omega
        clear hyi hj0
        have XB : Hid (Bk hpK (W0.alloc (.cells #[.int .i64 xt, .int .i64 xk, .int .i64 xg, .int .i64 0, .bool false, .int .i64 (i : Int), .int .i64 xe] 28)) W0.heap.size 28 ⟨xt, xk, xg, 0, false, i, xe⟩) := Lib.hid (Bk.at_ (K := hpK) W0 28 ⟨xt, xk, xg, 0, false, i, xe⟩ _ rfl _ rfl)
        have G0 := Lib.hid (below_one W0 (.cells #[.int .i64 xt, .int .i64 xk, .int .i64 xg, .int .i64 0, .bool false, .int .i64 (i : Int), .int .i64 xe] 28))
        obtain ⟨B, hB⟩ : ∃ B, W0.heap.size = B := ⟨_, rfl⟩
        go_upto_region 11 with (fail)
        generalize W0.alloc (.cells #[.int .i64 xt, .int .i64 xk, .int .i64 xg, .int .i64 0, .bool false, .int .i64 (i : Int), .int .i64 xe] 28) = W1 at *
        have m0 := G0.out.cell (p := ⟨yb, yo + i * 4, none⟩) hyl
        have m2 := G0.out.cell (p := ⟨yb, yo + i * 4 + 2, none⟩) hyl
        rw [g0] at m0
        rw [g2] at m2
        have m5 := G0.out.cell (p := ⟨xb, xo + p * 7 + 5, none⟩) hbl
        rw [k5] at m5
        have HM3 : Hid (∀ q, q < j → ∃ qt qe, (qt = xt → qe ≤ (i : Int)) ∧ W1.cell? ⟨xb, xo + q * 7, none⟩ = some (.int .i64 qt) ∧ W1.cell? ⟨xb, xo + q * 7 + 6, none⟩ = some (.int .i64 qe)) := Lib.hid (fun q hq => by
          obtain ⟨qt, qe, h1, h2, h3⟩ := HM2.out q hq
          exact ⟨qt, qe, h1, (G0.out.cell (p := ⟨xb, xo + q * 7, none⟩) hbl).trans h2, (G0.out.cell (p := ⟨xb, xo + q * 7 + 6, none⟩) hbl).trans h3⟩)
        have G1 := Lib.hid (HV.out.trans (G0.out.mono HV.out.size))
        have x0 : W1.cell? ⟨W0.heap.size, 0, none⟩ = some (.int .i64 xt) := XB.out.cell 0
        have x1 : W1.cell? ⟨W0.heap.size, 1, none⟩ = some (.int .i64 xk) := XB.out.cell 1
        have x3 : W1.cell? ⟨W0.heap.size, 3, none⟩ = some (.int .i64 0) := XB.out.cell 3
        have x4 : W1.cell? ⟨W0.heap.size, 4, none⟩ = some (.bool false) := XB.out.cell 4
        have x5 : W1.cell? ⟨W0.heap.size, 5, none⟩ = some (.int .i64 (i : Int)) := XB.out.cell 5
        have x6 : W1.cell? ⟨W0.heap.size, 6, none⟩ = some (.int .i64 xe) := XB.out.cell 6
        rw [hB] at x0 x1 x3 x4 x5 x6
        clear f0 f1 f2 f3 f4 f5 f6 g0 g2 XB HM2 HJ HX HY HV G0 k5
        refine wp_region_quiet_lit (l := ord11) (by kernel_rfl) ord11_lex ?_
        unfold ord11
        repeat (go_big_quiet_step (fail))
        refine wpQuiet_nil ?_
        intro _ hw'
        obtain ⟨nq, hw''⟩ := hw'
        subst hw''
        clear m0 m2 m5
        go_upto_region 14 with (fail)
        go_loopw [10] (fun q w3 => ∃ k m : Nat, k ≤ j ∧ q = .int .i64 k ∧ w3 = W1.drewN m) (fun q _ => ((j : Int) - intOf q).toNat)
        case atStart => exact ⟨0, nq, by omega, rfl, rfl⟩
        case round =>
          obtain ⟨k, m, hk, rfl, rfl⟩ := hrel
          by_cases hkj : k < j
          · obtain ⟨qt, qe, hq, k0, k6⟩ := HM3.out k hkj
            have w1 : (0 : Int) ≤ (k : Int) := by omega
            have w2 : (k : Int) < (M.length : Int) := by omega
            have w3 : decide ((k : Int) < (j : Int)) = true := decide_eq_true (by omega)
            have w4 : decide (k < j) = true := decide_eq_true (by omega)
            by_cases hqt : qt = xt
            · have w5 : (qt == xt) = true := by simpa using hqt
              have w6 : decide ((i : Int) < qe) = false := decide_eq_false (by have := hq hqt; omega)
              clear hq hqt
              go_wp2
              go_quiet (fail)
              go_wp2
              go_roundw
              case rel => exact ⟨k + 1, _, by omega, by go_num, rfl⟩
              case measure => simp [intOf]; omega
            · have w5 : (qt == xt) = false := by simpa using hqt
              clear hq hqt
              go_wp2
              go_quiet (fail)
              go_wp2
              go_roundw
              case rel => exact ⟨k + 1, _, by omega, by go_num, rfl⟩
              case measure => simp [intOf]; omega
          · have w3 : decide ((k : Int) < (j : Int)) = false := decide_eq_false (by omega)
            have w4 : decide (k < j) = false := decide_eq_false (by omega)
            go_wp2
            go_roundw
            case rel => exact ⟨j + 1, by omega, by go_num, belowN G1.out _⟩
            case measure => simp [intOf]; omega
      · have v0 := HY.out hxe
        have v1 : decide (0 ≤ xe) = true := decide_eq_true hxe
        have v2 : decide (xe < 0) = false := decide_eq_false (by omega)
        have v3 : decide (xe ≤ (i : Int)) = false := decide_eq_false (by omega)
        clear v0
        have v4 : decide (0 < j) = false := decide_eq_false (by omega)
        have v5 : decide ((0 : Int) < (j : Int)) = false := decide_eq_false (by omega)
        clear hj0
        have XB : Hid (Bk hpK (W0.alloc (.cells #[.int .i64 xt, .int .i64 xk, .int .i64 xg, .int .i64 xr, .bool xy, .int .i64 (i : Int), .int .i64 xe] 28)) W0.heap.size 28 ⟨xt, xk, xg, xr, xy, i, xe⟩) := Lib.hid (Bk.at_ (K := hpK) W0 28 ⟨xt, xk, xg, xr, xy, i, xe⟩ _ rfl _ rfl)
        have G0 := Lib.hid (below_one W0 (.cells #[.int .i64 xt, .int .i64 xk, .int .i64 xg, .int .i64 xr, .bool xy, .int .i64 (i : Int), .int .i64 xe] 28))
        obtain ⟨B, hB⟩ : ∃ B, W0.heap.size = B := ⟨_, rfl⟩
        go_upto_region 11 with (fail)
        generalize W0.alloc (.cells #[.int .i64 xt, .int .i64 xk, .int .i64 xg, .int .i64 xr, .bool xy, .int .i64 (i : Int), .int .i64 xe] 28) = W1 at *
        have m0 := G0.out.cell (p := ⟨yb, yo + i * 4, none⟩) hyl
        have m2 := G0.out.cell (p := ⟨yb, yo + i * 4 + 2, none⟩) hyl
        rw [g0] at m0
        rw [g2] at m2
        have HM3 : Hid (∀ q, q < j → ∃ qt qe, (qt = xt → qe ≤ (i : Int)) ∧ W1.cell? ⟨xb, xo + q * 7, none⟩ = some (.int .i64 qt) ∧ W1.cell? ⟨xb, xo + q * 7 + 6, none⟩ = some (.int .i64 qe)) := Lib.hid (fun q hq => by
          obtain ⟨qt, qe, h1, h2, h3⟩ := HM2.out q hq
          exact ⟨qt, qe, h1, (G0.out.cell (p := ⟨xb, xo + q * 7, none⟩) hbl).trans h2, (G0.out.cell (p := ⟨xb, xo + q * 7 + 6, none⟩) hbl).trans h3⟩)
        have G1 := Lib.hid (HV.out.trans (G0.out.mono HV.out.size))
        have x0 : W1.cell? ⟨W0.heap.size, 0, none⟩ = some (.int .i64 xt) := XB.out.cell 0
        have x1 : W1.cell? ⟨W0.heap.size, 1, none⟩ = some (.int .i64 xk) := XB.out.cell 1
        have x3 : W1.cell? ⟨W0.heap.size, 3, none⟩ = some (.int .i64 xr) := XB.out.cell 3
        have x4 : W1.cell? ⟨W0.heap.size, 4, none⟩ = some (.bool xy) := XB.out.cell 4
        have x5 : W1.cell? ⟨W0.heap.size, 5, none⟩ = some (.int .i64 (i : Int)) := XB.out.cell 5
        have x6 : W1.cell? ⟨W0.heap.size, 6, none⟩ = some (.int .i64 xe) := XB.out.cell 6
        rw [hB] at x0 x1 x3 x4 x5 x6
        clear f0 f1 f2 f3 f4 f5 f6 g0 g2 XB HM2 HJ HX HY HV G0
        refine wp_region_quiet_lit (l := ord11) (by kernel_rfl) ord11_lex ?_
        unfold ord11
        repeat (go_big_quiet_step (fail))
        refine wpQuiet_nil ?_
        intro _ hw'
        obtain ⟨nq, hw''⟩ := hw'
        subst hw''
        clear m0 m2
        go_upto_region 14 with (fail)
        go_loopw [10] (fun q w3 => ∃ k m : Nat, k ≤ j ∧ q = .int .i64 k ∧ w3 = W1.drewN m) (fun q _ => ((j : Int) - intOf q).toNat)
        case atStart => exact ⟨0, nq, by omega, rfl, rfl⟩
        case round =>
          obtain ⟨k, m, hk, rfl, rfl⟩ := hrel
          by_cases hkj : k < j
          · obtain ⟨qt, qe, hq, k0, k6⟩ := HM3.out k hkj
            have w1 : (0 : Int) ≤ (k : Int) := by omega
            have w2 : (k : Int) < (M.length : Int) := by omega
            have w3 : decide ((k : Int) < (j : Int)) = true := decide_eq_true (by omega)
            have w4 : decide (k < j) = true := decide_eq_true (by omega)
            by_cases hqt : qt = xt
            · have w5 : (qt == xt) = true := by simpa using hqt
              have w6 : decide ((i : Int) < qe) = false := decide_eq_false (by have := hq hqt; omega)
              clear hq hqt
              go_wp2
              go_quiet (fail)
              go_wp2
              go_roundw
              case rel => exact ⟨k + 1, _, by omega, by go_num, rfl⟩
              case measure => simp [intOf]; omega
            · have w5 : (qt == xt) = false := by simpa using hqt
              clear hq hqt
              go_wp2
              go_quiet (fail)
              go_wp2
              go_roundw
              case rel => exact ⟨k + 1, _, by omega, by go_num, rfl⟩
              case measure => simp [intOf]; omega
          · have w3 : decide ((k : Int) < (j : Int)) = false := decide_eq_false (by omega)
            have w4 : decide (k < j) = false := decide_eq_false (by omega)
            go_wp2
            go_roundw
            case rel => exact ⟨j + 1, by omega, by go_num, belowN G1.out _⟩
            case measure => simp [intOf]; omega
      · have v0 := HY.out hxe
        have v1 : decide (0 ≤ xe) = true := decide_eq_true hxe
        have v2 : decide (xe < 0) = false := decide_eq_false (by omega)
        have v3 : decide (xe ≤ (i : Int)) = false := decide_eq_false (by omega)
        clear v0
        obtain ⟨p, hpj, hpw, y, hyi, k5⟩ := HJ.out hj0
        have v4 : decide (0 < j) = true := decide_eq_true (by omega)
        have v5 : decide ((0 : Int) < (j : Int)) = true := decide_eq_true (by omega)
        have v6 : decide ((i : Int) ≤ y) = false := decide_eq_false (by omega)
        have v7 : (0 : Int) ≤ (p : Int) := by omega
        have v8 : (p : Int) < (M.length : Int) := by omega
        clear hyi hj0
        have XB : Hid (Bk hpK (W0.alloc (.cells #[.int .i64 xt, .int .i64 xk, .int .i64 xg, .int .i64 xr, .bool xy, .int .i64 (i : Int), .int .i64 xe] 28)) W0.heap.size 28 ⟨xt, xk, xg, xr, xy, i, xe⟩) := Lib.hid (Bk.at_ (K := hpK) W0 28 ⟨xt, xk, xg, xr, xy, i, xe⟩ _ rfl _ rfl)
        have G0 := Lib.hid (below_one W0 (.cells #[.int .i64 xt, .int .i64 xk, .int .i64 xg, .int .i64 xr, .bool xy, .int .i64 (i : Int), .int .i64 xe] 28))
        obtain ⟨B, hB⟩ : ∃ B, W0.heap.size = B := ⟨_, rfl⟩
        go_upto_region 11 with (fail)
        generalize W0.alloc (.cells #[.int .i64 xt, .int .i64 xk, .int .i64 xg, .int .i64 xr, .bool xy, .int .i64 (i : Int), .int .i64 xe] 28) = W1 at *
        have m0 := G0.out.cell (p := ⟨yb, yo + i * 4, none⟩) hyl
        have m2 := G0.out.cell (p := ⟨yb, yo + i * 4 + 2, none⟩) hyl
        rw [g0] at m0
        rw [g2] at m2
        have m5 := G0.out.cell (p := ⟨xb, xo + p * 7 + 5, none⟩) hbl
        rw [k5] at m5
        have HM3 : Hid (∀ q, q < j → ∃ qt qe, (qt = xt → qe ≤ (i : Int)) ∧ W1.cell? ⟨xb, xo + q * 7, none⟩ = some (.int .i64 qt) ∧ W1.cell? ⟨xb, xo + q * 7 + 6, none⟩ = some (.int .i64 qe)) := Lib.hid (fun q hq => by
          obtain ⟨qt, qe, h1, h2, h3⟩ := HM2.out q hq
          exact ⟨qt, qe, h1, (G0.out.cell (p := ⟨xb, xo + q * 7, none⟩) hbl).trans h2, (G0.out.cell (p := ⟨xb, xo + q * 7 + 6, none⟩) hbl).trans h3⟩)
        have G1 := Lib.hid (HV.out.trans (G0.out.mono HV.out.size))
        have x0 : W1.cell? ⟨W0.heap.size, 0, none⟩ = some (.int .i64 xt) := XB.out.cell 0
        have x1 : W1.cell? ⟨W0.heap.size, 1, none⟩ = some (.int .i64 xk) := XB.out.cell 1
        have x3 : W1.cell? ⟨W0.heap.size, 3, none⟩ = some (.int .i64 xr) := XB.out.cell 3
        have x4 : W1.cell? ⟨W0.heap.size, 4, none⟩ = some (.bool xy) := XB.out.cell 4
        have x5 : W1.cell? ⟨W0.heap.size, 5, none⟩ = some (.int .i64 (i : Int)) := XB.out.cell 5
        have x6 : W1.cell? ⟨W0.heap.size, 6, none⟩ = some (.int .i64 xe) := XB.out.cell 6
        rw [hB] at x0 x1 x3 x4 x5 x6
        clear f0 f1 f2 f3 f4 f5 f6 g0 g2 XB HM2 HJ HX HY HV G0 k5
        refine wp_region_quiet_lit (l := ord11) (by kernel_rfl) ord11_lex ?_
        unfold ord11
        repeat (go_big_quiet_step (fail))
        refine wpQuiet_nil ?_
        intro _ hw'
        obtain ⟨nq, hw''⟩ := hw'
        subst hw''
        clear m0 m2 m5
        go_upto_region 14 with (fail)
        go_loopw [10] (fun q w3 => ∃ k m : Nat, k ≤ j ∧ q = .int .i64 k ∧ w3 = W1.drewN m) (fun q _ => ((j : Int) - intOf q).toNat)
        case atStart => exact ⟨0, nq, by omega, rfl, rfl⟩
        case round =>
          obtain ⟨k, m, hk, rfl, rfl⟩ := hrel
          by_cases hkj : k < j
          · obtain ⟨qt, qe, hq, k0, k6⟩ := HM3.out k hkj
            have w1 : (0 : Int) ≤ (k : Int) := by omega
            have w2 : (k : Int) < (M.length : Int) := by omega
            have w3 : decide ((k : Int) < (j : Int)) = true := decide_eq_true (by omega)
            have w4 : decide (k < j) = true := decide_eq_true (by omega)
            by_cases hqt : qt = xt
            · have w5 : (qt == xt) = true := by simpa using hqt
              have w6 : decide ((i : Int) < qe) = false := decide_eq_false (by have := hq hqt; omega)
              clear hq hqt
              go_wp2
              go_quiet (fail)
              go_wp2
              go_roundw
              case rel => exact ⟨k + 1, _, by omega, by go_num, rfl⟩
              case measure => simp [intOf]; omega
            · have w5 : (qt == xt) = false := by simpa using hqt
              clear hq hqt
              go_wp2
              go_quiet (fail)
              go_wp2
              go_roundw
              case rel => exact ⟨k + 1, _, by omega, by go_num, rfl⟩
              case measure => simp [intOf]; omega
          · have w3 : decide ((k : Int) < (j : Int)) = false := decide_eq_false (by omega)
            have w4 : decide (k < j) = false := decide_eq_false (by omega)
            go_wp2
            go_roundw
            case rel => exact ⟨j + 1, by omega, by go_num, belowN G1.out _⟩
            case measure => simp [intOf]; omega
    · obtain rfl : j = M.length := by omega
      go_wp2
      go_ret
      exact ⟨rfl, below_then HB.out HV.out⟩
end Go.Proofs.YtpkjepbeeebdoaaDoor
