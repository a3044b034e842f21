/-
  What the document calls divide of layer 2: the quotient without signs, digit of two by digit of two, and what is left. Of what was there nothing changes.
-/
import Derived.Test.YticeeckahdjjmaaRef02UMul
import Derived.Deep.RegionWith
namespace Go.Proofs.Yticeeckahdjjmaa
open Go.RowKit
/-- What is left behind m digits, and the quotient's digits so far. -/
def rst (X U : Int) (m : Nat) : Int := X / 2 ^ (128 - m) % U
def qsf (X U : Int) (m : Nat) (j : Nat) : Int := if 128 - m ≤ j then dig (X / U) j else 0
theorem rst_0 (X U : Int) (h0 : 0 ≤ X) (h1 : X < 340282366920938463463374607431768211456) : rst X U 0 = 0 := by
  unfold rst
  rw [show (2 : Int) ^ (128 - 0) = 340282366920938463463374607431768211456 by decide, Int.ediv_eq_zero_of_lt h0 h1]; simp
theorem rst_128 (X U : Int) : rst X U 128 = X % U := by unfold rst; simp
theorem rst_step (X U : Int) (m : Nat) (hm : m < 128) (hX : 0 ≤ X) (hU : 0 < U) :
    0 ≤ rst X U m ∧ rst X U m < U ∧
    (U ≤ rst X U m + rst X U m + dig X (127 - m) → rst X U (m + 1) = rst X U m + rst X U m + dig X (127 - m) - U ∧ dig (X / U) (127 - m) = 1) ∧
    (¬ U ≤ rst X U m + rst X U m + dig X (127 - m) → rst X U (m + 1) = rst X U m + rst X U m + dig X (127 - m) ∧ dig (X / U) (127 - m) = 0) := by
  have e1 : 128 - m = 127 - m + 1 := by omega
  have e2 : 128 - (m + 1) = 127 - m := by omega
  have hp := pow_pos' (127 - m)
  unfold rst dig
  rw [e1, e2, Int.pow_succ, half_eq hp]
  have e3 : X / U / 2 ^ (127 - m) = X / 2 ^ (127 - m) / U := by rw [Int.ediv_ediv_of_nonneg (by omega), Int.ediv_ediv_of_nonneg (by omega), Int.mul_comm]
  rw [e3]
  have hY0 : 0 ≤ X / 2 ^ (127 - m) := Int.ediv_nonneg hX (by omega)
  generalize X / 2 ^ (127 - m) = Y at *
  have hL0 : 0 ≤ Y / 2 % U := Int.emod_nonneg _ (by omega)
  have hL1 : Y / 2 % U < U := Int.emod_lt_of_pos _ hU
  have hsum := Int.mul_ediv_add_emod (Y / 2) U
  refine ⟨hL0, hL1, fun hc => ?_, fun hc => ?_⟩
  · have e : Y = (2 * (Y / 2 / U) + 1) * U + (2 * (Y / 2 % U) + Y % 2 - U) := by
      have : (2 * (Y / 2 / U) + 1) * U = 2 * (U * (Y / 2 / U)) + U := by grind
      omega
    obtain ⟨q1, q2⟩ := div_mod_of hU e (by omega) (by omega)
    rw [q1, q2]; omega
  · have e : Y = (2 * (Y / 2 / U)) * U + (2 * (Y / 2 % U) + Y % 2) := by
      have : (2 * (Y / 2 / U)) * U = 2 * (U * (Y / 2 / U)) := by grind
      omega
    obtain ⟨q1, q2⟩ := div_mod_of hU e (by omega) (by omega)
    rw [q1, q2]; omega
theorem dig_T (x : Int) (j : Nat) (hj : j < 128) : dig x j = dig (x % 340282366920938463463374607431768211456) j := by
  rcases dig_nat x j with h | h
  · exact h
  · omega
theorem less_U {r U : Int} (h0 : 0 ≤ r) (h1 : r < 340282366920938463463374607431768211456) (h2 : 0 < U) (h3 : U < 18446744073709551616) : uLess r U = decide (¬ U ≤ r) := by
  unfold uLess
  rw [Int.emod_eq_of_lt h0 h1, Int.emod_eq_of_lt (by omega) (by omega)]
  congr 1; rw [eq_iff_iff]; omega
theorem rless_un (y u : Int) (hu : InC u) (w : World) :
    Calls Try.prog 70 #[.agg #[.int .i64 (dLo y), .int .i64 (dHi y)], .agg #[.int .i64 u, .int .i64 0]] w fun e w' => e = .returned (.bool (uLess y (u % 18446744073709551616))) ∧ Keeps w w' := by
  have h := rless_any y (u % 18446744073709551616) w
  rw [dLo_un u hu, dHi_un] at h
  exact h
theorem rneg_un (u : Int) (hu : InC u) (w : World) :
    Calls Try.prog 71 #[.agg #[.int .i64 u, .int .i64 0]] w fun e w' => e = .returned (.agg #[.int .i64 (dLo (-(u % 18446744073709551616))), .int .i64 (dHi (-(u % 18446744073709551616)))]) ∧ Keeps w w' := by
  have h := rneg_any (u % 18446744073709551616) w
  rw [dLo_un u hu, dHi_un] at h
  exact h
theorem row_keeps {w w' : World} {B n : Nat} {z : Nat → Int} (h : Row w B n z) (hB : B < w.heap.size) (k : Keeps w w') : Row w' B n z := fun j hj => k.cell_some hB (h j hj)
theorem row_other {w : World} {B C o n : Nat} {z : Nat → Int} (h : Row w B n z) (hne : C ≠ B) (v : Value) : Row (w.setCell ⟨C, o, none⟩ v) B n z := fun j hj => by
  rw [World.cell?_setCell_other _ _ _ _ (fun e => hne (Addr.mk.inj e).1)]; exact h j hj
/-- What holds while divide goes on: the result's variable, what is left (r), the divisor, the digits of x, the quotient's digits (z). -/
structure DivSt (x u : Int) (w w1 : World) (g1 : Nat) (r : Int) (z : Nat → Int) (wr : World) : Prop where
  res : Box wr (w.heap.size + 1) 0 0
  rest : Box wr (w.heap.size + 1 + 1) (dLo r) (dHi r)
  by' : Box wr (w1.heap.size + 1) u 0
  row : Row wr g1 128 (dig x)
  q : Row wr w1.heap.size 128 z
  fz : ∀ j, wr.frozen? ⟨w1.heap.size, j, none⟩ = false
  keeps : Keeps w wr
  h1 : w.heap.size + 1 + 1 < g1
  h2 : g1 < w1.heap.size
theorem DivSt.keep {x u : Int} {w w1 : World} {g1 : Nat} {r : Int} {z : Nat → Int} {wr w' : World} (s : DivSt x u w w1 g1 r z wr) (k : Keeps wr w') : DivSt x u w w1 g1 r z w' :=
  have hb := s.by'.lt
  have hh := s.h2
  ⟨s.res.keeps k, s.rest.keeps k, s.by'.keeps k, row_keeps s.row (by omega) k, row_keeps s.q (by omega) k, fun j => (k.frozen (p := ⟨w1.heap.size, j, none⟩) (show w1.heap.size < wr.heap.size by omega)).trans (s.fz j), s.keeps.trans k, s.h1, s.h2⟩
theorem DivSt.set {x u : Int} {w w1 : World} {g1 : Nat} {r : Int} {z : Nat → Int} {wr : World} (s : DivSt x u w w1 g1 r z wr) (y : Int) :
    DivSt x u w w1 g1 y z ((wr.setCell ⟨w.heap.size + 1 + 1, 0, none⟩ (.int .i64 (dLo y))).setCell ⟨w.heap.size + 1 + 1, 1, none⟩ (.int .i64 (dHi y))) :=
  have a := s.h1
  have b := s.h2
  ⟨(s.res.other (by omega) _).other (by omega) _, s.rest.set _ _, (s.by'.other (by omega) _).other (by omega) _, row_other (row_other s.row (by omega) _) (by omega) _, row_other (row_other s.q (by omega) _) (by omega) _,
    fun j => by rw [World.frozen?_setCell, World.frozen?_setCell]; exact s.fz j, (s.keeps.setCell (by simp; omega) _).setCell (by simp; omega) _, s.h1, s.h2⟩
theorem DivSt.setQ {x u : Int} {w w1 : World} {g1 : Nat} {r : Int} {z : Nat → Int} {wr : World} (s : DivSt x u w w1 g1 r z wr) (k : Nat) (v : Int) (y : Nat → Int) (hy : ∀ j, j < 128 → (if j = k then v else z j) = y j) :
    DivSt x u w w1 g1 r y (wr.setCell ⟨w1.heap.size, k, none⟩ (.int .i64 v)) :=
  have a := s.h1
  have b := s.h2
  ⟨s.res.other (by omega) _, s.rest.other (by omega) _, s.by'.other (by omega) _, row_other s.row (by omega) _, row_congr (row_set s.q k v) hy,
    fun j => by rw [World.frozen?_setCell]; exact s.fz j, s.keeps.setCell (by simp; omega) _, s.h1, s.h2⟩
theorem DivSt.q_congr {x u : Int} {w w1 : World} {g1 : Nat} {r : Int} {z y : Nat → Int} {wr : World} (s : DivSt x u w w1 g1 r z wr) (e : ∀ j, j < 128 → z j = y j) : DivSt x u w w1 g1 r y wr :=
  ⟨s.res, s.rest, s.by', s.row, row_congr s.q e, s.fz, s.keeps, s.h1, s.h2⟩
theorem div_start (x u : Int) (w w1 : World) (g1 : Nat) (t : TypeId) (h1 : w.heap.size + 1 + 1 < g1) (h2 : g1 < w1.heap.size) (R1 : Row w1 g1 128 (dig x)) (t' : TypeId)
    (K1 : Keeps (((w.alloc (.cells #[.int .i64 (dLo x), .int .i64 (dHi x)] t)).alloc (.cells #[.int .i64 0, .int .i64 0] t)).alloc (.cells #[.int .i64 0, .int .i64 0] t)) w1) :
    DivSt x u w w1 g1 0 (fun _ => 0) ((w1.alloc new128).alloc (.cells #[.int .i64 u, .int .i64 0] t')) := by
  have kk : Keeps w1 ((w1.alloc new128).alloc (.cells #[.int .i64 u, .int .i64 0] t')) := ((Keeps.refl w1).alloc _).alloc _
  have B1 : Box (((w.alloc (.cells #[.int .i64 (dLo x), .int .i64 (dHi x)] t)).alloc (.cells #[.int .i64 0, .int .i64 0] t)).alloc (.cells #[.int .i64 0, .int .i64 0] t)) (w.heap.size + 1) 0 0 := (Box.new1 w _ 0 0 t).alloc _
  have B2 : Box (((w.alloc (.cells #[.int .i64 (dLo x), .int .i64 (dHi x)] t)).alloc (.cells #[.int .i64 0, .int .i64 0] t)).alloc (.cells #[.int .i64 0, .int .i64 0] t)) (w.heap.size + 1 + 1) 0 0 := by
    have := Box.new1 (w.alloc (.cells #[.int .i64 (dLo x), .int .i64 (dHi x)] t)) (.cells #[.int .i64 0, .int .i64 0] t) 0 0 t
    rwa [show (w.alloc (.cells #[.int .i64 (dLo x), .int .i64 (dHi x)] t)).heap.size = w.heap.size + 1 by simp] at this
  refine ⟨(B1.keeps K1).keeps kk, by rw [dLo0, dHi0]; exact (B2.keeps K1).keeps kk, Box.new1 w1 _ u 0 t', row_keeps R1 h2 kk, row_keeps (new128_row w1) (by simp) ((Keeps.refl _).alloc _), fun j => ?_, ((((Keeps.refl w).alloc _).alloc _).alloc _).trans (K1.trans kk), h1, h2⟩
  exact ((((Keeps.refl (w1.alloc new128)).alloc (.cells #[.int .i64 u, .int .i64 0] t')).frozen (p := ⟨w1.heap.size, j, none⟩) (by simp))).trans (new128_frozen w1 j)
theorem keepK {W w' : World} {B : Nat} {l h : Value} (hg : Keeps W w') (k : B < W.heap.size ∧ W.cell? ⟨B, 0, none⟩ = some l ∧ W.cell? ⟨B, 1, none⟩ = some h) : B < w'.heap.size ∧ w'.cell? ⟨B, 0, none⟩ = some l ∧ w'.cell? ⟨B, 1, none⟩ = some h :=
  ⟨Nat.lt_of_lt_of_le k.1 hg.size, hg.cell_some k.1 k.2.1, hg.cell_some k.1 k.2.2⟩
theorem dig_cell (x : Int) (j : Nat) : InC (dig x j) ∧ dig x j % 18446744073709551616 = dig x j := by
  have := dig_01 x j
  exact ⟨⟨by omega, by omega⟩, by omega⟩
theorem qsf_step (X U : Int) (m : Nat) (hm : m < 128) (j : Nat) : (if j = 127 - m then dig (X / U) (127 - m) else qsf X U m j) = qsf X U (m + 1) j := by
  unfold qsf
  by_cases h : j = 127 - m
  · rw [if_pos h, if_pos (by omega), h]
  · rw [if_neg h]
    by_cases h2 : 128 - m ≤ j
    · rw [if_pos h2, if_pos (by omega)]
    · rw [if_neg h2, if_neg (by omega)]
set_option maxHeartbeats 4000000 in
set_option maxRecDepth 100000 in
theorem rdivide_walk (x u X U : Int) (hu : InC u) (eU : U = u % 18446744073709551616) (eX : X = x % 340282366920938463463374607431768211456) (hU : 0 < U) (w : World) :
    Calls Try.prog 60 #[.agg #[.int .i64 (dLo x), .int .i64 (dHi x)], .int .i64 u] w fun e w' => e = .returned (.tuple #[.int .i64 (dLo (X % U)), .agg #[.int .i64 (dLo (X / U)), .int .i64 (dHi (X / U))]]) ∧ Keeps w w' := by
  have hmk := run_make128
  have HU := Lib.hid eU
  have HX := Lib.hid eX
  clear eU eX
  go_enter Try.func60, Try.ntmps60
  go_wp2_with fail
  refine (bits2_any _ _).mono ?_
  rintro e w1 ⟨g1, cap1, rfl, hg1, hg1', R1, K1⟩
  have hsz : w.heap.size + 1 + 1 < w1.heap.size := by have := K1.size; simp at this; omega
  have hgg : w.heap.size + 1 + 1 < g1 := by simp at hg1; omega
  clear hg1
  go_wp2
  clear hmk
  go_loopw [10] (fun i wr => ∃ m : Nat, m ≤ 128 ∧ i = .int .i64 (127 - (m : Int)) ∧ DivSt x u w w1 g1 (rst X U m) (qsf X U m) wr) (fun i _ => (intOf i + 1).toNat)
  case atStart =>
    have h0 : rst X U 0 = 0 := rst_0 X U (by rw [HX.out]; omega) (by rw [HX.out]; omega)
    refine ⟨0, by omega, rfl, ?_⟩
    rw [h0]
    exact (div_start x u w w1 g1 _ hgg hg1' R1 _ K1).q_congr (fun j hj => by unfold qsf; rw [if_neg (by omega)])
  case round =>
    clear R1 K1
    obtain ⟨m, hm, rfl, HS⟩ := hrel
    by_cases h128 : m = 128
    · subst h128
      have hq : Row wr w1.heap.size 128 (dig (X / U)) := row_congr HS.q (fun j hj => by unfold qsf; rw [if_pos (by omega)])
      have hlt : w1.heap.size < wr.heap.size := by have := HS.by'.lt; omega
      have HR := Lib.hid (rst_128 X U)
      obtain ⟨b0, b1, b2, b3, b4⟩ := HS.rest
      have HSH := Lib.hid HS
      clear HS
      rw [HR.out] at b1 b2
      have hlt' : w1.heap.size < wr.drew.heap.size := hlt
      have hq' : Row wr.drew w1.heap.size 128 (dig (X / U)) := hq
      have hS0 : w.heap.size + 1 + 1 < wr.drew.heap.size ∧ wr.drew.cell? ⟨w.heap.size + 1 + 1, 0, none⟩ = some (.int .i64 (dLo (X % U))) ∧ wr.drew.cell? ⟨w.heap.size + 1 + 1, 1, none⟩ = some (.int .i64 (dHi (X % U))) := ⟨b0, b1, b2⟩
      have HT := Lib.hid (And.intro hlt' (And.intro hq' hS0))
      clear hlt' hq' hS0 hlt hq b0 b1 b2 b3 b4
      go_wp2
      go_region_held3 (fun w' => w.heap.size + 1 + 1 < w'.heap.size ∧ w'.cell? ⟨w.heap.size + 1 + 1, 0, none⟩ = some (.int .i64 (dLo (X % U))) ∧ w'.cell? ⟨w.heap.size + 1 + 1, 1, none⟩ = some (.int .i64 (dHi (X % U)))) (first | assumption | exact HT.out.2.2 | (simp [go_sem]; done) | (simp [go_sem]; assumption) | exact keepK hw2 HT.out.2.2)
        (first
          | (go_at_call 72; refine (make2_any _ _ _ HT.out.1 HT.out.2.1).mono ?_; rintro e w2 ⟨rfl, hw2⟩; obtain ⟨r0, r1, r2, r3, r4⟩ := HSH.out.res.keeps ((Keeps.refl wr).drew.trans hw2)))
      go_wp2
      refine bodyPost_ret (v := .tuple #[.int .i64 (dLo (X % U)), .agg #[.int .i64 (dLo (X / U)), .int .i64 (dHi (X / U))]]) (by simp [results, Try.results60, go_sem, r1, r2]) rfl ⟨rfl, ?_⟩
      exact (((HSH.out.keeps.drew).trans hw2).setCell (by simp) _).setCell (by simp) _
    · have hlt : m < 128 := by omega
      have hi0 : (0 : Int) ≤ 127 - (m : Int) := by omega
      have hi1 : (127 : Int) - (m : Int) < 128 := by omega
      have hn : ((127 : Int) - (m : Int)).toNat = 127 - m := by omega
      have cx := HS.row (127 - m) (by omega)
      have hgr : g1 < wr.heap.size := by have := HS.by'.lt; omega
      obtain ⟨hd, hdm⟩ := dig_cell x (127 - m)
      obtain ⟨b0, b1, b2, b3, b4⟩ := HS.rest
      go_wp2_with fail
      go_region_with (first
        | (go_at_call 69; refine (twice_any _ _).mono ?_; rintro e w2 ⟨rfl, hw2⟩; have cx2 := ((Keeps.refl wr).drew.trans hw2).cell_some hgr cx)
        | (go_at_call 68; refine (radd_un _ _ hd _).mono ?_; rintro e w3 ⟨rfl, hw3⟩; have HS3 := HS.keep (((Keeps.refl wr).drew.trans hw2).trans hw3); obtain ⟨d0, d1, d2, d3, d4⟩ := HS3.rest; obtain ⟨y0, y1, y2, y3, y4⟩ := HS3.by'))
      all_goals
        have HS3 := HS3.set (rst X U m + rst X U m + dig x (127 - m))
        clear HS cx cx2 b0 b1 b2 b3 b4 hw2 hw3
        go_wp2_with fail
        refine (rless_un _ _ hu _).mono ?_
        rintro e w4 ⟨rfl, hw4⟩
        have HS4 := HS3.keep hw4
        clear HS3 hw4 d0 d1 d2 d3 d4 y0 y1 y2 y3 y4
        obtain ⟨s0, s1, sy, sn⟩ := rst_step X U m hlt (by rw [HX.out]; omega) hU
        rw [show dig X (127 - m) = dig x (127 - m) by rw [HX.out, ← dig_T x (127 - m) (by omega)]] at sy sn
        have hdd := dig_01 x (127 - m)
        have hUM : U < 18446744073709551616 := by rw [HU.out]; omega
        have hl := less_U (r := rst X U m + rst X U m + dig x (127 - m)) (by omega) (by omega) hU hUM
        by_cases hc : U ≤ rst X U m + rst X U m + dig x (127 - m)
        · have hl' : uLess (rst X U m + rst X U m + dig x (127 - m)) (u % 18446744073709551616) = false := by
            rw [← HU.out, hl]; simp; omega
          have HY := Lib.hid (sy hc)
          clear sy sn hl hc
          obtain ⟨d0, d1, d2, d3, d4⟩ := HS4.rest
          obtain ⟨y0, y1, y2, y3, y4⟩ := HS4.by'
          go_wp2_with fail
          go_region_with (first
            | (go_at_call 71; refine (rneg_un _ hu _).mono ?_; rintro e w5 ⟨rfl, hw5⟩; have HS5 := HS4.keep ((Keeps.refl w4).drew.trans hw5); obtain ⟨k0, k1, k2, k3, k4⟩ := HS5.rest)
            | (go_at_call 68; refine (radd_any _ _ _).mono ?_; rintro e w6 ⟨rfl, hw6⟩; have HS6 := HS5.keep hw6; obtain ⟨l0, l1, l2, l3, l4⟩ := HS6.rest; have cq := HS6.q (127 - m) (by omega); have fq := HS6.fz (127 - m)))
          all_goals
            have HS7 := HS6.set (rst X U m + rst X U m + dig x (127 - m) + -(u % 18446744073709551616))
            clear HS4 HS5 HS6 hw5 hw6 d0 d1 d2 d3 d4 y0 y1 y2 y3 y4 k0 k1 k2 k3 k4
            go_wp2
            go_roundw
            case rel =>
              refine ⟨m + 1, by omega, by go_num, ?_⟩
              have e := HY.out.1
              rw [show rst X U m + rst X U m + dig x (127 - m) - U = rst X U m + rst X U m + dig x (127 - m) + -(u % 18446744073709551616) by rw [← HU.out]; omega] at e
              rw [e]
              exact HS7.setQ (127 - m) 1 _ (fun j _ => by rw [← HY.out.2]; exact qsf_step X U m hlt j)
            case measure => simp [intOf]; omega
        · have hl' : uLess (rst X U m + rst X U m + dig x (127 - m)) (u % 18446744073709551616) = true := by
            rw [← HU.out, hl]; simp; omega
          have HY := Lib.hid (sn hc)
          clear sy sn hl hc
          go_wp2
          go_roundw
          case rel =>
            refine ⟨m + 1, by omega, by go_num, ?_⟩
            rw [HY.out.1]
            refine HS4.q_congr (fun j hj => ?_)
            rw [← qsf_step X U m hlt j]
            by_cases h : j = 127 - m
            · rw [if_pos h, HY.out.2]; unfold qsf; rw [if_neg (by omega)]
            · rw [if_neg h]
          case measure => simp [intOf]; omega
theorem rdivide_any (x u : Int) (hu : InC u) (h0 : u ≠ 0) (w : World) :
    Calls Try.prog 60 #[.agg #[.int .i64 (dLo x), .int .i64 (dHi x)], .int .i64 u] w fun e w' => e = .returned (.tuple #[.int .i64 (dLo (x % 340282366920938463463374607431768211456 % (u % 18446744073709551616))), .agg #[.int .i64 (dLo (x % 340282366920938463463374607431768211456 / (u % 18446744073709551616))), .int .i64 (dHi (x % 340282366920938463463374607431768211456 / (u % 18446744073709551616)))]]) ∧ Keeps w w' :=
  rdivide_walk x u _ _ hu rfl rfl (u_pos hu h0) w
end Go.Proofs.Yticeeckahdjjmaa
