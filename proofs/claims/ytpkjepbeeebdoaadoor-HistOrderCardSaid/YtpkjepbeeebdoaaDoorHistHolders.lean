/-
  What Holders of package hist answers: how many hold a lock at most, and whether all went well.
-/
import Derived.Test.YtpkjepbeeebdoaaDoorHistSig
import Derived.Test.YtpkjepbeeebdoaaDoorHistMaps
namespace Go.Proofs.YtpkjepbeeebdoaaDoor
open Go.RowKit

theorem clK_4 (k : Int) : decide (clK k = 4) = (k == 11) := by
  rw [Bool.eq_iff_iff]; simp only [decide_eq_true_eq, beq_iff_eq]
  constructor
  · intro h; rcases cl_of (k := k) (by omega) with rfl | rfl | rfl | rfl | rfl | rfl | rfl | rfl <;> first | rfl | (exact absurd h (by decide))
  · rintro rfl; rfl
theorem clK_5 (k : Int) : decide (clK k = 5) = (k == 13) := by
  rw [Bool.eq_iff_iff]; simp only [decide_eq_true_eq, beq_iff_eq]
  constructor
  · intro h; rcases cl_of (k := k) (by omega) with rfl | rfl | rfl | rfl | rfl | rfl | rfl | rfl <;> first | rfl | (exact absurd h (by decide))
  · rintro rfl; rfl
theorem rtK_4 (k : Int) : decide (rtK k = 4) = (k == 12) := by
  rw [Bool.eq_iff_iff]; simp only [decide_eq_true_eq, beq_iff_eq]
  constructor
  · intro h; rcases rt_of (k := k) (by omega) with rfl | rfl | rfl | rfl | rfl | rfl | rfl | rfl | rfl | rfl <;> first | rfl | (exact absurd h (by decide))
  · rintro rfl; rfl
theorem hd_fine (l : List Evt) (a : Int) (k : Nat) : (hdA (l.take k) a).h.Nodup ∧ 0 ≤ (hdA (l.take k) a).x ∧ (hdA (l.take k) a).x ≤ k := by
  induction k with
  | zero => simp [hdA]
  | succ k ih =>
    rcases Nat.lt_or_ge k l.length with h | h
    · rw [hd_more l a k h]
      obtain ⟨h1, h2, h3⟩ := ih
      unfold hdS
      split
      · exact ⟨h1, h2, by omega⟩
      split
      · exact ⟨h1.filter _, h2, by dsimp only; omega⟩
      split
      · refine ⟨?_, by dsimp only; omega, by dsimp only; omega⟩
        dsimp only
        split
        · exact h1
        · next h4 =>
          rw [List.nodup_append]
          refine ⟨h1, by simp, fun x hx y hy => ?_⟩
          simp at hy
          subst hy
          rintro rfl
          exact h4 (by simpa using hx)
      split
      · exact ⟨h1.filter _, h2, by dsimp only; omega⟩
      · exact ⟨h1, h2, by dsimp only; omega⟩
    · rw [List.take_of_length_le (by omega)]
      rw [List.take_of_length_le (by omega)] at ih
      exact ⟨ih.1, ih.2.1, by omega⟩
theorem max_if (p q : Int) : (if p < q then q else p) = max p q := by split <;> omega
theorem hd_11 {a : Int} {s : Hd} {x : Evt} (ha : x.a = a) (hk : x.k = 11) (H : List Int) (hH : s.h.filter (· ≠ x.t) = H) : hdS a s x = ⟨H, if s.m < ((stU H).length : Int) then ((stU H).length : Int) else s.m, s.x, s.g⟩ := by
  unfold hdS
  rw [if_neg (by simp [ha]), if_pos hk, hH, max_if, st_len]
theorem hd_12 {a : Int} {s : Hd} {x : Evt} (ha : x.a = a) (hk : x.k = 12) (H : List Int) (hH : (if s.h.contains x.t then s.h else s.h ++ [x.t]) = H) : hdS a s x = ⟨H, if s.m < ((stU H).length : Int) then ((stU H).length : Int) else s.m, s.x + 1, s.g && (x.v == s.x)⟩ := by
  unfold hdS
  rw [if_neg (by simp [ha]), if_neg (by omega), if_pos hk, hH, max_if, st_len]
  rfl
theorem hd_13 {a : Int} {s : Hd} {x : Evt} (ha : x.a = a) (hk : x.k = 13) (H : List Int) (hH : s.h.filter (· ≠ x.t) = H) : hdS a s x = ⟨H, if s.m < ((stU H).length : Int) then ((stU H).length : Int) else s.m, s.x, s.g && s.h.contains x.t⟩ := by
  unfold hdS
  rw [if_neg (by simp [ha]), if_neg (by omega), if_neg (by omega), if_pos hk, hH, max_if, st_len]
theorem hd_14 {a : Int} {s : Hd} {x : Evt} (ha : x.a = a) (hk : x.k ≠ 11 ∧ x.k ≠ 12 ∧ x.k ≠ 13) : hdS a s x = ⟨s.h, if s.m < ((stU s.h).length : Int) then ((stU s.h).length : Int) else s.m, s.x, s.g⟩ := by
  unfold hdS
  rw [if_neg (by simp [ha]), if_neg hk.1, if_neg hk.2.1, if_neg hk.2.2, max_if, st_len]
theorem run_store0 (w : World) (g : Nat) : (Instr.storeAt 46 (.pointer (some ⟨g, 0, none⟩)) (.agg #[])).run Tryd.prog w = .ok () w := by
  simp [Instr.storeAt, storeVar, Instr.sureAddr, storeCells, Value.cells]
section
variable {ops : Array Oper} {rest : List Oper} {o : Oper} {a : Act} {Q : Exit → Act → World → Prop} {w : World}
/-- Nothing is stored. -/
theorem wpList_store0 (hg : o.guard = none) (p v : Operand) (hop : o.op = Op.store 46 p v) (g : Nat) (hp : a.eval p = .pointer (some ⟨g, 0, none⟩)) (hv : a.eval v = .agg #[]) (hK : wpList Tryd.prog ops Q rest (a.put o.dst undef) w) : wpList Tryd.prog ops Q (o :: rest) a w := by
  refine wpList_plain hg fun K' hK' => ?_
  unfold Oper.wp
  simp [execOp, hop, hp, hv, run_store0, Result.andThen]
  exact hK' _ _ hK
end
set_option maxHeartbeats 2000000 in
theorem hhold_is (A : Option Addr) (n c : Nat) (l : List Evt) (a : Int) (w : World) (hn : n ≤ 1000) (h : Rw evK w A n c l) (hT : TabH w) :
    Calls Tryd.prog 7 #[.slice A n c, .int .i64 a] w fun e w' => e = .returned (.tuple #[.int .i64 (hdN l a), .bool (hdB l a)]) ∧ Below w.heap.size w w' := by
  have H := Lib.hid h
  have HL := Lib.hid h.len
  have HT := Lib.hid hT
  have M0 := Lib.hid (Mp.made (M := mkU) w w.heap.size rfl)
  clear h hT
  have hmm := @run_makeMap Tryd.prog
  go_enter Tryd.func7, Tryd.ntmps7
  go_wp2
  go_loopw [6, 7, 8, 18] (fun u t g i wr => ∃ (j : Nat) (p x : Int) (b : Bool) (S : List Int), j ≤ n ∧ u = .int .i64 p ∧ t = .int .i64 x ∧ g = .bool b ∧ i = .int .i64 j ∧ hdA (l.take j) a = ⟨S, p, x, b⟩ ∧ Mp mkU wr w.heap.size (stU S) ∧ Below w.heap.size w wr) (fun _ _ _ i _ => ((n : Int) - intOf i).toNat)
  case atStart => exact ⟨0, 0, 0, true, [], by omega, rfl, rfl, rfl, rfl, rfl, M0.out, below_one _ _⟩
  case round =>
    obtain ⟨j, p, tk, g, S, hj, rfl, rfl, rfl, rfl, hs, hm, hb⟩ := hrel
    have HB := Lib.hid hb
    have HS := Lib.hid hs
    have MP := Lib.hid hm
    have hsm := hd_fine l a j
    rw [hs] at hsm
    dsimp only at hsm
    obtain ⟨hnd, hx0, hx1⟩ := hsm
    have ND := Lib.hid hnd
    clear hb hs hm hnd M0
    by_cases hlt : j < n
    · have hjl : j < l.length := by rw [HL.out]; exact hlt
      have HM := Lib.hid (hd_more l a j hjl)
      rw [HS.out] at HM
      obtain ⟨xb, xo, rfl, hbl, f0, f1, f2, f3⟩ := ev_at (H.out.below HB.out) j hlt
      generalize l.getD j ez = x at f0 f1 f2 f3 HM
      have HA' := Lib.hid (below_one wr (.cells #[.int .i64 x.t, .int .i64 x.k, .int .i64 x.a, .int .i64 x.v] 30))
      by_cases ha : x.a = a
      rotate_left
      · have hne : (x.a != a) = true := by simp [ha]
        have HAA := Lib.hid ha
        clear ha
        go_wp2
        go_roundw
        case rel => exact ⟨j + 1, p, tk, g, S, by omega, rfl, rfl, rfl, by go_num, by rw [HM.out]; exact if_pos HAA.out, MP.out.keep HA'.out, HB.out.trans (HA'.out.mono HB.out.size)⟩
        case measure => simp [intOf]; omega
      have hne : (x.a != a) = false := by simp [ha]
      have HAA := Lib.hid ha
      clear ha
      obtain ⟨r, hr⟩ : ∃ r, kR x.k = r := ⟨_, rfl⟩
      have e4 := kR_calls x.k 4 (by decide)
      have e5 := kR_calls x.k 5 (by decide)
      have e6 := kR_returns x.k 4 (by decide)
      rw [clK_4, hr] at e4
      rw [clK_5, hr] at e5
      rw [rtK_4, hr] at e6
      have HR := Lib.hid hr
      clear hr
      have hcase : (Hid (x.k = 11) ∧ (x.k == 11) = true ∧ (x.k == 12) = false ∧ (x.k == 13) = false) ∨ (Hid (x.k = 12) ∧ (x.k == 11) = false ∧ (x.k == 12) = true ∧ (x.k == 13) = false) ∨ (Hid (x.k = 13) ∧ (x.k == 11) = false ∧ (x.k == 12) = false ∧ (x.k == 13) = true) ∨
          (Hid (x.k ≠ 11 ∧ x.k ≠ 12 ∧ x.k ≠ 13) ∧ (x.k == 11) = false ∧ (x.k == 12) = false ∧ (x.k == 13) = false) := by
        by_cases g1 : x.k = 11
        · left; exact ⟨Lib.hid g1, by simp [g1], by simp [g1], by simp [g1]⟩
        · by_cases g2 : x.k = 12
          · right; left; exact ⟨Lib.hid g2, by simp [g2], by simp [g2], by simp [g2]⟩
          · by_cases g3 : x.k = 13
            · right; right; left; exact ⟨Lib.hid g3, by simp [g3], by simp [g3], by simp [g3]⟩
            · right; right; right; exact ⟨Lib.hid ⟨g1, g2, g3⟩, by simp [g1], by simp [g2], by simp [g3]⟩
      have hρ := MP.out.lt
      rcases hcase with ⟨hk, k1, k2, k3⟩ | ⟨hk, k1, k2, k3⟩ | ⟨hk, k1, k2, k3⟩ | ⟨hk, k1, k2, k3⟩
      all_goals
        rw [k1] at e4
        rw [k2] at e6
        rw [k3] at e5
        have E4 := Lib.hid e4
        have E5 := Lib.hid e5
        have E6 := Lib.hid e6
        clear e4 e5 e6 k1 k2 k3
        go_upto_region 8 with (go_at_call 11; (with_reducible refine (look_at x r HR.out _ ((HT.out.keep HB.out).keep HA'.out)).mono ?_); rintro z w1 ⟨rfl, hb⟩; have hz : wr.heap.size < w1.heap.size := (by have := hb.size; simp at this; omega); have P1 : Hid (Bk evK w1 wr.heap.size 30 x) := Lib.hid ((Bk.at_ (K := evK) wr _ x _ rfl _ rfl).keep hb); have HB1 := Lib.hid (HB.out.trans ((HA'.out.mono HB.out.size).trans (hb.mono (by have := HB.out.size; simp; omega)))); have M1 := Lib.hid ((MP.out.keep HA'.out).keep hb); clear hb)
        have P3 := Lib.hid (Bk.at_ (K := rwK) w1 41 r (#[.int .i64 r.s, .int .i64 r.o, .int .i64 r.f, .int .i64 r.d, .bool r.r]) rfl _ rfl)
        have HB3 := Lib.hid (HB1.out.alloc HB1.out.size (.cells #[.int .i64 r.s, .int .i64 r.o, .int .i64 r.f, .int .i64 r.d, .bool r.r] 41))
        have P1 := Lib.hid (P1.out.alloc (.cells #[.int .i64 r.s, .int .i64 r.o, .int .i64 r.f, .int .i64 r.d, .bool r.r] 41))
        have M1 := Lib.hid (M1.out.keep (below_one w1 (.cells #[.int .i64 r.s, .int .i64 r.o, .int .i64 r.f, .int .i64 r.d, .bool r.r] 41)))
        have hρ3 : w.heap.size ≠ w1.heap.size := by omega
        have hρ1 : w.heap.size ≠ wr.heap.size := by omega
        generalize w1.alloc (.cells #[.int .i64 r.s, .int .i64 r.o, .int .i64 r.f, .int .i64 r.d, .bool r.r] 41) = W at *
        generalize w1.heap.size = b3 at *
        have t0 : W.cell? ⟨wr.heap.size, 0, none⟩ = some (.int .i64 x.t) := P1.out.cell 0
        have t3 : W.cell? ⟨wr.heap.size, 3, none⟩ = some (.int .i64 x.v) := P1.out.cell 3
        have r0 : W.cell? ⟨b3, 0, none⟩ = some (.int .i64 r.s) := P3.out.cell 0
        have r1 : W.cell? ⟨b3, 1, none⟩ = some (.int .i64 r.o) := P3.out.cell 1
        have r2 : W.cell? ⟨b3, 2, none⟩ = some (.int .i64 r.f) := P3.out.cell 2
        have r3 : W.cell? ⟨b3, 3, none⟩ = some (.int .i64 r.d) := P3.out.cell 3
        have r4 : W.cell? ⟨b3, 4, none⟩ = some (.bool r.r) := P3.out.cell 4
      · obtain ⟨F, hF⟩ : ∃ F, S.filter (· ≠ x.t) = F := ⟨_, rfl⟩
        have HF := Lib.hid hF
        clear hF
        go_wp2_with (first
          | (go_at_call 13; (first | (with_reducible refine (calls_at r 4 _ E4.out _).mono ?_) | (with_reducible refine (calls_at r 5 _ E5.out _).mono ?_)); rintro z w2 ⟨rfl, hb⟩; have HB3 := Lib.hid (HB3.out.trans (hb.mono HB3.out.size)); have P1 := Lib.hid (P1.out.keep hb); have P3 := Lib.hid (P3.out.keep hb); have M1 := Lib.hid (M1.out.keep hb); clear hb; have t0 : _ = some (Value.int .i64 x.t) := P1.out.cell 0; have t3 : _ = some (Value.int .i64 x.v) := P1.out.cell 3; have r0 : _ = some (Value.int .i64 r.s) := P3.out.cell 0; have r1 : _ = some (Value.int .i64 r.o) := P3.out.cell 1; have r2 : _ = some (Value.int .i64 r.f) := P3.out.cell 2; have r3 : _ = some (Value.int .i64 r.d) := P3.out.cell 3; have r4 : _ = some (Value.bool r.r) := P3.out.cell 4)
          | (at_delete; refine wpList_delMp (M := mkU) rfl _ _ rfl M1.out rfl x.t rfl ?_; intro w4 hm4 hb4; have P1 := Lib.hid (hb4.bk P1.out hρ1.symm); have P3 := Lib.hid (hb4.bk P3.out hρ3.symm); have HB3 := Lib.hid (HB3.out.trans (hb4.below (Nat.le_refl _) HB3.out.size)); have M1 : Hid (Mp mkU w4 w.heap.size (stU F)) := Lib.hid (HF.out ▸ st_del S ND.out x.t ▸ hm4); clear hm4 hb4; have t0 : _ = some (Value.int .i64 x.t) := P1.out.cell 0; have t3 : _ = some (Value.int .i64 x.v) := P1.out.cell 3; have r0 : _ = some (Value.int .i64 r.s) := P3.out.cell 0; have r1 : _ = some (Value.int .i64 r.o) := P3.out.cell 1; have r2 : _ = some (Value.int .i64 r.f) := P3.out.cell 2; have r3 : _ = some (Value.int .i64 r.d) := P3.out.cell 3; have r4 : _ = some (Value.bool r.r) := P3.out.cell 4)
          | (at_len; refine wpList_lenMp (M := mkU) rfl _ rfl M1.out rfl ?_))
        go_roundw
        case rel => exact ⟨j + 1, _, tk, g, F, by omega, rfl, rfl, rfl, by go_num, by rw [HM.out, hd_11 HAA.out hk.out F HF.out], M1.out, HB3.out⟩
        case measure => simp [intOf]; omega
      · cases g
        all_goals
          obtain ⟨cb, hcb⟩ : ∃ cb, mkU.has (stU S) x.t = cb := ⟨_, rfl⟩
          have hc2 := st_has S x.t
          rw [hcb] at hc2
          have HC := Lib.hid hcb
          clear hcb
          cases cb
          · have HF : Hid ((if S.contains x.t = true then S else S ++ [x.t]) = S ++ [x.t]) := Lib.hid (if_neg (by rw [← hc2]; decide))
            clear hc2
            go_wp2_with (first
          | (go_at_call 13; (first | (with_reducible refine (calls_at r 4 _ E4.out _).mono ?_) | (with_reducible refine (calls_at r 5 _ E5.out _).mono ?_)); rintro z w2 ⟨rfl, hb⟩; have HB3 := Lib.hid (HB3.out.trans (hb.mono HB3.out.size)); have P1 := Lib.hid (P1.out.keep hb); have P3 := Lib.hid (P3.out.keep hb); have M1 := Lib.hid (M1.out.keep hb); clear hb; have t0 : _ = some (Value.int .i64 x.t) := P1.out.cell 0; have t3 : _ = some (Value.int .i64 x.v) := P1.out.cell 3; have r0 : _ = some (Value.int .i64 r.s) := P3.out.cell 0; have r1 : _ = some (Value.int .i64 r.o) := P3.out.cell 1; have r2 : _ = some (Value.int .i64 r.f) := P3.out.cell 2; have r3 : _ = some (Value.int .i64 r.d) := P3.out.cell 3; have r4 : _ = some (Value.bool r.r) := P3.out.cell 4)
          | (go_at_call 14; (with_reducible refine (returns_at r 4 _ E6.out _).mono ?_); rintro z w2 ⟨rfl, hb⟩; have HB3 := Lib.hid (HB3.out.trans (hb.mono HB3.out.size)); have P1 := Lib.hid (P1.out.keep hb); have P3 := Lib.hid (P3.out.keep hb); have M1 := Lib.hid (M1.out.keep hb); clear hb; have t0 : _ = some (Value.int .i64 x.t) := P1.out.cell 0; have t3 : _ = some (Value.int .i64 x.v) := P1.out.cell 3; have r0 : _ = some (Value.int .i64 r.s) := P3.out.cell 0; have r1 : _ = some (Value.int .i64 r.o) := P3.out.cell 1; have r2 : _ = some (Value.int .i64 r.f) := P3.out.cell 2; have r3 : _ = some (Value.int .i64 r.d) := P3.out.cell 3; have r4 : _ = some (Value.bool r.r) := P3.out.cell 4)
          | (at_mapUpdate; refine wpList_putMp (M := mkU) rfl _ _ _ rfl M1.out rfl x.t rfl () rfl HC.out ?_; intro w4 hm4 hb4; have P1 := Lib.hid (hb4.bk P1.out hρ1.symm); have P3 := Lib.hid (hb4.bk P3.out hρ3.symm); have HB3 := Lib.hid (HB3.out.trans (hb4.below (Nat.le_refl _) HB3.out.size)); have M1 : Hid (Mp mkU w4 w.heap.size (stU (S ++ [x.t]))) := Lib.hid (st_add S x.t ▸ hm4); clear hm4 hb4; have t0 : _ = some (Value.int .i64 x.t) := P1.out.cell 0; have t3 : _ = some (Value.int .i64 x.v) := P1.out.cell 3; have r0 : _ = some (Value.int .i64 r.s) := P3.out.cell 0; have r1 : _ = some (Value.int .i64 r.o) := P3.out.cell 1; have r2 : _ = some (Value.int .i64 r.f) := P3.out.cell 2; have r3 : _ = some (Value.int .i64 r.d) := P3.out.cell 3; have r4 : _ = some (Value.bool r.r) := P3.out.cell 4)
          | (at_len; refine wpList_lenMp (M := mkU) rfl _ rfl M1.out rfl ?_))
            go_roundw
            case rel => exact ⟨j + 1, _, tk + 1, _, S ++ [x.t], by omega, rfl, rfl, rfl, by go_num, by rw [HM.out, hd_12 HAA.out hk.out _ HF.out]; simp only [Bool.true_and, Bool.false_and], M1.out, HB3.out⟩
            case measure => simp [intOf]; omega
          · have HF : Hid ((if S.contains x.t = true then S else S ++ [x.t]) = S) := Lib.hid (if_pos hc2.symm)
            clear hc2
            go_wp2_with (first
          | (go_at_call 13; (first | (with_reducible refine (calls_at r 4 _ E4.out _).mono ?_) | (with_reducible refine (calls_at r 5 _ E5.out _).mono ?_)); rintro z w2 ⟨rfl, hb⟩; have HB3 := Lib.hid (HB3.out.trans (hb.mono HB3.out.size)); have P1 := Lib.hid (P1.out.keep hb); have P3 := Lib.hid (P3.out.keep hb); have M1 := Lib.hid (M1.out.keep hb); clear hb; have t0 : _ = some (Value.int .i64 x.t) := P1.out.cell 0; have t3 : _ = some (Value.int .i64 x.v) := P1.out.cell 3; have r0 : _ = some (Value.int .i64 r.s) := P3.out.cell 0; have r1 : _ = some (Value.int .i64 r.o) := P3.out.cell 1; have r2 : _ = some (Value.int .i64 r.f) := P3.out.cell 2; have r3 : _ = some (Value.int .i64 r.d) := P3.out.cell 3; have r4 : _ = some (Value.bool r.r) := P3.out.cell 4)
          | (go_at_call 14; (with_reducible refine (returns_at r 4 _ E6.out _).mono ?_); rintro z w2 ⟨rfl, hb⟩; have HB3 := Lib.hid (HB3.out.trans (hb.mono HB3.out.size)); have P1 := Lib.hid (P1.out.keep hb); have P3 := Lib.hid (P3.out.keep hb); have M1 := Lib.hid (M1.out.keep hb); clear hb; have t0 : _ = some (Value.int .i64 x.t) := P1.out.cell 0; have t3 : _ = some (Value.int .i64 x.v) := P1.out.cell 3; have r0 : _ = some (Value.int .i64 r.s) := P3.out.cell 0; have r1 : _ = some (Value.int .i64 r.o) := P3.out.cell 1; have r2 : _ = some (Value.int .i64 r.f) := P3.out.cell 2; have r3 : _ = some (Value.int .i64 r.d) := P3.out.cell 3; have r4 : _ = some (Value.bool r.r) := P3.out.cell 4)
          | (at_mapUpdate; refine wpList_againMp (M := mkU) rfl _ _ _ rfl M1.out rfl x.t rfl () rfl HC.out (fun y hy => ((eqU _ _).1 hy).symm) (sbI _) ?_; intro w4 hm4 hb4; have P1 := Lib.hid (hb4.bk P1.out hρ1.symm); have P3 := Lib.hid (hb4.bk P3.out hρ3.symm); have HB3 := Lib.hid (HB3.out.trans (hb4.below (Nat.le_refl _) HB3.out.size)); have M1 : Hid (Mp mkU w4 w.heap.size (stU S)) := Lib.hid (hm4); clear hm4 hb4; have t0 : _ = some (Value.int .i64 x.t) := P1.out.cell 0; have t3 : _ = some (Value.int .i64 x.v) := P1.out.cell 3; have r0 : _ = some (Value.int .i64 r.s) := P3.out.cell 0; have r1 : _ = some (Value.int .i64 r.o) := P3.out.cell 1; have r2 : _ = some (Value.int .i64 r.f) := P3.out.cell 2; have r3 : _ = some (Value.int .i64 r.d) := P3.out.cell 3; have r4 : _ = some (Value.bool r.r) := P3.out.cell 4)
          | (at_len; refine wpList_lenMp (M := mkU) rfl _ rfl M1.out rfl ?_))
            go_roundw
            case rel => exact ⟨j + 1, _, tk + 1, _, S, by omega, rfl, rfl, rfl, by go_num, by rw [HM.out, hd_12 HAA.out hk.out _ HF.out]; simp only [Bool.true_and, Bool.false_and], M1.out, HB3.out⟩
            case measure => simp [intOf]; omega
      · cases g
        all_goals
          obtain ⟨cb, hcb⟩ : ∃ cb, mkU.has (stU S) x.t = cb := ⟨_, rfl⟩
          have hc2 := st_has S x.t
          rw [hcb] at hc2
          have HC := Lib.hid hcb
          have HC2 := Lib.hid hc2
          clear hcb hc2
          obtain ⟨F, hF⟩ : ∃ F, S.filter (· ≠ x.t) = F := ⟨_, rfl⟩
          have HF := Lib.hid hF
          clear hF
          go_wp2_with (first
          | (go_at_call 13; (first | (with_reducible refine (calls_at r 4 _ E4.out _).mono ?_) | (with_reducible refine (calls_at r 5 _ E5.out _).mono ?_)); rintro z w2 ⟨rfl, hb⟩; have HB3 := Lib.hid (HB3.out.trans (hb.mono HB3.out.size)); have P1 := Lib.hid (P1.out.keep hb); have P3 := Lib.hid (P3.out.keep hb); have M1 := Lib.hid (M1.out.keep hb); clear hb; have t0 : _ = some (Value.int .i64 x.t) := P1.out.cell 0; have t3 : _ = some (Value.int .i64 x.v) := P1.out.cell 3; have r0 : _ = some (Value.int .i64 r.s) := P3.out.cell 0; have r1 : _ = some (Value.int .i64 r.o) := P3.out.cell 1; have r2 : _ = some (Value.int .i64 r.f) := P3.out.cell 2; have r3 : _ = some (Value.int .i64 r.d) := P3.out.cell 3; have r4 : _ = some (Value.bool r.r) := P3.out.cell 4)
          | (go_at_call 14; (with_reducible refine (returns_at r 4 _ E6.out _).mono ?_); rintro z w2 ⟨rfl, hb⟩; have HB3 := Lib.hid (HB3.out.trans (hb.mono HB3.out.size)); have P1 := Lib.hid (P1.out.keep hb); have P3 := Lib.hid (P3.out.keep hb); have M1 := Lib.hid (M1.out.keep hb); clear hb; have t0 : _ = some (Value.int .i64 x.t) := P1.out.cell 0; have t3 : _ = some (Value.int .i64 x.v) := P1.out.cell 3; have r0 : _ = some (Value.int .i64 r.s) := P3.out.cell 0; have r1 : _ = some (Value.int .i64 r.o) := P3.out.cell 1; have r2 : _ = some (Value.int .i64 r.f) := P3.out.cell 2; have r3 : _ = some (Value.int .i64 r.d) := P3.out.cell 3; have r4 : _ = some (Value.bool r.r) := P3.out.cell 4)
          | (at_lookup; refine wpList_lookMp (M := mkU) rfl _ _ rfl M1.out rfl x.t rfl () rfl cb HC.out ?_)
          | (refine wpList_store0 rfl (.tmp 13) (.tmp 58) rfl _ rfl rfl ?_; have P1 := Lib.hid (P1.out.alloc (.cells #[] 46)); have P3 := Lib.hid (P3.out.alloc (.cells #[] 46)); have M1 := Lib.hid (M1.out.keep (below_one _ (.cells #[] 46))); have HB3 := Lib.hid (HB3.out.alloc HB3.out.size (.cells #[] 46)); have t0 : _ = some (Value.int .i64 x.t) := P1.out.cell 0; have t3 : _ = some (Value.int .i64 x.v) := P1.out.cell 3; have r0 : _ = some (Value.int .i64 r.s) := P3.out.cell 0; have r1 : _ = some (Value.int .i64 r.o) := P3.out.cell 1; have r2 : _ = some (Value.int .i64 r.f) := P3.out.cell 2; have r3 : _ = some (Value.int .i64 r.d) := P3.out.cell 3; have r4 : _ = some (Value.bool r.r) := P3.out.cell 4)
          | (at_delete; refine wpList_delMp (M := mkU) rfl _ _ rfl M1.out rfl x.t rfl ?_; intro w4 hm4 hb4; have P1 := Lib.hid (hb4.bk P1.out hρ1.symm); have P3 := Lib.hid (hb4.bk P3.out hρ3.symm); have HB3 := Lib.hid (HB3.out.trans (hb4.below (Nat.le_refl _) HB3.out.size)); have M1 : Hid (Mp mkU w4 w.heap.size (stU F)) := Lib.hid (HF.out ▸ st_del S ND.out x.t ▸ hm4); clear hm4 hb4; have t0 : _ = some (Value.int .i64 x.t) := P1.out.cell 0; have t3 : _ = some (Value.int .i64 x.v) := P1.out.cell 3; have r0 : _ = some (Value.int .i64 r.s) := P3.out.cell 0; have r1 : _ = some (Value.int .i64 r.o) := P3.out.cell 1; have r2 : _ = some (Value.int .i64 r.f) := P3.out.cell 2; have r3 : _ = some (Value.int .i64 r.d) := P3.out.cell 3; have r4 : _ = some (Value.bool r.r) := P3.out.cell 4)
          | (at_len; refine wpList_lenMp (M := mkU) rfl _ rfl M1.out rfl ?_))
          go_roundw
          case rel => exact ⟨j + 1, _, tk, _, F, by omega, rfl, rfl, rfl, by go_num, by rw [HM.out, hd_13 HAA.out hk.out F HF.out]; simp only [← HC2.out, Bool.true_and, Bool.false_and], M1.out, HB3.out⟩
          case measure => simp [intOf]; omega
      · go_wp2_with (first
          | (go_at_call 13; (first | (with_reducible refine (calls_at r 4 _ E4.out _).mono ?_) | (with_reducible refine (calls_at r 5 _ E5.out _).mono ?_)); rintro z w2 ⟨rfl, hb⟩; have HB3 := Lib.hid (HB3.out.trans (hb.mono HB3.out.size)); have P1 := Lib.hid (P1.out.keep hb); have P3 := Lib.hid (P3.out.keep hb); have M1 := Lib.hid (M1.out.keep hb); clear hb; have t0 : _ = some (Value.int .i64 x.t) := P1.out.cell 0; have t3 : _ = some (Value.int .i64 x.v) := P1.out.cell 3; have r0 : _ = some (Value.int .i64 r.s) := P3.out.cell 0; have r1 : _ = some (Value.int .i64 r.o) := P3.out.cell 1; have r2 : _ = some (Value.int .i64 r.f) := P3.out.cell 2; have r3 : _ = some (Value.int .i64 r.d) := P3.out.cell 3; have r4 : _ = some (Value.bool r.r) := P3.out.cell 4)
          | (go_at_call 14; (with_reducible refine (returns_at r 4 _ E6.out _).mono ?_); rintro z w2 ⟨rfl, hb⟩; have HB3 := Lib.hid (HB3.out.trans (hb.mono HB3.out.size)); have P1 := Lib.hid (P1.out.keep hb); have P3 := Lib.hid (P3.out.keep hb); have M1 := Lib.hid (M1.out.keep hb); clear hb; have t0 : _ = some (Value.int .i64 x.t) := P1.out.cell 0; have t3 : _ = some (Value.int .i64 x.v) := P1.out.cell 3; have r0 : _ = some (Value.int .i64 r.s) := P3.out.cell 0; have r1 : _ = some (Value.int .i64 r.o) := P3.out.cell 1; have r2 : _ = some (Value.int .i64 r.f) := P3.out.cell 2; have r3 : _ = some (Value.int .i64 r.d) := P3.out.cell 3; have r4 : _ = some (Value.bool r.r) := P3.out.cell 4)
          | (at_len; refine wpList_lenMp (M := mkU) rfl _ rfl M1.out rfl ?_))
        go_roundw
        case rel => exact ⟨j + 1, _, tk, g, S, by omega, rfl, rfl, rfl, by go_num, by rw [HM.out, hd_14 HAA.out hk.out], M1.out, HB3.out⟩
        case measure => simp [intOf]; omega
    · obtain rfl : j = n := by omega
      have hq : hdA l a = ⟨S, p, tk, g⟩ := by
        have := HS.out
        rwa [List.take_of_length_le (by rw [HL.out]; exact Nat.le_refl _)] at this
      have HV : Hid (hdN l a = p ∧ hdB l a = g) := Lib.hid ⟨by unfold hdN; rw [hq], by unfold hdB; rw [hq]⟩
      clear hq
      go_wp2
      refine bodyPost_ret (v := .tuple #[.int .i64 p, .bool g]) ?_ rfl ⟨by rw [HV.out.1, HV.out.2], HB.out⟩
      simp [results, Tryd.results7, go_sem]
end Go.Proofs.YtpkjepbeeebdoaaDoor
