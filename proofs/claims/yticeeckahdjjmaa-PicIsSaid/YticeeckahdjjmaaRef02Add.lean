/-
  What the document calls Add of layer 2: the sum, digit of two by digit of two, going round. Of what was there nothing changes.
-/
import Derived.Test.YticeeckahdjjmaaRef02Make
import Derived.Deep.QuietTactic
import Derived.BigQuiet
namespace Go.Proofs.Yticeeckahdjjmaa
open Go.RowKit
/-- The carry behind k digits. -/
def car (x y : Int) (k : Nat) : Int := (x % 2 ^ k + y % 2 ^ k) / 2 ^ k
theorem mod_twice (x p : Int) (hp : 0 < p) : x % (p * 2) = (x / p % 2) * p + x % p := by
  have h1 := Int.mul_ediv_add_emod x p
  have h2 := Int.mul_ediv_add_emod x (p * 2)
  have h3 : x / (p * 2) = x / p / 2 := half_eq hp
  rw [h3] at h2
  generalize x / p = Y at *
  generalize hq : Y / 2 = A at *
  have e2 : Y = 2 * A + Y % 2 := by omega
  have e4 : p * Y = p * 2 * A + p * (Y % 2) := by
    rw [show p * 2 * A = p * (2 * A) by grind, ← Int.mul_add, ← e2]
  rw [Int.mul_comm (Y % 2) p]; omega
theorem car_step (x y : Int) (k : Nat) : dig x k + dig y k + car x y k = 2 * car x y (k + 1) + dig (x + y) k ∧ 0 ≤ car x y k ∧ car x y k ≤ 1 := by
  have hp := pow_pos' k
  unfold car dig
  rw [Int.pow_succ]
  generalize (2 : Int) ^ k = p at *
  rw [mod_twice x p hp, mod_twice y p hp]
  have a0 := Int.emod_nonneg x (show p ≠ 0 by omega)
  have a1 := Int.emod_lt_of_pos x hp
  have b0 := Int.emod_nonneg y (show p ≠ 0 by omega)
  have b1 := Int.emod_lt_of_pos y hp
  have hx := Int.mul_ediv_add_emod x p
  have hy := Int.mul_ediv_add_emod y p
  have e1 : x / p % 2 * p + x % p + (y / p % 2 * p + y % p) = (x % p + y % p) + (x / p % 2 + y / p % 2) * p := by grind
  have e2 : x + y = (x % p + y % p) + (x / p + y / p) * p := by
    have : (x / p + y / p) * p = p * (x / p) + p * (y / p) := by grind
    omega
  have e3 : (x + y) / p = (x % p + y % p) / p + (x / p + y / p) := by
    conv => lhs; rw [e2]
    exact Int.add_mul_ediv_right _ _ (by omega)
  have c0 : 0 ≤ (x % p + y % p) / p := Int.ediv_nonneg (by omega) (by omega)
  have c1 : (x % p + y % p) / p ≤ 1 := by
    have : (x % p + y % p) / p < 2 := Int.ediv_lt_of_lt_mul hp (by omega)
    omega
  rw [e1, half_eq hp, Int.add_mul_ediv_right _ _ (by omega), e3]
  refine ⟨?_, c0, c1⟩
  omega
theorem car_0 (x y : Int) : car x y 0 = 0 := by unfold car; simp [Int.emod_one]
theorem dig_01 (x : Int) (k : Nat) : 0 ≤ dig x k ∧ dig x k ≤ 1 := by unfold dig; omega
theorem car_mod (x y : Int) (k : Nat) : (dig x k + dig y k + car x y k).tmod 2 = dig (x + y) k ∧ (dig x k + dig y k + car x y k).tdiv 2 = car x y (k + 1) := by
  obtain ⟨h, h0, h1⟩ := car_step x y k
  obtain ⟨_, g0, g1⟩ := car_step x y (k + 1)
  have hd := dig_01 (x + y) k
  rw [h, Int.tmod_eq_emod_of_nonneg (by omega), Int.tdiv_eq_ediv_of_nonneg (by omega)]
  omega
theorem car_sum (x y : Int) (k : Nat) : IntKind.i64.wrap (dig x k + dig y k) = dig x k + dig y k ∧ ∃ s, IntKind.i64.wrap (dig x k + dig y k + car x y k) = s ∧ 0 ≤ s ∧ s ≤ 3 ∧ s % 2 = dig (x + y) k ∧ s / 2 = car x y (k + 1) := by
  obtain ⟨h, h0, h1⟩ := car_step x y k
  obtain ⟨_, g0, g1⟩ := car_step x y (k + 1)
  have hd := dig_01 (x + y) k
  have hx := dig_01 x k
  have hy := dig_01 y k
  have e1 : IntKind.i64.wrap (dig x k + dig y k) = dig x k + dig y k := by rw [wrapi64]; exact wrap64_id ⟨by omega, by omega⟩
  refine ⟨e1, dig x k + dig y k + car x y k, by rw [wrapi64]; exact wrap64_id ⟨by omega, by omega⟩, by omega, by omega, by omega, by omega⟩
/-- A new block of 128 noughts. -/
def new128 : Obj := .cells (Array.replicate 128 (.int .i64 0)) 3
theorem run_make128 (w : World) : (Instr.makeSlice 78 (.int .i64 128) (.int .i64 128)).run Try.prog w = .ok (.slice (some ⟨w.heap.size, 0, none⟩) 128 128) (w.alloc new128) := by kernel_rfl
theorem new128_row (w : World) : Row (w.alloc new128) w.heap.size 128 (fun _ => 0) := by
  intro j hj
  unfold new128
  rw [World.cell?_alloc_at _ _ _ _ rfl]
  simp [hj]
theorem new128_frozen (w : World) (j : Nat) : (w.alloc new128).frozen? ⟨w.heap.size, j, none⟩ = false := by
  unfold new128
  exact World.frozen?_alloc_new w _ _ j
theorem row_set {w : World} {B n : Nat} {z : Nat → Int} (h : Row w B n z) (k : Nat) (v : Int) : Row (w.setCell ⟨B, k, none⟩ (.int .i64 v)) B n (fun j => if j = k then v else z j) := by
  intro j hj
  show _ = some (Value.int .i64 (if j = k then v else z j))
  by_cases e : j = k
  · subst e
    rw [if_pos rfl]; exact World.cell?_setCell_same w _ _ (h j hj)
  · rw [if_neg e, World.cell?_setCell_other]
    · exact h j hj
    · intro h2; exact e (Addr.mk.inj h2).2.1.symm
theorem row_congr {w : World} {B n : Nat} {z y : Nat → Int} (h : Row w B n z) (e : ∀ j, j < n → z j = y j) : Row w B n y := by
  intro j hj; rw [← e j hj]; exact h j hj
/-- What holds while digits are laid into a new row behind world w: z so far. -/
def Lays (w : World) (z : Nat → Int) (wr : World) : Prop := Row wr w.heap.size 128 z ∧ (∀ j, wr.frozen? ⟨w.heap.size, j, none⟩ = false) ∧ Keeps w wr ∧ w.heap.size < wr.heap.size
theorem lays_new (w : World) : Lays w (fun _ => 0) (w.alloc new128) := ⟨new128_row w, new128_frozen w, (Keeps.refl w).alloc _, by simp⟩
theorem lays_set {w wr : World} {z : Nat → Int} (h : Lays w z wr) (k : Nat) (v : Int) (y : Nat → Int) (hy : ∀ j, j < 128 → (if j = k then v else z j) = y j) : Lays w y (wr.setCell ⟨w.heap.size, k, none⟩ (.int .i64 v)) :=
  ⟨row_congr (row_set h.1 k v) hy, fun j => by rw [World.frozen?_setCell]; exact h.2.1 j, h.2.2.1.setCell (Nat.le_refl _) _, by simpa [World.setCell] using h.2.2.2⟩
theorem lays_drewN {w wr : World} {z : Nat → Int} (h : Lays w z wr) (n : Nat) : Lays w z (wr.drewN n) := ⟨h.1, h.2.1, h.2.2.1.drewN n, h.2.2.2⟩
theorem lays_congr {w wr : World} {z y : Nat → Int} (h : Lays w z wr) (e : ∀ j, j < 128 → z j = y j) : Lays w y wr := ⟨row_congr h.1 e, h.2⟩
/-- The digits that a sum has so far. -/
def sofar (s : Int) (k : Nat) (j : Nat) : Int := if j < k then dig s j else 0

set_option maxHeartbeats 2000000 in
set_option maxRecDepth 100000 in
theorem radd_any (x y : Int) (w : World) :
    Calls Try.prog 68 #[.agg #[.int .i64 (dLo x), .int .i64 (dHi x)], .agg #[.int .i64 (dLo y), .int .i64 (dHi y)]] w fun e w' => e = .returned (.agg #[.int .i64 (dLo (x + y)), .int .i64 (dHi (x + y))]) ∧ Keeps w w' := by
  have hmk := run_make128
  go_enter Try.func68, Try.ntmps68
  go_wp2_with fail
  refine (bits2_any _ _).mono ?_
  rintro e w1 ⟨g1, cap1, rfl, hg1, hg1', R1, K1⟩
  have hc0 := K1.cell_some (b := w.heap.size + 1) (o := 0) (by simp) (v := .int .i64 (dLo y)) (by simp [go_sem, World.cell?_alloc_past])
  have hc1 := K1.cell_some (b := w.heap.size + 1) (o := 1) (by simp) (v := .int .i64 (dHi y)) (by simp [go_sem, World.cell?_alloc_past])
  go_wp2_with fail
  refine (bits2_any _ _).mono ?_
  rintro e w2 ⟨g2, cap2, rfl, hg2, hg2', R2, K2⟩
  have HK := Lib.hid (K1.trans K2)
  have HR1 : Hid (Row w2 g1 128 (dig x)) := fun j hj => K2.cell_some hg1' (R1 j hj)
  have HR2 := Lib.hid R2
  have hlt1 : g1 < w2.heap.size := Nat.lt_of_lt_of_le hg1' K2.size
  clear hc0 hc1 R1 R2 K1 K2 hg1 hg1' hg2
  go_wp2
  clear hmk
  go_loopw [8, 9, 10] (fun c i _s wr => ∃ k : Nat, k ≤ 128 ∧ i = .int .i64 k ∧ c = .int .i64 (car x y k) ∧ Lays w2 (sofar (x + y) k) wr) (fun _ i _ _ => (128 - intOf i).toNat)
  case atStart => exact ⟨0, by omega, rfl, by rw [car_0], lays_congr (lays_new w2) (fun j _ => by unfold sofar; rw [if_neg (by omega)])⟩
  case round =>
    obtain ⟨k, hk, rfl, rfl, HL⟩ := hrel
    by_cases h128 : k = 128
    · subst h128
      have hr : Row wr w2.heap.size 128 (dig (x + y)) := row_congr HL.1 (fun j hj => by unfold sofar; rw [if_pos hj])
      have HKW := Lib.hid (HK.out.trans HL.2.2.1)
      have hlt := HL.2.2.2
      clear HL
      go_wp2_with (go_at_call 72; refine (make2_any _ _ _ hlt hr).mono ?_; rintro e w5 ⟨rfl, hw5⟩; have hk5 := HKW.out.trans hw5; have c0 := hk5.cell_some (b := w.heap.size + 1 + 1) (o := 0) (by simp) (v := .int .i64 0) (by simp [go_sem]); have c1 := hk5.cell_some (b := w.heap.size + 1 + 1) (o := 1) (by simp) (v := .int .i64 0) (by simp [go_sem]); have f0 : w5.frozen? ⟨w.heap.size + 1 + 1, 0, none⟩ = false := (hk5.frozen (by simp)).trans (by simp [go_sem]); have f1 : w5.frozen? ⟨w.heap.size + 1 + 1, 1, none⟩ = false := (hk5.frozen (by simp)).trans (by simp [go_sem]))
      refine bodyPost_ret (v := .agg #[.int .i64 (dLo (x + y)), .int .i64 (dHi (x + y))]) (by simp [results, Try.results68, go_sem, c0, c1]) rfl ⟨rfl, ?_⟩
      exact ((((((Keeps.refl w).alloc _).alloc _).alloc _).trans hk5).setCell (by simp; omega) _).setCell (by simp; omega) _
    · have hk' : (k : Int) < 128 := by omega
      have cx : wr.cell? ⟨g1, k, none⟩ = some (.int .i64 (dig x k)) := HL.2.2.1.cell_some hlt1 (HR1.out k (by omega))
      have cy : wr.cell? ⟨g2, k, none⟩ = some (.int .i64 (dig y k)) := HL.2.2.1.cell_some hg2' (HR2.out k (by omega))
      have cz := HL.1 k (by omega)
      have fz := HL.2.1 k
      obtain ⟨e0, s, e1, s0, s3, m1, d1⟩ := car_sum x y k
      go_wp2
      go_quiet (fail)
      go_wp2
      go_roundw
      case rel =>
        refine ⟨k + 1, by omega, by go_num, by rw [d1], lays_set (lays_drewN HL _) k _ _ (fun j hj => ?_)⟩
        unfold sofar
        by_cases e : j = k
        · subst e; rw [if_pos rfl, if_pos (by omega)]; first | done | exact m1
        · rw [if_neg e]; by_cases h : j < k
          · rw [if_pos h, if_pos (by omega)]
          · rw [if_neg h, if_neg (by omega)]
      case measure => simp [intOf]; omega
end Go.Proofs.Yticeeckahdjjmaa
