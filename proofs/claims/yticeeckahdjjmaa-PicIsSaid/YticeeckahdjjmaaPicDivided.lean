/-
  What package pic's divided tells: what is left of a double without a sign, divided by a base, and the quotient.
-/
import Derived.Test.YticeeckahdjjmaaPicDiv
namespace Go.Proofs.Yticeeckahdjjmaa
open Go.RowKit

theorem resK {W w' : World} {R : Nat} {r s : Value} (hg : Keeps W w') (hR : R < W.heap.size) (k : W.cell? ⟨R, 0, none⟩ = some r ∧ W.cell? ⟨R, 1, none⟩ = some s ∧ W.frozen? ⟨R, 0, none⟩ = false ∧ W.frozen? ⟨R, 1, none⟩ = false) :
    w'.cell? ⟨R, 0, none⟩ = some r ∧ w'.cell? ⟨R, 1, none⟩ = some s ∧ w'.frozen? ⟨R, 0, none⟩ = false ∧ w'.frozen? ⟨R, 1, none⟩ = false :=
  ⟨hg.cell_some hR k.1, hg.cell_some hR k.2.1, (hg.frozen hR).trans k.2.2.1, (hg.frozen hR).trans k.2.2.2⟩
theorem pd_nat (X1 X0 b M : Nat) (h2 : 2 ≤ b) (h0 : X0 < M) (h1 : X1 < M) :
    (X1 * M + X0) / b = X1 / b * M + (X1 % b * M + X0) / b ∧ (X1 * M + X0) % b = (X1 % b * M + X0) % b ∧ (X1 % b * M + X0) / b < M ∧ X1 / b < M ∧ X1 % b < b := by
  have e0 := Nat.div_add_mod X1 b
  have hm := Nat.mod_lt X1 (y := b) (by omega)
  have hd := Nat.div_le_self X1 b
  have e1 : X1 * M + X0 = b * (X1 / b * M) + (X1 % b * M + X0) := by
    conv => lhs; rw [← e0]
    rw [Nat.add_mul, Nat.mul_assoc, Nat.add_assoc]
  refine ⟨?_, ?_, ?_, by omega, hm⟩
  · rw [e1, Nat.mul_add_div (by omega)]
  · rw [e1, Nat.mul_add_mod]
  · apply Nat.div_lt_of_lt_mul
    have h3 : (X1 % b + 1) * M ≤ b * M := Nat.mul_le_mul_right M hm
    rw [Nat.add_mul] at h3
    omega
theorem pd_hi (Z Y : Nat) (hY : Y < 18446744073709551616) : dHi ((Z * 18446744073709551616 + Y : Nat) : Int) = wrap64 Z := by unfold dHi; congr 1; omega
theorem pd_lo (Z Y : Nat) : dLo ((Z * 18446744073709551616 + Y : Nat) : Int) = wrap64 Y := by unfold dLo wrap64; omega
theorem pd_uhi (Z Y : Nat) (hY : Y < 18446744073709551616) (hZ : Z < 18446744073709551616) : IntKind.u64.wrap (dHi ((Z * 18446744073709551616 + Y : Nat) : Int)) = (Z : Int) := by rw [pd_hi Z Y hY, u64wrap]; unfold wrap64; omega
theorem pd_ulo (Z Y : Nat) (hY : Y < 18446744073709551616) : IntKind.u64.wrap (dLo ((Z * 18446744073709551616 + Y : Nat) : Int)) = (Y : Int) := by rw [pd_lo Z Y, u64wrap]; unfold wrap64; omega
theorem pd_parts (q : Nat) (hq : q < 340282366920938463463374607431768211456) : ∃ X1 X0 : Nat, X0 < 18446744073709551616 ∧ X1 < 18446744073709551616 ∧ q = X1 * 18446744073709551616 + X0 := ⟨q / 18446744073709551616, q % 18446744073709551616, by omega, by omega, by omega⟩
set_option maxHeartbeats 400000 in
theorem pdivided_is (q b r k : Nat) (hq : q < 340282366920938463463374607431768211456) (h2 : 2 ≤ b) (h36 : b ≤ 36) (hr : q % b = r) (hk : q / b = k) (w : World) :
    Calls Try.prog 33 #[.agg #[.int .i64 (dLo q), .int .i64 (dHi q)], .int .i64 (b : Int)] w fun e w' => e = .returned (.tuple #[.int .i64 (r : Int), .agg #[.int .i64 (dLo k), .int .i64 (dHi k)]]) ∧ Keeps w w' := by
  obtain ⟨X1, X0, h0, h1, rfl⟩ := pd_parts q hq
  obtain ⟨n1, n2, n3, n4, n5⟩ := pd_nat X1 X0 b 18446744073709551616 h2 h0 h1
  have m1 := pd_uhi X1 X0 h0 h1
  have m2 := pd_ulo X1 X0 h0
  have m3 : IntKind.u64.wrap (b : Int) = (b : Int) := by rw [u64wrap]; omega
  have hrb : r < b := by rw [← hr]; exact Nat.mod_lt _ (by omega)
  have HR : Hid (wrap64 (r : Int) = (r : Int)) := Lib.hid (by unfold wrap64; omega)
  have HA := Lib.hid (div_any 0 X1 b h2 h36 (by omega) h1)
  have HB := Lib.hid (div_any (X1 % b) X0 b h2 h36 n5 h0)
  have hq0 : dvQ 0 X1 b = X1 / b := by unfold dvQ; rw [Nat.zero_mul, Nat.zero_add]
  have hr0 : dvR 0 X1 b = X1 % b := by unfold dvR; rw [Nat.zero_mul, Nat.zero_add]
  have hr1 : dvR (X1 % b) X0 b = r := by unfold dvR; rw [← n2]; exact hr
  rw [hq0, hr0] at HA
  rw [hr1] at HB
  have hk1 : k = X1 / b * 18446744073709551616 + dvQ (X1 % b) X0 b := by rw [← hk, n1]; rfl
  have hn3 : dvQ (X1 % b) X0 b < 18446744073709551616 := n3
  have H6 : Hid (wrap64 ((X1 / b : Nat) : Int) = dHi k) := Lib.hid (by rw [hk1, pd_hi _ _ hn3])
  have H7 : Hid (wrap64 ((dvQ (X1 % b) X0 b : Nat) : Int) = dLo k) := Lib.hid (by rw [hk1, pd_lo])
  clear hk1 hn3 hr1 hr0 hq0 n1 n2 n3 n4 n5
  generalize dvQ (X1 % b) X0 b = Q1 at *
  generalize X1 % b = R1 at *
  generalize X1 / b = Q0 at *
  generalize dLo ((X1 * 18446744073709551616 + X0 : Nat) : Int) = lo at *
  generalize dHi ((X1 * 18446744073709551616 + X0 : Nat) : Int) = hi at *
  clear hr hk hrb hq h0 h1
  go_enter Try.func33, Try.ntmps33
  go_wp2_with (first
    | (go_at_call 49; have hw1' := hw1; refine (HB.out _).mono ?_; rintro e w2 ⟨rfl, hw2⟩; obtain ⟨c0, c1, f0, f1⟩ := resK (hw1'.trans hw2) (R := w.heap.size + 1) (by simp) ⟨by simp [go_sem]; rfl, by simp [go_sem]; rfl, by simp [go_sem], by simp [go_sem]⟩)
    | (go_at_call 49; refine (HA.out _).mono ?_; rintro e w1 ⟨rfl, hw1⟩; obtain ⟨d0, d1, g0, g1⟩ := resK hw1 (R := w.heap.size) (by simp; omega) ⟨by simp [go_sem]; rfl, by simp [go_sem]; rfl, by simp [go_sem], by simp [go_sem]⟩))
  refine bodyPost_ret (v := .tuple #[.int .i64 (wrap64 r), .agg #[.int .i64 (wrap64 Q1), .int .i64 (wrap64 Q0)]]) (by simp [results, Try.results33, go_sem, c0, c1]) rfl ⟨ret_id HR.out H7.out H6.out, ?_⟩
  exact ((((((Keeps.refl w).alloc _).alloc _).trans hw1).trans hw2).setCell (by simp) _).setCell (by simp) _
end Go.Proofs.Yticeeckahdjjmaa
