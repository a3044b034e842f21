/-
  What the call times of package num answers: a double times a base, going round.
-/
import Derived.Test.YthifehekhcmldaaDoorNumHead
import Derived.Test.YthifehekhcmldaaDoorDblMul
import Derived.Test.YthifehekhcmldaaDoorDblDivs
namespace Go.Proofs.YthifehekhcmldaaDoor
open Go.RowKit

theorem times_lo (x b : Int) : dLo (uProd (dLo x) b) = dLo (x * b) := by
  unfold uProd
  rw [dLo_mod]
  unfold dLo
  apply wrap64_congr
  rw [← Int.mul_emod]
theorem times_hi (x b : Int) (h0 : 0 ≤ b) (h1 : b < 18446744073709551616) : wrap64 (dHi (uProd (dLo x) b) + wrap64 (dHi x * b)) = dHi (x * b) := by
  unfold uProd
  rw [dLo_mod, show b % 18446744073709551616 = b by omega]
  have e : x * b = x % 18446744073709551616 * b + (x / 18446744073709551616 * b) * 18446744073709551616 := by
    have := Int.emod_add_mul_ediv x 18446744073709551616
    calc x * b = (x % 18446744073709551616 + 18446744073709551616 * (x / 18446744073709551616)) * b := by rw [this]
      _ = _ := by grind
  have e1 : wrap64 (dHi x * b) = wrap64 (x / 18446744073709551616 * b) := by
    unfold dHi
    apply wrap64_congr
    rw [Int.mul_emod, Int.mul_emod (x / 18446744073709551616)]
    congr 2
    unfold wrap64; omega
  rw [e1]
  unfold dHi
  rw [e, Int.add_mul_ediv_right _ _ (by decide)]
  generalize x % 18446744073709551616 * b / 18446744073709551616 = p
  generalize x / 18446744073709551616 * b = q
  unfold wrap64; omega
theorem grown_lt {a b : World} (h : Grown a b) {n : Nat} (k : n < a.heap.size) : n < b.heap.size := Nat.lt_of_lt_of_le k h.2.2
set_option maxHeartbeats 400000 in
theorem times_any (x b : Int) (hb : baB b = true) (w : World) :
    Calls Tryd.prog 32 #[.agg #[.int .i64 (dLo x), .int .i64 (dHi x)], .int .i64 b] w fun e w' => e = .returned (.agg #[.int .i64 (dLo (x * b)), .int .i64 (dHi (x * b))]) ∧ Grown w w' := by
  have h2 := baB_iff.1 hb
  have H1 := Lib.hid (times_lo x b)
  have H2 := Lib.hid (times_hi x b (by omega) (by omega))
  clear hb h2
  go_enter Tryd.func32, Tryd.ntmps32
  go_wp2_with (go_at_call 39; refine (dumul_any _ _ _).mono ?_; rintro e w1 ⟨rfl, hw1⟩; obtain ⟨c0, c1, f0, f1⟩ := resD hw1 (R := w.heap.size + 1) (by simp) ⟨by simp [go_sem]; rfl, by simp [go_sem]; rfl, by simp [go_sem], by simp [go_sem]⟩; obtain ⟨d0, d1, g0, g1⟩ := resD hw1 (R := w.heap.size) (by simp; omega) ⟨by simp [go_sem]; rfl, by simp [go_sem]; rfl, by simp [go_sem], by simp [go_sem]⟩; have z1 := grown_lt hw1 (n := w.heap.size + 1) (by simp); have z0 := grown_lt hw1 (n := w.heap.size) (by simp; omega))
  refine bodyPost_ret (v := .agg #[.int .i64 (dLo (uProd (dLo x) b)), .int .i64 (wrap64 (dHi (uProd (dLo x) b) + wrap64 (dHi x * b)))]) (by simp [results, Tryd.results32, go_sem, c0, c1, z1]) rfl ⟨ret_dbl H1.out H2.out, ?_⟩
  exact (((grown_trans (((Grown.refl w).alloc _ _).alloc _ _) hw1).setCell (by simp) _).setCell (by simp) _).alloc _ _
end Go.Proofs.YthifehekhcmldaaDoor
