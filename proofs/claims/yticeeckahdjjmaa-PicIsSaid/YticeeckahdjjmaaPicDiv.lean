/-
  What the library's Len64, LeadingZeros64, Div64 and Div answer for a divisor from 2 to 36 and a high part below it, and what package pic's divided tells (contracts of the translated functions, whose own text is walked).
-/
import Derived.Test.YticeeckahdjjmaaPicDivMath
import Derived.Test.YticeeckahdjjmaaCellCalls
import Derived.Test.YticeeckahdjjmaaKeeps
import Derived.Test.YticeeckahdjjmaaPicNum
import Derived.Lib.BitFns
import Derived.Lib.Small
import Derived.Lib.Walk
import Derived.Lib.Hide
import Derived.WalkMore
namespace Go.Proofs.Yticeeckahdjjmaa
open Go.RowKit

/-- How far a small number is shifted up. -/
def lzS (y : Nat) : Nat := if y < 4 then 62 else if y < 8 then 61 else if y < 16 then 60 else if y < 32 then 59 else 58
theorem tab_small : ∀ y : Fin 37, 2 ≤ y.val → Lib.len8tab.data[y.val]? = some (UInt8.ofNat (64 - lzS y.val)) := by decide +kernel
theorem tab_size : (37 : Nat) ≤ Lib.len8tab.size := by decide +kernel
theorem lzS_in (y : Nat) : 58 ≤ lzS y ∧ lzS y ≤ 62 := by
  unfold lzS
  repeat' split
  all_goals omega
theorem tab_at (y : Nat) (h2 : 2 ≤ y) (h36 : y ≤ 36) (k : y < Lib.len8tab.size) : (Lib.len8tab[y]'k).toNat = 64 - lzS y := by
  have h := tab_small ⟨y, by omega⟩ h2
  simp only at h
  have e : Lib.len8tab.data[y]? = some (Lib.len8tab[y]'k) := Array.getElem?_eq_getElem (xs := Lib.len8tab.data) k
  rw [e] at h
  rw [Option.some.inj h, UInt8.toNat_ofNat']
  have := lzS_in y
  omega
theorem len_small (y : Nat) (h2 : 2 ≤ y) (h36 : y ≤ 36) (w : World) :
    Calls Try.prog 75 #[.int .u64 (y : Int)] w fun e w' => e = .returned (.int .i64 (64 - (lzS y : Int))) ∧ w = w' := by
  have h1 : decide ((4294967296 : Int) ≤ (y : Int)) = false := decide_eq_false (by omega)
  have h3 : decide ((65536 : Int) ≤ (y : Int)) = false := decide_eq_false (by omega)
  have h4 : decide ((256 : Int) ≤ (y : Int)) = false := decide_eq_false (by omega)
  have hz : y < Lib.len8tab.size := Nat.lt_of_lt_of_le (by omega) tab_size
  have HT := Lib.hid (tab_at y h2 h36 hz)
  have HS := Lib.hid (lzS_in y)
  go_enter Try.func75, Try.ntmps75
  go_wp2
  go_ret
  refine ⟨ret_int ?_, rfl⟩
  rw [HT.out]
  have := HS.out
  unfold wrap64
  omega
theorem lead_small (y : Nat) (h2 : 2 ≤ y) (h36 : y ≤ 36) (s : Int) (hs : (lzS y : Int) = s) (w : World) :
    Calls Try.prog 66 #[.int .u64 (y : Int)] w fun e w' => e = .returned (.int .i64 s) ∧ w = w' := by
  have HS := Lib.hid (lzS_in y)
  have HE := Lib.hid hs
  clear hs
  go_enter Try.func66, Try.ntmps66
  go_wp2_with (go_at_call 75; refine (len_small y h2 h36 _).mono ?_; rintro e w' ⟨rfl, rfl⟩)
  go_ret
  refine ⟨ret_int ?_, rfl⟩
  have := HS.out
  have := HE.out
  unfold wrap64
  omega

/-- Two parts of 64 bits, divided. -/
def dvQ (h l y : Nat) : Nat := (h * 18446744073709551616 + l) / y
def dvR (h l y : Nat) : Nat := (h * 18446744073709551616 + l) % y
theorem wrap_nn (x : Int) : decide (IntKind.u64.wrap x < 0) = false := decide_eq_false (by rw [u64wrap]; omega)
theorem ret_uu {a b x y : Int} (h : a = x) (k : b = y) : Ending.returned (.tuple #[.int .u64 a, .int .u64 b]) = .returned (.tuple #[.int .u64 x, .int .u64 y]) := by rw [h, k]
theorem div64_zero (l y : Nat) (h2 : 2 ≤ y) (h36 : y ≤ 36) (hl : l < 18446744073709551616) (w : World) :
    Calls Try.prog 59 #[.int .u64 0, .int .u64 (l : Int), .int .u64 (y : Int)] w fun e w' => e = .returned (.tuple #[.int .u64 (dvQ 0 l y : Nat), .int .u64 (dvR 0 l y : Nat)]) ∧ Keeps w w' := by
  have e0 : ((y : Int) == 0) = false := by simp; omega
  have e3 : ¬ (y : Int) = 0 := by omega
  have e1 : decide ((y : Int) ≤ 0) = false := by simp; omega
  have HQ : Hid (IntKind.u64.wrap ((l : Int).tdiv y) = (dvQ 0 l y : Nat)) := Lib.hid (by
    have h1 := Nat.div_le_self l y
    have h3 : ((l : Int).tdiv y) = ((l / y : Nat) : Int) := by rw [Int.tdiv_eq_ediv_of_nonneg (by omega)]; rfl
    rw [u64wrap, h3]; unfold dvQ; rw [Nat.zero_mul, Nat.zero_add]
    generalize l / y = k at *
    omega)
  have HR : Hid ((l : Int).tmod y = (dvR 0 l y : Nat)) := Lib.hid (by
    unfold dvR; rw [Nat.zero_mul, Nat.zero_add, Int.tmod_eq_emod_of_nonneg (by omega)]; rfl)
  go_enter Try.func59, Try.ntmps59
  go_wp2
  go_quiet (fail)
  all_goals
    go_wp2
    go_ret2
    exact ⟨ret_uu HQ.out HR.out, (Keeps.refl w).drewN _⟩
set_option maxHeartbeats 1000000 in
theorem div64_up (h l y : Nat) (P R N : Int) (s : Nat) (d : DvIn (h : Int) (l : Int) (y : Int) P R N) (w : World)
    (h0 : h ≠ 0) (hs : (lzS y : Int) = (s : Int)) (h2 : 2 ≤ y) (h36 : y ≤ 36) (hor : bits .or .u64 ((h : Int) * P) ((l : Int) / R) = dvU h l P R)
    (hc : P = 4611686018427387904 ∧ R = 4 ∧ s = 62 ∨ P = 2305843009213693952 ∧ R = 8 ∧ s = 61 ∨ P = 1152921504606846976 ∧ R = 16 ∧ s = 60 ∨ P = 576460752303423488 ∧ R = 32 ∧ s = 59 ∨ P = 288230376151711744 ∧ R = 64 ∧ s = 58) :
    Calls Try.prog 59 #[.int .u64 (h : Int), .int .u64 (l : Int), .int .u64 (y : Int)] w fun e w' => e = .returned (.tuple #[.int .u64 (dvQ h l y : Nat), .int .u64 (dvR h l y : Nat)]) ∧ Keeps w w' := by
  have e0 : ((y : Int) == 0) = false := by simp; omega
  have e1 : ¬ y ≤ h := by have := d.h1; omega
  have e2 : ((h : Int) == 0) = false := by simp; omega
  have hQ : ((h : Int) * 18446744073709551616 + l) / y = (dvQ h l y : Nat) := by unfold dvQ; rfl
  have hR : ((h : Int) * 18446744073709551616 + l) % y = (dvR h l y : Nat) := by unfold dvR; rfl
  obtain ⟨q0, q1, -, -, -, a0, a1, -, -⟩ := dvQ_is d
  obtain ⟨p0, p1, -, -, -⟩ := dvQ0_is d
  obtain ⟨f1, f2, f3, f4, f5, f6, f7, f8, f9, f10⟩ := dv_facts d
  rw [hQ] at f9
  rw [hR] at f10
  have hN : ¬ N = 0 := by have := d.n0; omega
  have fm : bits .and .u64 (N * 4294967296) 4294967295 = 0 := by rw [bits_and_up]; omega
  have fl : IntKind.u64.wrap ((l : Int) * P) = dvL l P := by rw [u64wrap]; rfl
  have fa : dvL l P / 4294967296 = dvA l P := rfl
  have fb : bits .and .u64 (dvL l P) 4294967295 = dvB l P := bits_and_up _
  have d1 : decide ((4294967296 : Int) ≤ dvQ1 h l P R N) = false := decide_eq_false (by omega)
  have d0 : decide ((4294967296 : Int) ≤ dvQ0 h l P R N) = false := decide_eq_false (by omega)
  have m1 : IntKind.u64.wrap (dvQ1 h l P R N * 0) = 0 := by rw [Int.mul_zero]; rfl
  have m0 : IntKind.u64.wrap (dvQ0 h l P R N * 0) = 0 := by rw [Int.mul_zero]; rfl
  have t1 := wrap_nn (IntKind.u64.wrap (4294967296 * dvR1 h l P R N) + dvA l P)
  have t0 := wrap_nn (IntKind.u64.wrap (4294967296 * dvR0 h l P R N) + dvB l P)
  clear hQ hR d q0 q1 a0 a1 p0 p1
  generalize N * 4294967296 = Y at *
  generalize dvQ1 h l P R N = Q1 at *
  generalize dvQ0 h l P R N = Q0 at *
  generalize dvR1 h l P R N = R1 at *
  generalize dvR0 h l P R N = R0 at *
  generalize dvV h l P R N = V at *
  generalize dvU h l P R = U at *
  generalize dvA l P = A at *
  generalize dvB l P = B at *
  generalize dvL l P = L at *
  have hor2 := hor
  rw [← f3] at hor2
  clear f3
  generalize (dvQ h l y : Nat) = QQ at *
  generalize (dvR h l y : Nat) = RR at *
  rcases hc with ⟨rfl, rfl, rfl⟩ | ⟨rfl, rfl, rfl⟩ | ⟨rfl, rfl, rfl⟩ | ⟨rfl, rfl, rfl⟩ | ⟨rfl, rfl, rfl⟩
  all_goals
    have HS := Lib.hid hs
    clear hs
    go_enter Try.func59, Try.ntmps59
    go_wp2_with (go_at_call 66; refine (lead_small y h2 h36 _ HS.out _).mono ?_; rintro e w' ⟨rfl, rfl⟩)
    go_loop [15, 16] (fun q r => q = .int .u64 Q1 ∧ r = .int .u64 R1) (fun _ _ => 0)
    case atStart => exact ⟨rfl, rfl⟩
    case round =>
      obtain ⟨rfl, rfl⟩ := hrel
      go_wp2
      go_loop [18, 16] (fun q r => q = .int .u64 Q0 ∧ r = .int .u64 R0) (fun _ _ => 0)
      case atStart => exact ⟨rfl, rfl⟩
      case round =>
        obtain ⟨rfl, rfl⟩ := hrel
        go_wp2
        go_ret2
        exact ⟨rfl, Keeps.refl _⟩
theorem dv_in (h l y k : Nat) (hy : 2 ≤ y) (hh : h < y) (hl : l < 18446744073709551616) (hk : k = 62 ∧ y < 4 ∨ k = 61 ∧ y < 8 ∨ k = 60 ∧ y < 16 ∨ k = 59 ∧ y < 32 ∨ k = 58 ∧ y < 37) :
    ∃ P R N : Int, DvIn (h : Int) (l : Int) (y : Int) P R N ∧ bits .or .u64 ((h : Int) * P) ((l : Int) / R) = dvU h l P R ∧ (P = 4611686018427387904 ∧ R = 4 ∧ k = 62 ∨ P = 2305843009213693952 ∧ R = 8 ∧ k = 61 ∨ P = 1152921504606846976 ∧ R = 16 ∧ k = 60 ∨ P = 576460752303423488 ∧ R = 32 ∧ k = 59 ∨ P = 288230376151711744 ∧ R = 64 ∧ k = 58) := by
  have hor : ∀ r : Nat, k ≤ 64 → r = 2 ^ (64 - k) → h * 2 ^ k < 18446744073709551616 → l / r < 2 ^ k → bits .or .u64 ((h : Int) * (2 : Int) ^ k) ((l : Int) / (r : Int)) = dvU h l ((2 : Int) ^ k) r := by
    intro r h1 _ h3 h4
    have := bits_or_up k h (l / r) h1 h3 h4
    unfold dvU
    rw [Int.natCast_mul, Int.natCast_add, Int.natCast_mul, Int.natCast_pow, Int.natCast_ediv] at this
    exact this
  rcases hk with ⟨rfl, hk⟩ | ⟨rfl, hk⟩ | ⟨rfl, hk⟩ | ⟨rfl, hk⟩ | ⟨rfl, hk⟩
  · refine ⟨4611686018427387904, 4, y * 1073741824, ⟨by omega, by omega, by omega, by omega, by omega, by omega, by omega, by omega, by omega, by omega⟩, ?_, by simp⟩
    exact hor 4 (by omega) (by decide) (by omega) (by omega)
  · refine ⟨2305843009213693952, 8, y * 536870912, ⟨by omega, by omega, by omega, by omega, by omega, by omega, by omega, by omega, by omega, by omega⟩, ?_, by simp⟩
    exact hor 8 (by omega) (by decide) (by omega) (by omega)
  · refine ⟨1152921504606846976, 16, y * 268435456, ⟨by omega, by omega, by omega, by omega, by omega, by omega, by omega, by omega, by omega, by omega⟩, ?_, by simp⟩
    exact hor 16 (by omega) (by decide) (by omega) (by omega)
  · refine ⟨576460752303423488, 32, y * 134217728, ⟨by omega, by omega, by omega, by omega, by omega, by omega, by omega, by omega, by omega, by omega⟩, ?_, by simp⟩
    exact hor 32 (by omega) (by decide) (by omega) (by omega)
  · refine ⟨288230376151711744, 64, y * 67108864, ⟨by omega, by omega, by omega, by omega, by omega, by omega, by omega, by omega, by omega, by omega⟩, ?_, by simp⟩
    exact hor 64 (by omega) (by decide) (by omega) (by omega)
theorem lzS_case (y : Nat) (h : y ≤ 36) : lzS y = 62 ∧ y < 4 ∨ lzS y = 61 ∧ y < 8 ∨ lzS y = 60 ∧ y < 16 ∨ lzS y = 59 ∧ y < 32 ∨ lzS y = 58 ∧ y < 37 := by
  unfold lzS
  repeat' split
  all_goals omega
theorem div64_any (h l y : Nat) (h2 : 2 ≤ y) (h36 : y ≤ 36) (hh : h < y) (hl : l < 18446744073709551616) (w : World) :
    Calls Try.prog 59 #[.int .u64 (h : Int), .int .u64 (l : Int), .int .u64 (y : Int)] w fun e w' => e = .returned (.tuple #[.int .u64 (dvQ h l y : Nat), .int .u64 (dvR h l y : Nat)]) ∧ Keeps w w' := by
  by_cases h0 : h = 0
  · subst h0
    exact div64_zero l y h2 h36 hl w
  · obtain ⟨P, R, N, d, hor, hc⟩ := dv_in h l y (lzS y) h2 hh hl (lzS_case y h36)
    exact div64_up h l y P R N (lzS y) d w h0 rfl h2 h36 hor hc
theorem div_any (h l y : Nat) (h2 : 2 ≤ y) (h36 : y ≤ 36) (hh : h < y) (hl : l < 18446744073709551616) (w : World) :
    Calls Try.prog 49 #[.int .u64 (h : Int), .int .u64 (l : Int), .int .u64 (y : Int)] w fun e w' => e = .returned (.tuple #[.int .u64 (dvQ h l y : Nat), .int .u64 (dvR h l y : Nat)]) ∧ Keeps w w' := by
  have HC := Lib.hid (div64_any h l y h2 h36 hh hl)
  go_enter Try.func49, Try.ntmps49
  go_wp2_with (go_at_call 59; refine (HC.out _).mono ?_; rintro e w1 ⟨rfl, hw1⟩)
  go_ret2
  exact ⟨rfl, hw1⟩
end Go.Proofs.Yticeeckahdjjmaa
