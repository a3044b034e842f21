/-
  Floats of 64 bits that came of whole numbers below 2 ^ 53: what their bits stand for, and how two of them stand to each other. Nothing of a translated program is imported.
-/
import GoSem.Core.Float
namespace Go.Proofs.Ytoklocbdifefcaa
open Ieee

/-- A datum stands for a whole number. -/
def Whole (d : Datum) (z : Int) : Prop := ∃ s m, ∃ k : Nat, d = .number s m (-(k : Int)) ∧ (if s = true then -(m : Int) else m) = z * 2 ^ k

theorem signed_eq (s : Bool) (m up : Nat) : signed s m up = (if s = true then -(m : Int) else m) * 2 ^ up := by
  unfold signed
  cases s <;> simp [Nat.shiftLeft_eq, Int.neg_mul]

theorem compare_scale (z y : Int) (n : Nat) : compare (z * 2 ^ n) (y * 2 ^ n) = compare z y := by
  have h : (0 : Int) < 2 ^ n := Int.pow_pos (by decide)
  have e : (z * 2 ^ n = y * 2 ^ n) = (z = y) := propext ⟨fun q => Int.eq_of_mul_eq_mul_right (Int.ne_of_gt h) q, fun q => by rw [q]⟩
  have l : (z * 2 ^ n < y * 2 ^ n) = (z < y) := propext ⟨fun q => Int.lt_of_mul_lt_mul_right q (Int.le_of_lt h), fun q => Int.mul_lt_mul_of_pos_right q h⟩
  simp only [compare, compareOfLessAndEq, e, l]

theorem order_whole {d e : Datum} {z y : Int} (hd : Whole d z) (he : Whole e y) : d.order e = some (compare z y) := by
  obtain ⟨s, m, k, rfl, hm⟩ := hd
  obtain ⟨t, n, j, rfl, hn⟩ := he
  have hb : min (-(k : Int)) (-(j : Int)) = -((max k j : Nat) : Int) := by omega
  have a : (-(k : Int) - -((max k j : Nat) : Int)).toNat = max k j - k := by omega
  have b : (-(j : Int) - -((max k j : Nat) : Int)).toNat = max k j - j := by omega
  simp only [Datum.order, hb, a, b, signed_eq, hm, hn]
  rw [Int.mul_assoc, Int.mul_assoc, ← Int.pow_add, ← Int.pow_add, Nat.add_sub_cancel' (Nat.le_max_left k j), Nat.add_sub_cancel' (Nat.le_max_right k j), compare_scale]

theorem cutF_none (s : Bool) (n : Nat) : Toward.even.cut s n 0 = n := by
  unfold Toward.cut
  simp
  constructor <;> omega

theorem read_word (s : Bool) (l x : Nat) (hl : l ≤ 52) (h : 2 ^ 52 ≤ x) (hx : x < 2 ^ 53) :
    Ieee.double.read (Ieee.double.word s ((1022 + l) * 2 ^ 52 + x)) = .number s x ((l : Int) - 52) := by
  have w : Ieee.double.signWeight = 2 ^ 63 := rfl
  have b : Ieee.double.binade = 2 ^ 52 := rfl
  have i : Ieee.double.infRung = 2047 * 2 ^ 52 := rfl
  have p : Ieee.double.leastPlace = -1074 := rfl
  have r : ((1022 + l) * 2 ^ 52 + x) < 2 ^ 63 := by omega
  have q : Ieee.double.word s ((1022 + l) * 2 ^ 52 + x) / 2 ^ 63 % 2 = s.toNat := by
    unfold Format.word; rw [w]; cases s <;> simp <;> omega
  have q' : Ieee.double.word s ((1022 + l) * 2 ^ 52 + x) % 2 ^ 63 = (1022 + l) * 2 ^ 52 + x := by
    unfold Format.word; rw [w]; cases s <;> simp <;> omega
  have n1 : ¬ ((1022 + l) * 2 ^ 52 + x < 2 ^ 52) := by omega
  have n2 : (1022 + l) * 2 ^ 52 + x < 2047 * 2 ^ 52 := by omega
  have n3 : ((1022 + l) * 2 ^ 52 + x) % 2 ^ 52 = x - 2 ^ 52 := by omega
  have n4 : ((1022 + l) * 2 ^ 52 + x) / 2 ^ 52 = 1023 + l := by omega
  unfold Format.read
  simp only [w, b, i, p, q, q', n3, n4, if_neg n1, if_pos n2]
  have e : (s.toNat == 1) = s := by cases s <;> rfl
  have a1 : 2 ^ 52 + (x - 2 ^ 52) = x := by omega
  have a2 : (-1074 : Int) + ((1023 + l - 1 : Nat) : Int) = (l : Int) - 52 := by omega
  rw [e, a1, a2]

theorem write_whole (s : Bool) (n : Nat) (h : n < 2 ^ 53) :
    ∃ m, ∃ k : Nat, Ieee.double.read (Ieee.double.nearest s n 0) = .number s m (-(k : Int)) ∧ m = n * 2 ^ k := by
  by_cases h0 : n = 0
  · have z : ∃ k : Nat, Ieee.double.read (Ieee.double.nearest s 0 0) = .number s 0 (-(k : Int)) := ⟨1074, by cases s <;> rfl⟩
    obtain ⟨k, z⟩ := z
    exact ⟨0, k, by rw [h0]; exact z, by rw [h0, Nat.zero_mul]⟩
  have hl : n.log2 ≤ 52 := by have := (Nat.log2_lt h0).2 h; omega
  have lo : 2 ^ n.log2 ≤ n := Nat.log2_self_le h0
  have hi : n < 2 ^ (n.log2 + 1) := Nat.lt_log2_self
  have e1 : 2 ^ n.log2 * 2 ^ (52 - n.log2) = 2 ^ 52 := by rw [← Nat.pow_add]; congr 1; omega
  have e2 : 2 ^ (n.log2 + 1) * 2 ^ (52 - n.log2) = 2 ^ 53 := by rw [← Nat.pow_add]; congr 1; omega
  have pos : 0 < 2 ^ (52 - n.log2) := Nat.two_pow_pos _
  have x1 : 2 ^ 52 ≤ n * 2 ^ (52 - n.log2) := by rw [← e1]; exact Nat.mul_le_mul_right _ lo
  have x2 : n * 2 ^ (52 - n.log2) < 2 ^ 53 := by rw [← e2]; exact Nat.mul_lt_mul_of_pos_right hi pos
  refine ⟨n * 2 ^ (52 - n.log2), 52 - n.log2, ?_, rfl⟩
  have f : Ieee.double.fractionBits = 52 := rfl
  have p : Ieee.double.leastPlace = -1074 := rfl
  have b : Ieee.double.binade = 2 ^ 52 := rfl
  have i : Ieee.double.infRung = 2047 * 2 ^ 52 := rfl
  have la : max ((0 : Int) + n.log2 - (52 : Nat)) (-1074) = (n.log2 : Int) - 52 := by omega
  have s1 : ((0 : Int) - ((n.log2 : Int) - 52)).toNat = 52 - n.log2 := by omega
  have s2 : ((n.log2 : Int) - 52 - 0).toNat = 0 := by omega
  have s3 : ((n.log2 : Int) - 52 - -1074).toNat = 1022 + n.log2 := by omega
  have near : Ieee.double.nearest s n 0 = Ieee.double.word s ((1022 + n.log2) * 2 ^ 52 + n * 2 ^ (52 - n.log2)) := by
    unfold Format.nearest
    simp only [if_neg h0, f, p, b, i, la, s1, s2, s3, cutF_none, Nat.shiftLeft_eq]
    rw [Nat.min_eq_left (by omega)]
  rw [near, read_word s _ _ hl x1 x2]
  congr 1
  omega

/-- The float of a whole number stands for it. -/
theorem whole_float (z : Int) (h : z.natAbs < 2 ^ 53) : Whole (FloatKind.f64.decode (FloatKind.f64.nearest z)) z := by
  obtain ⟨m, k, e, hm⟩ := write_whole (decide (z < 0)) z.natAbs h
  refine ⟨decide (z < 0), m, k, e, ?_⟩
  subst hm
  by_cases n : z < 0
  · simp [n]
    have : ((z.natAbs : Nat) : Int) = -z := by omega
    rw [← Int.neg_mul]; congr 1; omega
  · simp [n]
    congr 1; omega

/-- Two floats of whole numbers stand to each other as the numbers do. -/
theorem order_floats (a b : Int) (ha : a.natAbs < 2 ^ 53) (hb : b.natAbs < 2 ^ 53) :
    FloatKind.f64.format.order (FloatKind.f64.nearest a) (FloatKind.f64.nearest b) = some (compare a b) :=
  order_whole (whole_float a ha) (whole_float b hb)

theorem cmp_lt (a b : Int) : ((some (compare a b) : Option Ordering) == some .lt) = decide (a < b) := by
  simp only [compare, compareOfLessAndEq]
  split
  · simp_all
  · split <;> simp_all
theorem cmp_eq (a b : Int) : ((some (compare a b) : Option Ordering) == some .eq) = decide (a = b) := by
  simp only [compare, compareOfLessAndEq]
  split
  · rename_i h; have : a ≠ b := by omega
    simp [this]
  · split <;> simp_all
theorem cmp_gt (a b : Int) : ((some (compare a b) : Option Ordering) == some .gt) = decide (b < a) := by
  simp only [compare, compareOfLessAndEq]
  split
  · rename_i h; have : ¬ b < a := by omega
    simp [this]
  · split
    · rename_i h; simp [h]
    · have : b < a := by omega
      simp [this]
end Go.Proofs.Ytoklocbdifefcaa
