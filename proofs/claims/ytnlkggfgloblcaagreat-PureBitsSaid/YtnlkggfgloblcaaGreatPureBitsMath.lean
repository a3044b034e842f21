/-
  Plain facts for PureBits: digits of two go by pairs.
-/
import Derived.Test.YtnlkggfgloblcaaGreatPureLaws
namespace Go.Proofs.YtnlkggfgloblcaaGreat
open Go.RowKit

/-- The cell of 64 digits of two. -/
def bz (u : BitVec 64) : Int := wrap64 (u.toNat : Int)
theorem bz_in (u : BitVec 64) : InC (bz u) := wrap64_in _
theorem bz_add (p q : BitVec 64) : wrap64 (bz p + bz q) = bz (p + q) := by
  have h := BitVec.toNat_add p q
  have hp := p.isLt
  have hq := q.isLt
  unfold bz
  rw [h]
  unfold wrap64
  omega
theorem bz_sub (p q : BitVec 64) : wrap64 (bz p - bz q) = bz (p - q) := by
  have h := BitVec.toNat_sub p q
  have hp := p.isLt
  have hq := q.isLt
  unfold bz
  rw [h]
  unfold wrap64
  omega
theorem bz_of {a : Int} (h : InC a) : bz (BitVec.ofInt 64 a) = a := by
  unfold bz
  rw [ofInt64]
  unfold InC at h
  unfold wrap64
  omega
theorem of_bz (u : BitVec 64) : BitVec.ofInt 64 (bz u) = u := by
  apply BitVec.eq_of_toNat_eq
  rw [ofInt64]
  have := u.isLt
  unfold bz wrap64
  omega
theorem bz_not (u : BitVec 64) : -bz u - 1 = bz (~~~u) := by
  have h := BitVec.toNat_not (x := u)
  have := u.isLt
  unfold bz
  rw [h]
  unfold wrap64
  omega
theorem and_bz (a b : Int) : bits .and .i64 a b = bz (BitVec.ofInt 64 a &&& BitVec.ofInt 64 b) := by show IntKind.i64.wrap _ = _; rw [wrapi64]; rfl
theorem or_bz (a b : Int) : bits .or .i64 a b = bz (BitVec.ofInt 64 a ||| BitVec.ofInt 64 b) := by show IntKind.i64.wrap _ = _; rw [wrapi64]; rfl
theorem xor_bz (a b : Int) : bits .xor .i64 a b = bz (BitVec.ofInt 64 a ^^^ BitVec.ofInt 64 b) := by show IntKind.i64.wrap _ = _; rw [wrapi64]; rfl
theorem bv_and_or (u v : BitVec 64) : (u &&& v) + (u ||| v) = u + v := by
  have h1 : (u &&& v) + (u &&& ~~~v) = u := by
    rw [BitVec.add_eq_or_of_and_eq_zero]
    · ext i; simp; cases u[i] <;> cases v[i] <;> rfl
    · ext i; simp; cases u[i] <;> cases v[i] <;> simp
  have h2 : v + (u &&& ~~~v) = u ||| v := by
    rw [BitVec.add_eq_or_of_and_eq_zero]
    · ext i; simp; cases u[i] <;> cases v[i] <;> rfl
    · ext i; simp; cases u[i] <;> cases v[i] <;> simp
  rw [← h2, ← BitVec.add_assoc, BitVec.add_comm (u &&& v) v, BitVec.add_assoc, h1, BitVec.add_comm]
theorem bv_xor (u v : BitVec 64) : (u ||| v) - (u &&& v) = u ^^^ v := by
  have h : (u ^^^ v) + (u &&& v) = u ||| v := by
    rw [BitVec.add_eq_or_of_and_eq_zero]
    · ext i; simp; cases u[i] <;> cases v[i] <;> rfl
    · ext i; simp; cases u[i] <;> cases v[i] <;> simp
  rw [← h, BitVec.add_sub_cancel]
theorem bv_not (u v : BitVec 64) : ~~~(~~~v &&& ~~~u) = u ||| v := by
  ext i; simp; cases u[i] <;> cases v[i] <;> rfl
theorem bits_sum {a b : Int} (ha : InC a) (hb : InC b) : wrap64 (bits .and .i64 a b + bits .or .i64 a b) = wrap64 (a + b) := by
  rw [and_bz, or_bz, bz_add, bv_and_or, ← bz_add, bz_of ha, bz_of hb]
theorem bits_diff (a b : Int) : wrap64 (bits .or .i64 a b - bits .and .i64 a b) = bits .xor .i64 a b := by
  rw [and_bz, or_bz, bz_sub, bv_xor, xor_bz]
theorem bits_morgan {a b : Int} (ha : InC a) (hb : InC b) : -(bits .and .i64 (-b - 1) (-a - 1)) - 1 = bits .or .i64 a b := by
  have e1 : -a - 1 = bz (~~~BitVec.ofInt 64 a) := by rw [← bz_not, bz_of ha]
  have e2 : -b - 1 = bz (~~~BitVec.ofInt 64 b) := by rw [← bz_not, bz_of hb]
  rw [e1, e2, and_bz, of_bz, of_bz, bz_not, bv_not, or_bz]
theorem bits_all {a b : Int} (ha : InC a) (hb : InC b) : AlOk [52, 20, 52, 49, 52] [a, b] [bits .or .i64 a b] := by
  refine al_cons 52 [a] [b] [-b - 1] (by decide) (by decide) (by decide) rfl rfl (by simp) rfl rfl (by simp) rfl ?_
  refine al_cons 20 [] [a, -b - 1] [-b - 1, a] (by decide) (by decide) (by decide) rfl rfl (by simp) rfl rfl (by simp) rfl ?_
  refine al_cons 52 [-b - 1] [a] [-a - 1] (by decide) (by decide) (by decide) rfl rfl (by simp) rfl rfl (by simp) rfl ?_
  refine al_cons 49 [] [-b - 1, -a - 1] [bits .and .i64 (-b - 1) (-a - 1)] (by decide) (by decide) (by decide) rfl rfl (by simp) rfl rfl (by simp) rfl ?_
  refine al_cons 52 [] [bits .and .i64 (-b - 1) (-a - 1)] [bits .or .i64 a b] (by decide) (by decide) (by decide) rfl rfl (by simp) rfl (congrArg (fun x => [x]) (bits_morgan ha hb)) (by simp) rfl ?_
  exact al_nil _
end Go.Proofs.YtnlkggfgloblcaaGreat
