/-
  Plain facts on memories as lists of bytes: what the calls of package mem answer, said of lists, and what the statements of layer 3 ask for. Nothing of a translated program is imported.
-/
import Derived.Test.YtkehlaphiillpaaCellShift
import Derived.Laws.CopyOwn
namespace Go.Proofs.Ytkehlaphiillpaa
open Go.RowKit

/-- Are k bytes there from a place on? -/
def thB (L : Nat) (a k : Int) : Bool := decide (0 ≤ a ∧ 0 ≤ k ∧ k ≤ (L : Int) - a)
/-- Why there is no cell at a place, or 0. -/
def mE (L : Nat) (a : Int) : Int := if thB L a 8 = true then (if a % 8 = 0 then 0 else -23) else -9
/-- A number's byte. -/
def b8 (x : Int) : UInt8 := UInt8.ofNat (x % 256).toNat
/-- A cell's bytes, the lowest first. -/
def mB (x : Int) : List UInt8 := [b8 x, b8 (x / 256), b8 (x / 65536), b8 (x / 16777216), b8 (x / 4294967296), b8 (x / 1099511627776), b8 (x / 281474976710656), b8 (x / 72057594037927936)]
/-- So many bytes as a number, the lowest first. -/
def mN (l : List UInt8) : Nat → Nat
  | 0 => 0
  | k + 1 => mN l k + (l.getD k 0).toNat * 256 ^ k
/-- A cell of eight bytes. -/
def mC (l : List UInt8) : Int := wrap64 (mN l 8)
/-- Some bytes from a place on. -/
def mT (l : List UInt8) (a k : Nat) : List UInt8 := (l.drop a).take k

theorem b8_val (x : Int) : ((b8 x).toNat : Int) = x % 256 := by
  unfold b8
  rw [UInt8.toNat_ofNat']
  omega
theorem u8_ext {a b : UInt8} (h : (a.toNat : Int) = b.toNat) : a = b := UInt8.toNat_inj.1 (by omega)
theorem u8_lt (a : UInt8) : a.toNat < 256 := a.toNat_lt
theorem b8_of (a : UInt8) (x : Int) (h : x % 256 = a.toNat) : b8 x = a := u8_ext (by rw [b8_val]; omega)
theorem mB_length (x : Int) : (mB x).length = 8 := rfl
theorem mN_lt (l : List UInt8) : ∀ k, mN l k < 256 ^ k
  | 0 => by simp [mN]
  | k + 1 => by
    have h := mN_lt l k
    have h1 := u8_lt (l.getD k 0)
    unfold mN
    rw [Nat.pow_succ]
    have : (l.getD k 0).toNat * 256 ^ k ≤ 255 * 256 ^ k := Nat.mul_le_mul_right _ (by omega)
    omega
theorem and255 (x : Int) : bits .and .i64 x 255 = x % 256 := bits_and_low 8 (by decide) x
theorem and65535 (x : Int) : bits .and .i64 x 65535 = x % 65536 := bits_and_low 16 (by decide) x

/-- The bytes of a cell, one by one. -/
theorem shr_byte (x : Int) (k : Nat) (hk : k < 8) : (IntKind.u8.wrap (cShr x (8 * (k : Int)))) = ((mB x).getD k 0).toNat := by
  rw [cShr_is x (by omega) (by omega), IntKind.wrap_u8]
  unfold wrap64
  match k, hk with
  | 0, _ => simp only [mB, List.getD, List.getElem?_cons_zero, Option.getD_some, b8_val]; simp; omega
  | 1, _ => simp only [mB, List.getD, List.getElem?_cons_zero, List.getElem?_cons_succ, Option.getD_some, b8_val]; simp; omega
  | 2, _ => simp only [mB, List.getD, List.getElem?_cons_zero, List.getElem?_cons_succ, Option.getD_some, b8_val]; simp; omega
  | 3, _ => simp only [mB, List.getD, List.getElem?_cons_zero, List.getElem?_cons_succ, Option.getD_some, b8_val]; simp; omega
  | 4, _ => simp only [mB, List.getD, List.getElem?_cons_zero, List.getElem?_cons_succ, Option.getD_some, b8_val]; simp; omega
  | 5, _ => simp only [mB, List.getD, List.getElem?_cons_zero, List.getElem?_cons_succ, Option.getD_some, b8_val]; simp; omega
  | 6, _ => simp only [mB, List.getD, List.getElem?_cons_zero, List.getElem?_cons_succ, Option.getD_some, b8_val]; simp; omega
  | 7, _ => simp only [mB, List.getD, List.getElem?_cons_zero, List.getElem?_cons_succ, Option.getD_some, b8_val]; simp; omega
theorem pow256 (k : Nat) : (256 : Nat) ^ k = 2 ^ (8 * k) := by rw [Nat.pow_mul]
/-- One byte more. -/
theorem or_byte (l : List UInt8) (k : Nat) (hk : k < 8) (b : Int) (hb : b = (l.getD k 0).toNat) : bits .or .i64 (wrap64 (mN l k)) (cShl b (8 * (k : Int))) = wrap64 (mN l (k + 1)) := by
  subst hb
  have h1 := u8_lt (l.getD k 0)
  have h2 := mN_lt l k
  generalize hX : mN l k = X at *
  generalize hB : (l.getD k 0).toNat = B at *
  rw [cShl_is _ (by omega) (by omega), show (8 * (k : Int)).toNat = 8 * k by omega]
  have hp : (256 : Nat) ^ k ≤ 256 ^ 7 := Nat.pow_le_pow_right (by decide) (by omega)
  have hY : B * 256 ^ k ≤ 255 * 256 ^ 7 := Nat.mul_le_mul (by omega) hp
  have hc : (B : Int) * 2 ^ (8 * k) = ((B * 256 ^ k : Nat) : Int) := by rw [pow256]; simp
  rw [hc]
  show IntKind.i64.wrap ((BitVec.ofInt 64 (wrap64 (X : Int)) ||| BitVec.ofInt 64 (wrap64 ((B * 256 ^ k : Nat) : Int))).toNat : Int) = _
  have e7 : (256 : Nat) ^ 7 = 72057594037927936 := by decide
  rw [BitVec.toNat_or, ofInt64, ofInt64, wrapi64, wrap64_emod, wrap64_emod]
  have e1 : ((X : Int) % 18446744073709551616).toNat = X := by omega
  have e2 : (((B * 256 ^ k : Nat) : Int) % 18446744073709551616).toNat = B * 256 ^ k := by omega
  rw [e1, e2, Nat.or_comm]
  have e3 : B * 256 ^ k ||| X = B * 256 ^ k + X := by
    rw [pow256, ← Nat.shiftLeft_eq]
    exact (Nat.shiftLeft_add_eq_or_of_lt (by rw [← pow256]; exact h2) B).symm
  rw [e3]
  show wrap64 _ = wrap64 ((mN l k + (l.getD k 0).toNat * 256 ^ k : Nat) : Int)
  rw [hX, hB, Nat.add_comm]
theorem eight {l : List UInt8} (h : l.length = 8) : ∃ a b c d e f g i, l = [a, b, c, d, e, f, g, i] := by
  match l, h with
  | [a, b, c, d, e, f, g, i], _ => exact ⟨a, b, c, d, e, f, g, i, rfl⟩
theorem mN_eight (a b c d e f g i : UInt8) : mN [a, b, c, d, e, f, g, i] 8 = a.toNat + b.toNat * 256 + c.toNat * 65536 + d.toNat * 16777216 + e.toNat * 4294967296 + f.toNat * 1099511627776 + g.toNat * 281474976710656 + i.toNat * 72057594037927936 := by
  simp [mN]
theorem mC_mB {x : Int} (hx : InC x) : mC (mB x) = x := by
  unfold mC
  have h : ((mN (mB x) 8 : Nat) : Int) = x % 18446744073709551616 := by
    unfold mB
    rw [mN_eight]
    have h0 := b8_val x
    have h1 := b8_val (x / 256)
    have h2 := b8_val (x / 65536)
    have h3 := b8_val (x / 16777216)
    have h4 := b8_val (x / 4294967296)
    have h5 := b8_val (x / 1099511627776)
    have h6 := b8_val (x / 281474976710656)
    have h7 := b8_val (x / 72057594037927936)
    omega
  rw [h, emod_wrap64, wrap64_id hx]
theorem mC_in (l : List UInt8) : InC (mC l) := wrap64_in _
theorem mB_wrap (N : Nat) : (wrap64 N) % 256 = ((N / 1 % 256 : Nat) : Int) ∧ (wrap64 N / 256) % 256 = ((N / 256 % 256 : Nat) : Int) ∧ (wrap64 N / 65536) % 256 = ((N / 65536 % 256 : Nat) : Int) ∧ (wrap64 N / 16777216) % 256 = ((N / 16777216 % 256 : Nat) : Int) ∧ (wrap64 N / 4294967296) % 256 = ((N / 4294967296 % 256 : Nat) : Int) ∧ (wrap64 N / 1099511627776) % 256 = ((N / 1099511627776 % 256 : Nat) : Int) ∧ (wrap64 N / 281474976710656) % 256 = ((N / 281474976710656 % 256 : Nat) : Int) ∧ (wrap64 N / 72057594037927936) % 256 = ((N / 72057594037927936 % 256 : Nat) : Int) := by
  unfold wrap64
  refine ⟨by omega, by omega, by omega, by omega, by omega, by omega, by omega, by omega⟩
theorem list8 {a b c d e f g i a' b' c' d' e' f' g' i' : UInt8} (h0 : a = a') (h1 : b = b') (h2 : c = c') (h3 : d = d') (h4 : e = e') (h5 : f = f') (h6 : g = g') (h7 : i = i') : [a, b, c, d, e, f, g, i] = [a', b', c', d', e', f', g', i'] := by subst h0 h1 h2 h3 h4 h5 h6 h7; rfl
/-- So many bytes of a number, the lowest first. -/
def mD : Nat → Int → List UInt8
  | 0, _ => []
  | k + 1, x => b8 x :: mD k (x / 256)
/-- Bytes as a number, the lowest first. -/
def mH : List UInt8 → Nat
  | [] => 0
  | b :: r => b.toNat + 256 * mH r
theorem mD_mH : ∀ l : List UInt8, mD l.length (mH l : Int) = l
  | [] => rfl
  | b :: r => by
    have hb := u8_lt b
    have e1 : b8 ((mH (b :: r) : Nat) : Int) = b := b8_of b _ (by simp only [mH]; omega)
    have e2 : ((mH (b :: r) : Nat) : Int) / 256 = (mH r : Nat) := by simp only [mH]; omega
    show b8 _ :: mD r.length (_ / 256) = _
    rw [e1, e2, mD_mH r]
theorem mB_mD (x : Int) : mB x = mD 8 x := by
  show mB x = [b8 x, b8 (x / 256), b8 (x / 256 / 256), b8 (x / 256 / 256 / 256), b8 (x / 256 / 256 / 256 / 256), b8 (x / 256 / 256 / 256 / 256 / 256), b8 (x / 256 / 256 / 256 / 256 / 256 / 256), b8 (x / 256 / 256 / 256 / 256 / 256 / 256 / 256)]
  unfold mB
  exact list8 rfl rfl (congrArg b8 (by omega)) (congrArg b8 (by omega)) (congrArg b8 (by omega)) (congrArg b8 (by omega)) (congrArg b8 (by omega)) (congrArg b8 (by omega))
theorem b8_congr {x y : Int} (h : x % 256 = y % 256) : b8 x = b8 y := by unfold b8; rw [h]
theorem mB_congr (N : Nat) : mB (wrap64 N) = mB (N : Int) := by
  obtain ⟨w0, w1, w2, w3, w4, w5, w6, w7⟩ := mB_wrap N
  unfold mB
  exact list8 (b8_congr (by rw [w0]; simp)) (b8_congr (by rw [w1]; simp)) (b8_congr (by rw [w2]; simp)) (b8_congr (by rw [w3]; simp)) (b8_congr (by rw [w4]; simp)) (b8_congr (by rw [w5]; simp)) (b8_congr (by rw [w6]; simp)) (b8_congr (by rw [w7]; simp))
theorem mN_mH {l : List UInt8} (h : l.length = 8) : mN l 8 = mH l := by
  obtain ⟨a, b, c, d, e, f, g, i, rfl⟩ := eight h
  rw [mN_eight]
  simp only [mH]
  generalize a.toNat = a
  generalize b.toNat = b
  generalize c.toNat = c
  generalize d.toNat = d
  generalize e.toNat = e
  generalize f.toNat = f
  generalize g.toNat = g
  generalize i.toNat = i
  clear h
  grind
theorem mB_mC {l : List UInt8} (h : l.length = 8) : mB (mC l) = l := by
  unfold mC
  rw [mB_congr, mN_mH h, mB_mD, ← h]
  exact mD_mH l

/-! ### bytes laid over others -/
theorem splice_get {α : Type} (L cs : List α) (off j : Nat) (h : off + cs.length ≤ L.length) : (splice L off cs)[j]? = if off ≤ j ∧ j < off + cs.length then cs[j - off]? else L[j]? := by
  unfold splice
  have hl : (L.take off).length = off := by simp; omega
  by_cases h1 : j < off
  · rw [List.getElem?_append_left (by omega), List.getElem?_take_of_lt h1, if_neg (by omega)]
  · rw [List.getElem?_append_right (by omega), hl]
    by_cases h2 : j < off + cs.length
    · rw [List.getElem?_append_left (by omega), if_pos ⟨by omega, h2⟩]
    · rw [List.getElem?_append_right (by omega), if_neg (by omega), List.getElem?_drop]
      congr 1; omega
theorem mT_get (l : List UInt8) (a k j : Nat) : (mT l a k)[j]? = if j < k then l[a + j]? else none := by
  unfold mT
  by_cases h : j < k
  · rw [if_pos h, List.getElem?_take_of_lt h, List.getElem?_drop]
  · rw [if_neg h, List.getElem?_eq_none]
    simp; omega
theorem mT_length (l : List UInt8) (a k : Nat) (h : a + k ≤ l.length) : (mT l a k).length = k := by unfold mT; simp; omega
theorem mT_splice (l cs : List UInt8) (off k : Nat) (hk : cs.length = k) (h : off + k ≤ l.length) : mT (splice l off cs) off k = cs := by
  subst hk
  apply List.ext_getElem?
  intro j
  rw [mT_get, splice_get _ _ _ _ h]
  by_cases hj : j < cs.length
  · rw [if_pos hj, if_pos (by omega)]; congr 1; omega
  · rw [if_neg hj, List.getElem?_eq_none (by omega)]
theorem splice_own (l : List UInt8) (off k : Nat) (h : off + k ≤ l.length) : splice l off (mT l off k) = l := by
  have hl := mT_length l off k h
  apply List.ext_getElem?
  intro j
  rw [splice_get _ _ _ _ (by omega), hl, mT_get]
  split
  · rw [if_pos (by omega)]; congr 1; omega
  · rfl
theorem splice_twice (l cs ds : List UInt8) (off : Nat) (hd : cs.length = ds.length) (h : off + cs.length ≤ l.length) : splice (splice l off cs) off ds = splice l off ds := by
  have hs := length_splice l off cs h
  apply List.ext_getElem?
  intro j
  rw [splice_get _ _ _ _ (by omega), splice_get _ _ _ _ (by omega), splice_get _ _ _ _ (by omega), hd]
  split
  · rfl
  · rfl
theorem splice_nil (l : List UInt8) (off : Nat) : splice l off [] = l := by unfold splice; simp
/-- Told in two parts as in one. -/
theorem mT_parts (l : List UInt8) (a c n : Nat) (hc : c ≤ n) (h : a + n ≤ l.length) : mT l a c ++ mT l (a + c) (n - c) = mT l a n := by
  have h1 := mT_length l a c (by omega)
  apply List.ext_getElem?
  intro j
  rw [mT_get]
  by_cases hj : j < c
  · rw [List.getElem?_append_left (by omega), mT_get, if_pos hj, if_pos (by omega)]
  · rw [List.getElem?_append_right (by omega), mT_get, h1]
    by_cases hn : j < n
    · rw [if_pos (by omega), if_pos hn]; congr 1; omega
    · rw [if_neg (by omega), if_neg hn]
/-- Moved in two parts as in one, where the places lie apart. -/
theorem move_parts (l : List UInt8) (f t c n : Nat) (hc : c ≤ n) (hf : f + n ≤ l.length) (ht : t + n ≤ l.length) (ha : f + n ≤ t ∨ t + n ≤ f) :
    splice (splice l t (mT l f c)) (t + c) (mT (splice l t (mT l f c)) (f + c) (n - c)) = splice l t (mT l f n) := by
  have h1 := mT_length l f c (by omega)
  have h2 := mT_length l f n (by omega)
  have h3 := length_splice l t (mT l f c) (by omega)
  have h4 := mT_length (splice l t (mT l f c)) (f + c) (n - c) (by omega)
  apply List.ext_getElem?
  intro j
  by_cases hj : t ≤ j ∧ j < t + n
  · have hR : (splice l t (mT l f n))[j]? = l[f + (j - t)]? := by
      rw [splice_get _ _ _ _ (by omega), if_pos (by omega), mT_get, if_pos (by omega)]
    rw [hR]
    by_cases hm : t + c ≤ j
    · rw [splice_get _ _ _ _ (by omega), if_pos (by omega), mT_get, if_pos (by omega), splice_get _ _ _ _ (by omega), if_neg (by omega)]; congr 1; omega
    · rw [splice_get _ _ _ _ (by omega), if_neg (by omega), splice_get _ _ _ _ (by omega), if_pos (by omega), mT_get, if_pos (by omega)]
  · have hR : (splice l t (mT l f n))[j]? = l[j]? := by
      rw [splice_get _ _ _ _ (by omega), if_neg (by omega)]
    rw [hR, splice_get _ _ _ _ (by omega), if_neg (by omega), splice_get _ _ _ _ (by omega), if_neg (by omega)]
/-- What lies apart from what was laid is as it was. -/
theorem mT_apart (l cs : List UInt8) (f t n : Nat) (h : t + cs.length ≤ l.length) (ha : f + n ≤ t ∨ t + cs.length ≤ f) : mT (splice l t cs) f n = mT l f n := by
  apply List.ext_getElem?
  intro j
  rw [mT_get, mT_get]
  split
  · rw [splice_get _ _ _ _ h, if_neg (by omega)]
  · rfl

/-! ### places -/
theorem thB_yes {L : Nat} {a k : Int} (h : thB L a k = true) : ∃ i n : Nat, a = (i : Int) ∧ k = (n : Int) ∧ i + n ≤ L := by
  unfold thB at h
  have := of_decide_eq_true h
  exact ⟨a.toNat, k.toNat, by omega, by omega, by omega⟩
theorem thB_mk {L i n : Nat} (h : i + n ≤ L) : thB L (i : Int) (n : Int) = true := by unfold thB; simp; omega
theorem thB_no {L : Nat} {a k : Int} (h : thB L a k = false) : ¬ (0 ≤ a ∧ 0 ≤ k ∧ k ≤ (L : Int) - a) := by
  unfold thB at h
  exact of_decide_eq_false h
theorem al_small {i : Nat} (h : i ≤ 1000000) : cAl (i : Int) = (i : Int) ↔ (i : Int) % 8 = 0 := by
  rw [cAl_is]; unfold wrap64; omega
theorem mE_ok {L : Nat} {a : Int} (h : mE L a = 0) : ∃ i : Nat, a = (i : Int) ∧ i + 8 ≤ L ∧ thB L a 8 = true ∧ a % 8 = 0 := by
  unfold mE at h
  by_cases ht : thB L a 8 = true
  · rw [if_pos ht] at h
    obtain ⟨i, n, rfl, hn, hL⟩ := thB_yes ht
    refine ⟨i, rfl, by omega, ht, ?_⟩
    by_cases h8 : (i : Int) % 8 = 0
    · exact h8
    · rw [if_neg h8] at h; omega
  · rw [if_neg ht] at h; omega
end Go.Proofs.Ytkehlaphiillpaa
