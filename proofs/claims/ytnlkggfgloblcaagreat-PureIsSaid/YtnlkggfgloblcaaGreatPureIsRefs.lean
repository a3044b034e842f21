/-
  What the document's own Do and All answer (tenterhookref09), with the document's own calls of layers 2 and 7 that they stand on; and the walk of PureIs.
-/
import Derived.Test.YtnlkggfgloblcaaGreatRef02Floor
import Derived.Test.YtnlkggfgloblcaaGreatRef02Mul
import Derived.Test.YtnlkggfgloblcaaGreatDblAwake
import Derived.Test.YtnlkggfgloblcaaGreatOpMath
import Derived.Test.YtnlkggfgloblcaaGreatScanCalls
import Derived.Deep.RegionHeld3
import Derived.Test.YtnlkggfgloblcaaGreatOpFew
import Derived.Test.YtnlkggfgloblcaaGreatPureHeld
import Derived.Test.YtnlkggfgloblcaaGreatPureIsCore
import Derived.Test.YtnlkggfgloblcaaGreatRef01Makes
import Derived.Test.YtnlkggfgloblcaaGreatStkLib
import Derived.Test.YtnlkggfgloblcaaGreatPureIsPops
/-! From DblDividesWalk. -/
namespace Go.Proofs.YtnlkggfgloblcaaGreat
open Go.RowKit
set_option maxHeartbeats 400000 in
theorem rsymm_0 (x : Int) (w : World) :
    Calls Tryz.prog 126 #[.agg #[.int .i64 (dLo x), .int .i64 (dHi x)], .int .i64 0] w fun e w' => e = .returned (.tuple #[.int .i64 (sR x 0), .int .i64 (sQ x 0), .int .i64 (sE x 0)]) ∧ Keeps w w' := by
  have HZ := Lib.hid (symm_zero x)
  go_enter Tryz.func126, Tryz.ntmps126
  go_wp2
  go_ret3
  exact ⟨by rw [HZ.out.1, HZ.out.2.1, HZ.out.2.2]; rfl, (Keeps.refl _).alloc _⟩
set_option maxHeartbeats 400000 in
theorem rfloor_0 (x : Int) (w : World) :
    Calls Tryz.prog 125 #[.agg #[.int .i64 (dLo x), .int .i64 (dHi x)], .int .i64 0] w fun e w' => e = .returned (.tuple #[.int .i64 (fR x 0), .int .i64 (fQ x 0), .int .i64 (fE x 0)]) ∧ Keeps w w' := by
  have HZ := Lib.hid (floor_zero x)
  go_enter Tryz.func125, Tryz.ntmps125
  go_wp2
  go_ret3
  exact ⟨by rw [HZ.out.1, HZ.out.2.1, HZ.out.2.2]; rfl, (Keeps.refl _).alloc _⟩
theorem rsymm2_any (x n : Int) (hx : InD x) (hn : InC n) (w : World) :
    Calls Tryz.prog 126 #[.agg #[.int .i64 (dLo x), .int .i64 (dHi x)], .int .i64 n] w fun e w' => e = .returned (.tuple #[.int .i64 (sR x n), .int .i64 (sQ x n), .int .i64 (sE x n)]) ∧ Keeps w w' := by
  by_cases h0 : n = 0
  · subst h0; exact rsymm_0 x w
  · have hh : decide (dHi x < 0) = decide (x < 0) := by simp [dHi_neg hx]
    cases hs : decide (x < 0) <;> cases ht : decide (n < 0)
    all_goals
      rw [hs] at hh
      obtain ⟨N, R, S⟩ := signs_of hx hn h0 _ _ hs ht
    · exact rsymm_ff x n N R hn h0 hh ht S w
    · exact rsymm_ft x n N R hn h0 hh ht S w
    · exact rsymm_tf x n N R hn h0 hh ht S w
    · exact rsymm_tt x n N R hn h0 hh ht S w
theorem rfloor2_any (x n : Int) (hx : InD x) (hn : InC n) (w : World) :
    Calls Tryz.prog 125 #[.agg #[.int .i64 (dLo x), .int .i64 (dHi x)], .int .i64 n] w fun e w' => e = .returned (.tuple #[.int .i64 (fR x n), .int .i64 (fQ x n), .int .i64 (fE x n)]) ∧ Keeps w w' := by
  by_cases h0 : n = 0
  · subst h0; exact rfloor_0 x w
  · have hh : decide (dHi x < 0) = decide (x < 0) := by simp [dHi_neg hx]
    cases hs : decide (x < 0) <;> cases ht : decide (n < 0)
    all_goals
      rw [hs] at hh
      obtain ⟨N, R, S⟩ := signs_of hx hn h0 _ _ hs ht
    · exact rfloor_ff x n N R hn h0 hh ht S w
    · exact rfloor_ft x n N R hn h0 hh ht S w
    · exact rfloor_tf x n N R hn h0 hh ht S w
    · exact rfloor_tt x n N R hn h0 hh ht S w
set_option maxHeartbeats 400000 in
theorem rscale_any (a b c : Int) (ha : InC a) (hb : InC b) (hc : InC c) (w : World) :
    Calls Tryz.prog 120 #[.int .i64 a, .int .i64 b, .int .i64 c] w fun e w' => e = .returned (.tuple #[.int .i64 (fR (a * b) c), .int .i64 (fQ (a * b) c), .int .i64 (fE (a * b) c)]) ∧ Keeps w w' := by
  have hx := inD_mul ha hb
  go_enter Tryz.func120, Tryz.ntmps120
  go_wp2_with (first
    | (go_at_call 123; refine (rmul_any _ _ ha hb _).mono ?_; rintro e w1 ⟨rfl, hw1⟩)
    | (go_at_call 125; refine (rfloor2_any _ _ hx hc _).mono ?_; rintro e w2 ⟨rfl, hw2⟩))
  go_ret3
  exact ⟨rfl, hw1.trans hw2⟩
end Go.Proofs.YtnlkggfgloblcaaGreat

/-! From OpNames. -/
namespace Go.Proofs.YtnlkggfgloblcaaGreat

theorem opT_nodup : (opT.map (·.1)).Nodup := by decide +kernel
theorem opR_apart (i j : Nat) (hj : j < 111) (h : i < j) : (opR (i : Int)).1 ≠ (opR (j : Int)).1 := by
  rw [opR_nat i (by omega), opR_nat j hj]
  have := List.pairwise_iff_getElem.1 opT_nodup i j (by rw [List.length_map, opT_length]; omega) (by rw [List.length_map, opT_length]; exact hj) h
  simpa using this
theorem opR_inj (i j : Nat) (hi : i < 111) (hj : j < 111) (h : (opR (i : Int)).1 = (opR (j : Int)).1) : i = j := by
  rcases Nat.lt_trichotomy i j with e | e | e
  · exact (opR_apart i j hj e h).elim
  · exact e
  · exact (opR_apart j i hi e h.symm).elim
theorem opR_upper (k : Nat) (h : k < 111) : (opR (k : Int)).1.map scU = (opR (k : Int)).1 :=
  of_decide_eq_true (opR_each (p := fun _ r => decide (r.1.map scU = r.1)) (by decide +kernel) k h)
theorem opR_some (k : Nat) (h : k < 111) : (opR (k : Int)).1 ≠ [] :=
  of_decide_eq_true (opR_each (p := fun _ r => decide (r.1 ≠ [])) (by decide +kernel) k h)
/-- Who is found by an operation's name: itself, if it is not hidden. -/
theorem opF_own (k : Nat) (h : k < 111) : opF (opR (k : Int)).1 = if opH (opR (k : Int)).1 then (0, false) else ((k : Int), true) := by
  cases hh : opH (opR (k : Int)).1 with
  | false =>
    rw [if_neg (by decide)]
    refine opF_yes _ k h ?_ fun i hi => ?_
    · unfold opQ; rw [hh]; simp
    · unfold opQ
      rw [decide_eq_false fun e => by have := opR_inj i k (by omega) h e; omega]
      rfl
  | true =>
    rw [if_pos rfl]
    refine opF_no _ fun i hi => ?_
    unfold opQ
    by_cases e : (opR (i : Int)).1 = (opR (k : Int)).1
    · rw [e, hh]; simp
    · rw [decide_eq_false e]; rfl
/-- What is found has that name, and is not hidden. -/
theorem opF_has (u : List UInt8) (v : Int) (h : opF u = (v, true)) : ∃ j : Nat, j < 111 ∧ v = (j : Int) ∧ (opR (j : Int)).1 = u ∧ opH (opR (j : Int)).1 = false := by
  unfold opF at h
  cases hf : (List.range 111).find? (opQ u) with
  | none => rw [hf] at h; simp at h
  | some j =>
    rw [hf] at h
    simp only [Prod.mk.injEq, and_true] at h
    obtain ⟨h1, h2, _⟩ := List.find?_range_eq_some.1 hf
    unfold opQ at h1
    simp at h1 h2
    exact ⟨j, h2, h.symm, h1⟩
end Go.Proofs.YtnlkggfgloblcaaGreat

/-! From Ref06Calls. -/
namespace Go.Proofs.YtnlkggfgloblcaaGreat
open Go.RowKit

theorem keepR {W w w' : World} {A : Nat} {a0 a1 : Value} (hb : Below w.heap.size w w') (h : Below W.heap.size W w ∧ A < w.heap.size ∧ w.cell? ⟨A, 0, none⟩ = some a0 ∧ w.cell? ⟨A, 1, none⟩ = some a1) :
    Below W.heap.size W w' ∧ A < w'.heap.size ∧ w'.cell? ⟨A, 0, none⟩ = some a0 ∧ w'.cell? ⟨A, 1, none⟩ = some a1 := by
  obtain ⟨h0, h1, g1, g2⟩ := h
  have hz := hb.size
  exact ⟨below_then h0 hb, by omega, (hb.cell (p := ⟨A, 0, none⟩) h1).trans g1, (hb.cell (p := ⟨A, 1, none⟩) h1).trans g2⟩
theorem mkR {W w : World} {A : Nat} {t : TypeId} {S : ByteArray} {i : Int} (h : Below W.heap.size W w) (ha : Src w A t S i) : Below W.heap.size W w ∧ A < w.heap.size ∧ w.cell? ⟨A, 0, none⟩ = some (.string S) ∧ w.cell? ⟨A, 1, none⟩ = some (.int .i64 i) := ⟨h, ha.lt, ha.s, ha.n⟩
end Go.Proofs.YtnlkggfgloblcaaGreat

/-! From Ref07Math. -/
namespace Go.Proofs.YtnlkggfgloblcaaGreat

/-- All names, a blank between two. -/
def opNames : List UInt8 := ((opT.map fun r => 32 :: r.1).flatten).drop 1
/-- Where the k-th word begins (behind the last one: the end). -/
def opP (k : Nat) : Nat := min ((opT.take k).foldl (fun s r => s + r.1.length + 1) 0) opNames.length
def opNeeds : List UInt8 := opT.map fun r => UInt8.ofNat (r.2.1 + 48).toNat
def opLeaves : List UInt8 := opT.map fun r => if r.2.2.1 = -1 then 63 else UInt8.ofNat (r.2.2.1 + 48).toNat
def opGroups : List UInt8 := opT.map fun r => UInt8.ofNat (r.2.2.2 + 48).toNat
theorem opNames_length : opNames.length = 526 := by decide +kernel
theorem opP_zero : opP 0 = 0 := by decide +kernel
/-- Word by word the names come. -/
theorem opP_all : ((List.range 111).all fun k => decide (scS scB opNames (scA opNames (opP k : Int)) = opP k ∧ scS (scN 32) opNames (opP k) = opP k + (opR (k : Int)).1.length ∧ min (opP k + (opR (k : Int)).1.length + 1) opNames.length = opP (k + 1) ∧ scT opNames (opP k) (opP k + (opR (k : Int)).1.length) = (opR (k : Int)).1)) = true := by decide +kernel
theorem opP_at (k : Nat) (h : k < 111) : scS scB opNames (scA opNames (opP k : Int)) = opP k ∧ scS (scN 32) opNames (opP k) = opP k + (opR (k : Int)).1.length ∧ min (opP k + (opR (k : Int)).1.length + 1) opNames.length = opP (k + 1) ∧ scT opNames (opP k) (opP k + (opR (k : Int)).1.length) = (opR (k : Int)).1 :=
  of_decide_eq_true (List.all_eq_true.1 opP_all k (List.mem_range.2 h))
/-- A name in parentheses begins with the first of them, and no other one does. -/
theorem opH_head (k : Nat) (h : k < 111) : opH (opR (k : Int)).1 = decide ((opR (k : Int)).1.head? = some 40) :=
  of_decide_eq_true (opR_each (p := fun _ r => decide (opH r.1 = decide (r.1.head? = some 40))) (by decide +kernel) k h)
theorem signs_needs (k : Nat) (h : k < 111) : ∃ c : UInt8, opNeeds[k]? = some c ∧ (c.toNat : Int) - 48 = (opR (k : Int)).2.1 := by
  have := opR_each (p := fun _ r => decide (((UInt8.ofNat (r.2.1 + 48).toNat).toNat : Int) - 48 = r.2.1)) (by decide +kernel) k h
  refine ⟨_, ?_, of_decide_eq_true this⟩
  rw [opR_nat k h]
  unfold opNeeds
  rw [List.getElem?_map, List.getElem?_eq_getElem (by rw [opT_length]; exact h)]
  rfl
theorem signs_groups (k : Nat) (h : k < 111) : ∃ c : UInt8, opGroups[k]? = some c ∧ (c.toNat : Int) - 48 = (opR (k : Int)).2.2.2 := by
  have := opR_each (p := fun _ r => decide (((UInt8.ofNat (r.2.2.2 + 48).toNat).toNat : Int) - 48 = r.2.2.2)) (by decide +kernel) k h
  refine ⟨_, ?_, of_decide_eq_true this⟩
  rw [opR_nat k h]
  unfold opGroups
  rw [List.getElem?_map, List.getElem?_eq_getElem (by rw [opT_length]; exact h)]
  rfl
theorem signs_leaves (k : Nat) (h : k < 111) : ∃ c : UInt8, opLeaves[k]? = some c ∧ ((opR (k : Int)).2.2.1 = -1 ∧ c = 63 ∨ (opR (k : Int)).2.2.1 ≠ -1 ∧ c ≠ 63 ∧ (c.toNat : Int) - 48 = (opR (k : Int)).2.2.1) := by
  have := opR_each (p := fun _ r => decide (r.2.2.1 = -1 ∧ (if r.2.2.1 = -1 then 63 else UInt8.ofNat (r.2.2.1 + 48).toNat) = 63 ∨ r.2.2.1 ≠ -1 ∧ (if r.2.2.1 = -1 then 63 else UInt8.ofNat (r.2.2.1 + 48).toNat) ≠ 63 ∧ ((if r.2.2.1 = -1 then 63 else UInt8.ofNat (r.2.2.1 + 48).toNat).toNat : Int) - 48 = r.2.2.1)) (by decide +kernel) k h
  refine ⟨_, ?_, of_decide_eq_true this⟩
  rw [opR_nat k h]
  unfold opLeaves
  rw [List.getElem?_map, List.getElem?_eq_getElem (by rw [opT_length]; exact h)]
  rfl
end Go.Proofs.YtnlkggfgloblcaaGreat

/-! From Ref07Calls. -/
namespace Go.Proofs.YtnlkggfgloblcaaGreat
open Go.RowKit

set_option maxRecDepth 10000 in
theorem rneedsS_is (S : ByteArray) (hS : S = ⟨opNeeds.toArray⟩) (w : World) : Calls Tryz.prog 33 #[] w fun e w' => e = .returned (.string S) ∧ w = w' := by
  go_enter Tryz.func33, Tryz.ntmps33
  go_wp2
  go_ret
  exact ⟨by rw [hS]; kernel_rfl, rfl⟩
set_option maxRecDepth 10000 in
theorem rleavesS_is (S : ByteArray) (hS : S = ⟨opLeaves.toArray⟩) (w : World) : Calls Tryz.prog 41 #[] w fun e w' => e = .returned (.string S) ∧ w = w' := by
  go_enter Tryz.func41, Tryz.ntmps41
  go_wp2
  go_ret
  exact ⟨by rw [hS]; kernel_rfl, rfl⟩
set_option maxRecDepth 10000 in
theorem rgroupsS_is (S : ByteArray) (hS : S = ⟨opGroups.toArray⟩) (w : World) : Calls Tryz.prog 32 #[] w fun e w' => e = .returned (.string S) ∧ w = w' := by
  go_enter Tryz.func32, Tryz.ntmps32
  go_wp2
  go_ret
  exact ⟨by rw [hS]; kernel_rfl, rfl⟩
set_option maxHeartbeats 400000 in
theorem rin_is (n : Int) (b : Bool) (h : decide (0 ≤ n ∧ n < 111) = b) (w : World) : Calls Tryz.prog 31 #[.int .i64 n] w fun e w' => e = .returned (.bool b) ∧ w = w' := by
  by_cases h1 : 0 ≤ n
  · by_cases h2 : n < 111
    · obtain rfl : b = true := by rw [← h]; simp [h1, h2]
      clear h
      go_enter Tryz.func31, Tryz.ntmps31
      go_wp2
      go_ret
      exact ⟨rfl, rfl⟩
    · obtain rfl : b = false := by rw [← h]; simp; omega
      clear h
      go_enter Tryz.func31, Tryz.ntmps31
      go_wp2
      go_ret
      exact ⟨rfl, rfl⟩
  · obtain rfl : b = false := by rw [← h]; simp; omega
    clear h
    go_enter Tryz.func31, Tryz.ntmps31
    go_wp2
    go_ret
    exact ⟨rfl, rfl⟩
theorem sign_at {l : List UInt8} {S : ByteArray} (hS : S = ⟨l.toArray⟩) {k : Nat} {c : UInt8} (h : l[k]? = some c) : k < S.size ∧ ∀ hk : k < S.size, S[k]'hk = c := by
  subst hS
  obtain ⟨hk, e⟩ := List.getElem?_eq_some_iff.1 h
  exact ⟨by rw [size_mk]; exact hk, fun _ => e⟩
set_option maxHeartbeats 400000 in
theorem rneeds_is (n v : Int) (h : (opR n).2.1 = v) (w : World) : Calls Tryz.prog 23 #[.int .i64 n] w fun e w' => e = .returned (.int .i64 v) ∧ w = w' := by
  by_cases hn : 0 ≤ n ∧ n < 111
  · obtain ⟨k, rfl⟩ : ∃ k : Nat, n = (k : Int) := ⟨n.toNat, by omega⟩
    obtain ⟨c, hc, hv⟩ := signs_needs k (by omega)
    rw [h] at hv
    subst hv
    obtain ⟨S, hS⟩ : ∃ S : ByteArray, S = ⟨opNeeds.toArray⟩ := ⟨_, rfl⟩
    obtain ⟨hk, he⟩ := sign_at hS hc
    have HN := Lib.hid (rneedsS_is S hS)
    have HI := Lib.hid (rin_is (k : Int) true (by simpa using hn))
    have hc8 : (0 : Int) ≤ (c.toNat : Int) ∧ (c.toNat : Int) ≤ 255 := by have := c.toNat_lt; omega
    clear h hn hc hS
    go_enter Tryz.func23, Tryz.ntmps23
    go_wp2_with (first
      | (go_at_call 31; refine (HI.out _).mono ?_; rintro e w1 ⟨rfl, rfl⟩)
      | (go_at_call 33; refine (HN.out _).mono ?_; rintro e w1 ⟨rfl, rfl⟩))
    go_ret
    exact ⟨rfl, rfl⟩
  · have HI := Lib.hid (rin_is n false (by simpa using hn))
    rw [opR_out n (by omega)] at h
    obtain rfl : v = 0 := h.symm
    clear h hn
    go_enter Tryz.func23, Tryz.ntmps23
    go_wp2_with (first
      | (go_at_call 31; refine (HI.out _).mono ?_; rintro e w1 ⟨rfl, rfl⟩))
    go_ret
    exact ⟨rfl, rfl⟩
set_option maxHeartbeats 400000 in
theorem rgroup_is (n v : Int) (h : (opR n).2.2.2 = v) (w : World) : Calls Tryz.prog 22 #[.int .i64 n] w fun e w' => e = .returned (.int .i64 v) ∧ w = w' := by
  by_cases hn : 0 ≤ n ∧ n < 111
  · obtain ⟨k, rfl⟩ : ∃ k : Nat, n = (k : Int) := ⟨n.toNat, by omega⟩
    obtain ⟨c, hc, hv⟩ := signs_groups k (by omega)
    rw [h] at hv
    subst hv
    obtain ⟨S, hS⟩ : ∃ S : ByteArray, S = ⟨opGroups.toArray⟩ := ⟨_, rfl⟩
    obtain ⟨hk, he⟩ := sign_at hS hc
    have HN := Lib.hid (rgroupsS_is S hS)
    have HI := Lib.hid (rin_is (k : Int) true (by simpa using hn))
    have hc8 : (0 : Int) ≤ (c.toNat : Int) ∧ (c.toNat : Int) ≤ 255 := by have := c.toNat_lt; omega
    clear h hn hc hS
    go_enter Tryz.func22, Tryz.ntmps22
    go_wp2_with (first
      | (go_at_call 31; refine (HI.out _).mono ?_; rintro e w1 ⟨rfl, rfl⟩)
      | (go_at_call 32; refine (HN.out _).mono ?_; rintro e w1 ⟨rfl, rfl⟩))
    go_ret
    exact ⟨rfl, rfl⟩
  · have HI := Lib.hid (rin_is n false (by simpa using hn))
    rw [opR_out n (by omega)] at h
    obtain rfl : v = (-1) := h.symm
    clear h hn
    go_enter Tryz.func22, Tryz.ntmps22
    go_wp2_with (first
      | (go_at_call 31; refine (HI.out _).mono ?_; rintro e w1 ⟨rfl, rfl⟩))
    go_ret
    exact ⟨rfl, rfl⟩
set_option maxHeartbeats 400000 in
theorem rleaves_is (n v : Int) (b : Bool) (h : opL n = (v, b)) (w : World) : Calls Tryz.prog 27 #[.int .i64 n] w fun e w' => e = .returned (.tuple #[.int .i64 v, .bool b]) ∧ w = w' := by
  by_cases hn : 0 ≤ n ∧ n < 111
  · obtain ⟨k, rfl⟩ : ∃ k : Nat, n = (k : Int) := ⟨n.toNat, by omega⟩
    obtain ⟨c, hc, hv⟩ := signs_leaves k (by omega)
    obtain ⟨S, hS⟩ : ∃ S : ByteArray, S = ⟨opLeaves.toArray⟩ := ⟨_, rfl⟩
    obtain ⟨hk, he⟩ := sign_at hS hc
    have HN := Lib.hid (rleavesS_is S hS)
    have HI := Lib.hid (rin_is (k : Int) true (by simpa using hn))
    have hc8 : (0 : Int) ≤ (c.toNat : Int) ∧ (c.toNat : Int) ≤ 255 := by have := c.toNat_lt; omega
    unfold opL at h
    rcases hv with ⟨h1, rfl⟩ | ⟨h1, h2, h3⟩
    · rw [if_pos h1] at h
      simp only [Prod.mk.injEq] at h
      obtain ⟨rfl, rfl⟩ := h
      clear h1 hn hc hS
      go_enter Tryz.func27, Tryz.ntmps27
      go_wp2_with (first
        | (go_at_call 31; refine (HI.out _).mono ?_; rintro e w1 ⟨rfl, rfl⟩)
        | (go_at_call 41; refine (HN.out _).mono ?_; rintro e w1 ⟨rfl, rfl⟩))
      go_ret2
      exact ⟨rfl, rfl⟩
    · rw [if_neg h1] at h
      simp only [Prod.mk.injEq] at h
      obtain ⟨rfl, rfl⟩ := h
      rw [← h3]
      have h4 : ((c.toNat : Int) == 63) = false := by
        have : c.toNat ≠ 63 := fun e => h2 (UInt8.toNat_inj.1 e)
        simp; omega
      clear h1 h2 h3 hn hc hS
      go_enter Tryz.func27, Tryz.ntmps27
      go_wp2_with (first
        | (go_at_call 31; refine (HI.out _).mono ?_; rintro e w1 ⟨rfl, rfl⟩)
        | (go_at_call 41; refine (HN.out _).mono ?_; rintro e w1 ⟨rfl, rfl⟩))
      go_ret2
      exact ⟨rfl, rfl⟩
  · have HI := Lib.hid (rin_is n false (by simpa using hn))
    unfold opL at h
    rw [opR_out n (by omega)] at h
    simp only [opBad, if_true, Prod.mk.injEq] at h
    obtain ⟨rfl, rfl⟩ := h
    clear hn
    go_enter Tryz.func27, Tryz.ntmps27
    go_wp2_with (first
      | (go_at_call 31; refine (HI.out _).mono ?_; rintro e w1 ⟨rfl, rfl⟩))
    go_ret2
    exact ⟨rfl, rfl⟩
end Go.Proofs.YtnlkggfgloblcaaGreat

/-! From PureRefA. -/
namespace Go.Proofs.YtnlkggfgloblcaaGreat
open Go.RowKit

theorem rflag_z (ok : Bool) (w : World) : Calls Tryz.prog 115 #[.bool ok] w fun e w' => e = .returned (.int .i64 (flagZ ok)) ∧ w = w' := rflag_any ok w
theorem half_is {a : Int} (ha : InC a) : cFq a 2 = a / 2 := by
  have hb : cBad a 2 = 0 := by unfold cBad; rw [if_neg (by decide), if_neg (fun h => absurd h.2 (by decide))]
  have h1 := QR_sum hb
  have h2 := (F_bound (a := a) (b := 2) (by unfold InC; omega) hb).1 (by decide)
  unfold InC at ha
  cases hu : cUp a 2
  · obtain ⟨e1, e2⟩ := F_same hu
    rw [e1]
    rw [e2] at h2
    omega
  · obtain ⟨e1, e2⟩ := F_less (a := a) (b := 2) (by unfold InC; omega) hb hu
    rw [e1]
    rw [e2] at h2
    unfold wrap64
    omega
theorem twice_is {a : Int} (_ : InC a) : cShl a 1 = wrap64 (a + a) := by
  unfold cShl
  have e : (IntKind.u64.wrap 1).toNat = 1 := by rw [u64w]; rfl
  rw [e, show min 1 64 = 1 from rfl, u64w, u64w]
  unfold wrap64
  omega
set_option maxHeartbeats 400000 in
theorem ro41 (a : Int) (ha : InC a) (w : World) : Calls Tryz.prog 38 #[.int .i64 41, .int .i64 a] w fun e w' => e = .returned (.int .i64 (wrap64 (a + 1))) ∧ Keeps w w' := by
  have HA := Lib.hid ha
  clear ha
  go_enter Tryz.func38, Tryz.ntmps38
  go_wp2
  go_ret
  exact ⟨rfl, Keeps.refl _⟩
set_option maxHeartbeats 400000 in
theorem ro42 (a : Int) (ha : InC a) (w : World) : Calls Tryz.prog 38 #[.int .i64 42, .int .i64 a] w fun e w' => e = .returned (.int .i64 (wrap64 (a - 1))) ∧ Keeps w w' := by
  have HA := Lib.hid ha
  clear ha
  go_enter Tryz.func38, Tryz.ntmps38
  go_wp2
  go_ret
  exact ⟨rfl, Keeps.refl _⟩
set_option maxHeartbeats 400000 in
theorem ro43 (a : Int) (ha : InC a) (w : World) : Calls Tryz.prog 38 #[.int .i64 43, .int .i64 a] w fun e w' => e = .returned (.int .i64 (cShl a 1)) ∧ Keeps w w' := by
  rw [twice_is ha]
  have HA := Lib.hid ha
  clear ha
  go_enter Tryz.func38, Tryz.ntmps38
  go_wp2
  go_ret
  exact ⟨rfl, Keeps.refl _⟩
set_option maxHeartbeats 400000 in
theorem ro44 (a : Int) (ha : InC a) (w : World) : Calls Tryz.prog 38 #[.int .i64 44, .int .i64 a] w fun e w' => e = .returned (.int .i64 (a / 2)) ∧ Keeps w w' := by
  rw [← half_is ha]
  have HA := Lib.hid ha
  clear ha
  go_enter Tryz.func38, Tryz.ntmps38
  go_wp2_with ((go_at_call 114; refine (rfloor_any _ _ HA.out _).mono ?_; rintro e w' ⟨rfl, nf, rfl⟩))
  go_ret
  exact ⟨rfl, (Keeps.refl _).drewN _⟩
set_option maxHeartbeats 400000 in
theorem ro45 (a : Int) (ha : InC a) (w : World) : Calls Tryz.prog 38 #[.int .i64 45, .int .i64 a] w fun e w' => e = .returned (.int .i64 (wrap64 (-a))) ∧ Keeps w w' := by
  have hw : wrap64 (0 - a) = wrap64 (-a) := by rw [Int.zero_sub]
  have HA := Lib.hid ha
  clear ha
  go_enter Tryz.func38, Tryz.ntmps38
  go_wp2
  go_ret
  exact ⟨rfl, Keeps.refl _⟩
set_option maxHeartbeats 400000 in
theorem ro46 (a : Int) (ha : InC a) (w : World) : Calls Tryz.prog 38 #[.int .i64 46, .int .i64 a] w fun e w' => e = .returned (.int .i64 (max a (wrap64 (-a)))) ∧ Keeps w w' := by
  by_cases h : a < 0
  · rw [show max a (wrap64 (-a)) = wrap64 (-a) by unfold InC at ha; unfold wrap64; omega]
    have hw : wrap64 (0 - a) = wrap64 (-a) := by rw [Int.zero_sub]
    clear ha
    go_enter Tryz.func38, Tryz.ntmps38
    go_wp2
    go_ret
    exact ⟨rfl, Keeps.refl _⟩
  · rw [show max a (wrap64 (-a)) = a by unfold InC at ha; unfold wrap64; omega]
    clear ha
    go_enter Tryz.func38, Tryz.ntmps38
    go_wp2
    go_ret
    exact ⟨rfl, Keeps.refl _⟩
set_option maxHeartbeats 400000 in
theorem ro52 (a : Int) (ha : InC a) (w : World) : Calls Tryz.prog 38 #[.int .i64 52, .int .i64 a] w fun e w' => e = .returned (.int .i64 (-a - 1)) ∧ Keeps w w' := by
  have hw : wrap64 (-1 - a) = -a - 1 := by unfold InC at ha; unfold wrap64; omega
  rw [← hw]
  clear hw
  have HA := Lib.hid ha
  clear ha
  go_enter Tryz.func38, Tryz.ntmps38
  go_wp2
  go_ret
  exact ⟨rfl, Keeps.refl _⟩
set_option maxHeartbeats 400000 in
theorem ro60 (a : Int) (ha : InC a) (w : World) : Calls Tryz.prog 38 #[.int .i64 60, .int .i64 a] w fun e w' => e = .returned (.int .i64 (flagZ (a == 0))) ∧ Keeps w w' := by
  have HA := Lib.hid ha
  clear ha
  go_enter Tryz.func38, Tryz.ntmps38
  go_wp2_with ((go_at_call 115; (with_reducible refine (rflag_z _ _).mono ?_); rintro e w' ⟨rfl, rfl⟩))
  go_ret
  exact ⟨rfl, Keeps.refl _⟩
set_option maxHeartbeats 400000 in
theorem ro61 (a : Int) (ha : InC a) (w : World) : Calls Tryz.prog 38 #[.int .i64 61, .int .i64 a] w fun e w' => e = .returned (.int .i64 (flagZ (decide (a < 0)))) ∧ Keeps w w' := by
  have HA := Lib.hid ha
  clear ha
  go_enter Tryz.func38, Tryz.ntmps38
  go_wp2_with ((go_at_call 115; (with_reducible refine (rflag_z _ _).mono ?_); rintro e w' ⟨rfl, rfl⟩))
  go_ret
  exact ⟨rfl, Keeps.refl _⟩
set_option maxHeartbeats 400000 in
theorem ro71 (a : Int) (ha : InC a) (w : World) : Calls Tryz.prog 38 #[.int .i64 71, .int .i64 a] w fun e w' => e = .returned (.int .i64 (wrap64 (a * 8))) ∧ Keeps w w' := by
  have HA := Lib.hid ha
  clear ha
  go_enter Tryz.func38, Tryz.ntmps38
  go_wp2
  go_ret
  exact ⟨rfl, Keeps.refl _⟩
set_option maxHeartbeats 400000 in
theorem ro72 (a : Int) (ha : InC a) (w : World) : Calls Tryz.prog 38 #[.int .i64 72, .int .i64 a] w fun e w' => e = .returned (.int .i64 (wrap64 (a + 8))) ∧ Keeps w w' := by
  have HA := Lib.hid ha
  clear ha
  go_enter Tryz.func38, Tryz.ntmps38
  go_wp2
  go_ret
  exact ⟨rfl, Keeps.refl _⟩
set_option maxHeartbeats 400000 in
theorem ro73 (a : Int) (ha : InC a) (w : World) : Calls Tryz.prog 38 #[.int .i64 73, .int .i64 a] w fun e w' => e = .returned (.int .i64 (wrap64 (a + 1))) ∧ Keeps w w' := by
  have HA := Lib.hid ha
  clear ha
  go_enter Tryz.func38, Tryz.ntmps38
  go_wp2
  go_ret
  exact ⟨rfl, Keeps.refl _⟩
set_option maxHeartbeats 400000 in
theorem ro74 (a : Int) (ha : InC a) (w : World) : Calls Tryz.prog 38 #[.int .i64 74, .int .i64 a] w fun e w' => e = .returned (.int .i64 (cAl a)) ∧ Keeps w w' := by
  have HA := Lib.hid ha
  clear ha
  go_enter Tryz.func38, Tryz.ntmps38
  go_wp2_with ((go_at_call 116; (with_reducible refine (raligned_any _ HA.out _).mono ?_); rintro e w' ⟨rfl, rfl⟩))
  go_ret
  exact ⟨rfl, Keeps.refl _⟩
set_option maxHeartbeats 400000 in
theorem rt33 (a b : Int) (ha : InC a) (hb : InC b) (w : World) : Calls Tryz.prog 39 #[.int .i64 33, .int .i64 a, .int .i64 b] w fun e w' => e = .returned (.tuple #[.int .i64 (wrap64 (a + b)), .int .i64 (0)]) ∧ Keeps w w' := by
  have HA := Lib.hid ha
  have HB := Lib.hid hb
  clear ha hb
  go_enter Tryz.func39, Tryz.ntmps39
  go_wp2_with (first | (go_at_call 114; (with_reducible refine (rfloor_any _ _ HA.out _).mono ?_); rintro e w' ⟨rfl, nf, rfl⟩))
  go_ret2
  exact ⟨rfl, (Keeps.refl _).drewN _⟩
set_option maxHeartbeats 400000 in
theorem rt34 (a b : Int) (ha : InC a) (hb : InC b) (w : World) : Calls Tryz.prog 39 #[.int .i64 34, .int .i64 a, .int .i64 b] w fun e w' => e = .returned (.tuple #[.int .i64 (wrap64 (a - b)), .int .i64 (0)]) ∧ Keeps w w' := by
  have HA := Lib.hid ha
  have HB := Lib.hid hb
  clear ha hb
  go_enter Tryz.func39, Tryz.ntmps39
  go_wp2_with (first | (go_at_call 114; (with_reducible refine (rfloor_any _ _ HA.out _).mono ?_); rintro e w' ⟨rfl, nf, rfl⟩))
  go_ret2
  exact ⟨rfl, (Keeps.refl _).drewN _⟩
set_option maxHeartbeats 400000 in
theorem rt35 (a b : Int) (ha : InC a) (hb : InC b) (w : World) : Calls Tryz.prog 39 #[.int .i64 35, .int .i64 a, .int .i64 b] w fun e w' => e = .returned (.tuple #[.int .i64 (wrap64 (a * b)), .int .i64 (0)]) ∧ Keeps w w' := by
  have HA := Lib.hid ha
  have HB := Lib.hid hb
  clear ha hb
  go_enter Tryz.func39, Tryz.ntmps39
  go_wp2_with (first | (go_at_call 114; (with_reducible refine (rfloor_any _ _ HA.out _).mono ?_); rintro e w' ⟨rfl, nf, rfl⟩))
  go_ret2
  exact ⟨rfl, (Keeps.refl _).drewN _⟩
set_option maxHeartbeats 400000 in
theorem rt36 (a b : Int) (ha : InC a) (hb : InC b) (w : World) : Calls Tryz.prog 39 #[.int .i64 36, .int .i64 a, .int .i64 b] w fun e w' => e = .returned (.tuple #[.int .i64 (cFq a b), .int .i64 (cBad a b)]) ∧ Keeps w w' := by
  have HA := Lib.hid ha
  have HB := Lib.hid hb
  clear ha hb
  go_enter Tryz.func39, Tryz.ntmps39
  go_wp2_with (first | (go_at_call 114; (with_reducible refine (rfloor_any _ _ HA.out _).mono ?_); rintro e w' ⟨rfl, nf, rfl⟩))
  go_ret2
  exact ⟨rfl, (Keeps.refl _).drewN _⟩
set_option maxHeartbeats 400000 in
theorem rt37 (a b : Int) (ha : InC a) (hb : InC b) (w : World) : Calls Tryz.prog 39 #[.int .i64 37, .int .i64 a, .int .i64 b] w fun e w' => e = .returned (.tuple #[.int .i64 (cFr a b), .int .i64 (cBad a b)]) ∧ Keeps w w' := by
  have HA := Lib.hid ha
  have HB := Lib.hid hb
  clear ha hb
  go_enter Tryz.func39, Tryz.ntmps39
  go_wp2_with (first | (go_at_call 114; (with_reducible refine (rfloor_any _ _ HA.out _).mono ?_); rintro e w' ⟨rfl, nf, rfl⟩))
  go_ret2
  exact ⟨rfl, (Keeps.refl _).drewN _⟩
set_option maxHeartbeats 400000 in
theorem rt47 (a b : Int) (ha : InC a) (hb : InC b) (w : World) : Calls Tryz.prog 39 #[.int .i64 47, .int .i64 a, .int .i64 b] w fun e w' => e = .returned (.tuple #[.int .i64 (min a b), .int .i64 (0)]) ∧ Keeps w w' := by
  have HA := Lib.hid ha
  have HB := Lib.hid hb
  clear ha hb
  go_enter Tryz.func39, Tryz.ntmps39
  go_wp2_with (first | (go_at_call 114; (with_reducible refine (rfloor_any _ _ HA.out _).mono ?_); rintro e w' ⟨rfl, nf, rfl⟩))
  go_ret2
  exact ⟨rfl, (Keeps.refl _).drewN _⟩
set_option maxHeartbeats 400000 in
theorem rt48 (a b : Int) (ha : InC a) (hb : InC b) (w : World) : Calls Tryz.prog 39 #[.int .i64 48, .int .i64 a, .int .i64 b] w fun e w' => e = .returned (.tuple #[.int .i64 (max a b), .int .i64 (0)]) ∧ Keeps w w' := by
  have HA := Lib.hid ha
  have HB := Lib.hid hb
  clear ha hb
  go_enter Tryz.func39, Tryz.ntmps39
  go_wp2_with (first | (go_at_call 114; (with_reducible refine (rfloor_any _ _ HA.out _).mono ?_); rintro e w' ⟨rfl, nf, rfl⟩))
  go_ret2
  exact ⟨rfl, (Keeps.refl _).drewN _⟩
set_option maxHeartbeats 400000 in
theorem rt49 (a b : Int) (ha : InC a) (hb : InC b) (w : World) : Calls Tryz.prog 39 #[.int .i64 49, .int .i64 a, .int .i64 b] w fun e w' => e = .returned (.tuple #[.int .i64 (bits .and .i64 a b), .int .i64 (0)]) ∧ Keeps w w' := by
  have HA := Lib.hid ha
  have HB := Lib.hid hb
  clear ha hb
  go_enter Tryz.func39, Tryz.ntmps39
  go_wp2_with (first | (go_at_call 114; (with_reducible refine (rfloor_any _ _ HA.out _).mono ?_); rintro e w' ⟨rfl, nf, rfl⟩))
  go_ret2
  exact ⟨rfl, (Keeps.refl _).drewN _⟩
set_option maxHeartbeats 400000 in
theorem rt50 (a b : Int) (ha : InC a) (hb : InC b) (w : World) : Calls Tryz.prog 39 #[.int .i64 50, .int .i64 a, .int .i64 b] w fun e w' => e = .returned (.tuple #[.int .i64 (bits .or .i64 a b), .int .i64 (0)]) ∧ Keeps w w' := by
  have HA := Lib.hid ha
  have HB := Lib.hid hb
  clear ha hb
  go_enter Tryz.func39, Tryz.ntmps39
  go_wp2_with (first | (go_at_call 114; (with_reducible refine (rfloor_any _ _ HA.out _).mono ?_); rintro e w' ⟨rfl, nf, rfl⟩))
  go_ret2
  exact ⟨rfl, (Keeps.refl _).drewN _⟩
set_option maxHeartbeats 400000 in
theorem rt51 (a b : Int) (ha : InC a) (hb : InC b) (w : World) : Calls Tryz.prog 39 #[.int .i64 51, .int .i64 a, .int .i64 b] w fun e w' => e = .returned (.tuple #[.int .i64 (bits .xor .i64 a b), .int .i64 (0)]) ∧ Keeps w w' := by
  have HA := Lib.hid ha
  have HB := Lib.hid hb
  clear ha hb
  go_enter Tryz.func39, Tryz.ntmps39
  go_wp2_with (first | (go_at_call 114; (with_reducible refine (rfloor_any _ _ HA.out _).mono ?_); rintro e w' ⟨rfl, nf, rfl⟩))
  go_ret2
  exact ⟨rfl, (Keeps.refl _).drewN _⟩
set_option maxHeartbeats 400000 in
theorem rt53 (a b : Int) (ha : InC a) (hb : InC b) (w : World) : Calls Tryz.prog 39 #[.int .i64 53, .int .i64 a, .int .i64 b] w fun e w' => e = .returned (.tuple #[.int .i64 (cShl a b), .int .i64 (0)]) ∧ Keeps w w' := by
  have HA := Lib.hid ha
  have HB := Lib.hid hb
  clear ha hb
  go_enter Tryz.func39, Tryz.ntmps39
  go_wp2_with (first | (go_at_call 114; (with_reducible refine (rfloor_any _ _ HA.out _).mono ?_); rintro e w' ⟨rfl, nf, rfl⟩) | (go_at_call 117; (with_reducible refine (rshl_any _ _ HB.out _).mono ?_); rintro e w2 ⟨rfl, hg⟩; have HG := Lib.hid (Keeps.of_grown hg); clear hg))
  go_ret2
  exact ⟨rfl, ((Keeps.refl _).drewN _).trans HG.out⟩
set_option maxHeartbeats 400000 in
theorem rt54 (a b : Int) (ha : InC a) (hb : InC b) (w : World) : Calls Tryz.prog 39 #[.int .i64 54, .int .i64 a, .int .i64 b] w fun e w' => e = .returned (.tuple #[.int .i64 (cShr a b), .int .i64 (0)]) ∧ Keeps w w' := by
  have HA := Lib.hid ha
  have HB := Lib.hid hb
  clear ha hb
  go_enter Tryz.func39, Tryz.ntmps39
  go_wp2_with (first | (go_at_call 114; (with_reducible refine (rfloor_any _ _ HA.out _).mono ?_); rintro e w' ⟨rfl, nf, rfl⟩) | (go_at_call 118; (with_reducible refine (rshr_any _ _ HB.out _).mono ?_); rintro e w2 ⟨rfl, hg⟩; have HG := Lib.hid (Keeps.of_grown hg); clear hg))
  go_ret2
  exact ⟨rfl, ((Keeps.refl _).drewN _).trans HG.out⟩
set_option maxHeartbeats 400000 in
theorem rt55 (a b : Int) (ha : InC a) (hb : InC b) (w : World) : Calls Tryz.prog 39 #[.int .i64 55, .int .i64 a, .int .i64 b] w fun e w' => e = .returned (.tuple #[.int .i64 (flagZ (a == b)), .int .i64 (0)]) ∧ Keeps w w' := by
  have HA := Lib.hid ha
  have HB := Lib.hid hb
  clear ha hb
  go_enter Tryz.func39, Tryz.ntmps39
  go_wp2_with (first | (go_at_call 114; (with_reducible refine (rfloor_any _ _ HA.out _).mono ?_); rintro e w' ⟨rfl, nf, rfl⟩) | (go_at_call 115; (with_reducible refine (rflag_z _ _).mono ?_); rintro e w' ⟨rfl, rfl⟩))
  go_ret2
  exact ⟨rfl, (Keeps.refl _).drewN _⟩
set_option maxHeartbeats 400000 in
theorem rt56 (a b : Int) (ha : InC a) (hb : InC b) (w : World) : Calls Tryz.prog 39 #[.int .i64 56, .int .i64 a, .int .i64 b] w fun e w' => e = .returned (.tuple #[.int .i64 (flagZ (a != b)), .int .i64 (0)]) ∧ Keeps w w' := by
  have HA := Lib.hid ha
  have HB := Lib.hid hb
  clear ha hb
  go_enter Tryz.func39, Tryz.ntmps39
  go_wp2_with (first | (go_at_call 114; (with_reducible refine (rfloor_any _ _ HA.out _).mono ?_); rintro e w' ⟨rfl, nf, rfl⟩) | (go_at_call 115; (with_reducible refine (rflag_z _ _).mono ?_); rintro e w' ⟨rfl, rfl⟩))
  go_ret2
  exact ⟨rfl, (Keeps.refl _).drewN _⟩
set_option maxHeartbeats 400000 in
theorem rt57 (a b : Int) (ha : InC a) (hb : InC b) (w : World) : Calls Tryz.prog 39 #[.int .i64 57, .int .i64 a, .int .i64 b] w fun e w' => e = .returned (.tuple #[.int .i64 (flagZ (decide (a < b))), .int .i64 (0)]) ∧ Keeps w w' := by
  have HA := Lib.hid ha
  have HB := Lib.hid hb
  clear ha hb
  go_enter Tryz.func39, Tryz.ntmps39
  go_wp2_with (first | (go_at_call 114; (with_reducible refine (rfloor_any _ _ HA.out _).mono ?_); rintro e w' ⟨rfl, nf, rfl⟩) | (go_at_call 115; (with_reducible refine (rflag_z _ _).mono ?_); rintro e w' ⟨rfl, rfl⟩))
  go_ret2
  exact ⟨rfl, (Keeps.refl _).drewN _⟩
set_option maxHeartbeats 400000 in
theorem rt58 (a b : Int) (ha : InC a) (hb : InC b) (w : World) : Calls Tryz.prog 39 #[.int .i64 58, .int .i64 a, .int .i64 b] w fun e w' => e = .returned (.tuple #[.int .i64 (flagZ (decide (b < a))), .int .i64 (0)]) ∧ Keeps w w' := by
  have HA := Lib.hid ha
  have HB := Lib.hid hb
  clear ha hb
  go_enter Tryz.func39, Tryz.ntmps39
  go_wp2_with (first | (go_at_call 114; (with_reducible refine (rfloor_any _ _ HA.out _).mono ?_); rintro e w' ⟨rfl, nf, rfl⟩) | (go_at_call 115; (with_reducible refine (rflag_z _ _).mono ?_); rintro e w' ⟨rfl, rfl⟩))
  go_ret2
  exact ⟨rfl, (Keeps.refl _).drewN _⟩
set_option maxHeartbeats 400000 in
theorem rt59 (a b : Int) (ha : InC a) (hb : InC b) (w : World) : Calls Tryz.prog 39 #[.int .i64 59, .int .i64 a, .int .i64 b] w fun e w' => e = .returned (.tuple #[.int .i64 (flagZ (cUlt a b)), .int .i64 (0)]) ∧ Keeps w w' := by
  have HA := Lib.hid ha
  have HB := Lib.hid hb
  clear ha hb
  go_enter Tryz.func39, Tryz.ntmps39
  go_wp2_with (first | (go_at_call 114; (with_reducible refine (rfloor_any _ _ HA.out _).mono ?_); rintro e w' ⟨rfl, nf, rfl⟩) | (go_at_call 119; (with_reducible refine (rult_any _ _ _).mono ?_); rintro e w' ⟨rfl, rfl⟩) | (go_at_call 115; (with_reducible refine (rflag_z _ _).mono ?_); rintro e w' ⟨rfl, rfl⟩))
  go_ret2
  exact ⟨rfl, (Keeps.refl _).drewN _⟩
theorem or18 (S : ByteArray) (hS : S = ⟨([48, 48] : List UInt8).toArray⟩) (w : World) : Calls Tryz.prog 37 #[.int .i64 18] w fun e w' => e = .returned (.string S) ∧ w = w' := by
  go_enter Tryz.func37, Tryz.ntmps37
  go_wp2
  go_ret
  exact ⟨by rw [hS]; rfl, rfl⟩
theorem or19 (S : ByteArray) (hS : S = ⟨([45] : List UInt8).toArray⟩) (w : World) : Calls Tryz.prog 37 #[.int .i64 19] w fun e w' => e = .returned (.string S) ∧ w = w' := by
  go_enter Tryz.func37, Tryz.ntmps37
  go_wp2
  go_ret
  exact ⟨by rw [hS]; rfl, rfl⟩
theorem or26 (S : ByteArray) (hS : S = ⟨([45] : List UInt8).toArray⟩) (w : World) : Calls Tryz.prog 37 #[.int .i64 26] w fun e w' => e = .returned (.string S) ∧ w = w' := by
  go_enter Tryz.func37, Tryz.ntmps37
  go_wp2
  go_ret
  exact ⟨by rw [hS]; rfl, rfl⟩
theorem or20 (S : ByteArray) (hS : S = ⟨([49, 48] : List UInt8).toArray⟩) (w : World) : Calls Tryz.prog 37 #[.int .i64 20] w fun e w' => e = .returned (.string S) ∧ w = w' := by
  go_enter Tryz.func37, Tryz.ntmps37
  go_wp2
  go_ret
  exact ⟨by rw [hS]; rfl, rfl⟩
theorem or21 (S : ByteArray) (hS : S = ⟨([48, 49, 48] : List UInt8).toArray⟩) (w : World) : Calls Tryz.prog 37 #[.int .i64 21] w fun e w' => e = .returned (.string S) ∧ w = w' := by
  go_enter Tryz.func37, Tryz.ntmps37
  go_wp2
  go_ret
  exact ⟨by rw [hS]; rfl, rfl⟩
theorem or22 (S : ByteArray) (hS : S = ⟨([49, 50, 48] : List UInt8).toArray⟩) (w : World) : Calls Tryz.prog 37 #[.int .i64 22] w fun e w' => e = .returned (.string S) ∧ w = w' := by
  go_enter Tryz.func37, Tryz.ntmps37
  go_wp2
  go_ret
  exact ⟨by rw [hS]; rfl, rfl⟩
theorem or23 (S : ByteArray) (hS : S = ⟨([49] : List UInt8).toArray⟩) (w : World) : Calls Tryz.prog 37 #[.int .i64 23] w fun e w' => e = .returned (.string S) ∧ w = w' := by
  go_enter Tryz.func37, Tryz.ntmps37
  go_wp2
  go_ret
  exact ⟨by rw [hS]; rfl, rfl⟩
theorem or24 (S : ByteArray) (hS : S = ⟨([49, 48, 49] : List UInt8).toArray⟩) (w : World) : Calls Tryz.prog 37 #[.int .i64 24] w fun e w' => e = .returned (.string S) ∧ w = w' := by
  go_enter Tryz.func37, Tryz.ntmps37
  go_wp2
  go_ret
  exact ⟨by rw [hS]; rfl, rfl⟩
theorem or25 (S : ByteArray) (hS : S = ⟨([48, 49, 48, 49] : List UInt8).toArray⟩) (w : World) : Calls Tryz.prog 37 #[.int .i64 25] w fun e w' => e = .returned (.string S) ∧ w = w' := by
  go_enter Tryz.func37, Tryz.ntmps37
  go_wp2
  go_ret
  exact ⟨by rw [hS]; rfl, rfl⟩
theorem or27 (S : ByteArray) (hS : S = ⟨([50, 51, 48, 49] : List UInt8).toArray⟩) (w : World) : Calls Tryz.prog 37 #[.int .i64 27] w fun e w' => e = .returned (.string S) ∧ w = w' := by
  go_enter Tryz.func37, Tryz.ntmps37
  go_wp2
  go_ret
  exact ⟨by rw [hS]; rfl, rfl⟩
theorem or28 (S : ByteArray) (hS : S = ⟨([48, 49, 50, 51, 48, 49] : List UInt8).toArray⟩) (w : World) : Calls Tryz.prog 37 #[.int .i64 28] w fun e w' => e = .returned (.string S) ∧ w = w' := by
  go_enter Tryz.func37, Tryz.ntmps37
  go_wp2
  go_ret
  exact ⟨by rw [hS]; rfl, rfl⟩
theorem or_none (o : Int) (h : 29 ≤ o) (w : World) : Calls Tryz.prog 37 #[.int .i64 o] w fun e w' => e = .returned (.string ⟨#[]⟩) ∧ w = w' := by
  have n18 : (o == 18) = false := by simp; omega
  have n19 : (o == 19) = false := by simp; omega
  have n20 : (o == 20) = false := by simp; omega
  have n21 : (o == 21) = false := by simp; omega
  have n22 : (o == 22) = false := by simp; omega
  have n23 : (o == 23) = false := by simp; omega
  have n24 : (o == 24) = false := by simp; omega
  have n25 : (o == 25) = false := by simp; omega
  have n26 : (o == 26) = false := by simp; omega
  have n27 : (o == 27) = false := by simp; omega
  have n28 : (o == 28) = false := by simp; omega
  clear h
  go_enter Tryz.func37, Tryz.ntmps37
  go_wp2
  go_ret
  exact ⟨rfl, rfl⟩
end Go.Proofs.YtnlkggfgloblcaaGreat

/-! From PureRefB. -/
namespace Go.Proofs.YtnlkggfgloblcaaGreat
open Go.RowKit

theorem box_kept {w w2 : World} (hg : Keeps (w.alloc (.cells #[.int .i64 0, .int .i64 0] 63)).drew w2) : w2.cell? ⟨w.heap.size, 0, none⟩ = some (.int .i64 0) ∧ w2.cell? ⟨w.heap.size, 1, none⟩ = some (.int .i64 0) ∧ w2.frozen? ⟨w.heap.size, 0, none⟩ = false ∧ w2.frozen? ⟨w.heap.size, 1, none⟩ = false ∧ w.heap.size < w2.heap.size ∧ Keeps w w2 := by
  have hz : w.heap.size < (w.alloc (.cells #[.int .i64 0, .int .i64 0] 63)).drew.heap.size := by simp
  exact ⟨hg.cell_some hz (by simp [go_sem]), hg.cell_some hz (by simp [go_sem]), (hg.frozen (p := ⟨w.heap.size, 0, none⟩) hz).trans (by simp [go_sem]), (hg.frozen (p := ⟨w.heap.size, 1, none⟩) hz).trans (by simp [go_sem]), Nat.lt_of_lt_of_le hz hg.size, (((Keeps.refl _).alloc _).drew).trans hg⟩
theorem box_kept' {w w2 : World} (hg : Keeps (w.alloc (.cells #[.int .i64 0, .int .i64 0] 63)) w2) : w2.cell? ⟨w.heap.size, 0, none⟩ = some (.int .i64 0) ∧ w2.cell? ⟨w.heap.size, 1, none⟩ = some (.int .i64 0) ∧ w2.frozen? ⟨w.heap.size, 0, none⟩ = false ∧ w2.frozen? ⟨w.heap.size, 1, none⟩ = false ∧ w.heap.size < w2.heap.size ∧ Keeps w w2 := by
  have hz : w.heap.size < (w.alloc (.cells #[.int .i64 0, .int .i64 0] 63)).heap.size := by simp
  exact ⟨hg.cell_some hz (by simp [go_sem]), hg.cell_some hz (by simp [go_sem]), (hg.frozen (p := ⟨w.heap.size, 0, none⟩) hz).trans (by simp [go_sem]), (hg.frozen (p := ⟨w.heap.size, 1, none⟩) hz).trans (by simp [go_sem]), Nat.lt_of_lt_of_le hz hg.size, ((Keeps.refl _).alloc _).trans hg⟩
set_option maxHeartbeats 1000000 in
set_option maxRecDepth 100000 in
theorem rm38 (A : Option Addr) (q : Nat) (a b : Int) (ha : InC a) (hb : InC b) (w : World) (h : Stk w A 2 q [a, b]) : Calls Tryz.prog 40 #[.int .i64 38, .slice A 2 q] w (PuPost w [cFr a b, cFq a b] (cBad a b)) := by
  obtain ⟨b0, o0, rfl, hb0, hcl⟩ := h.at0 (by omega)
  have e0 : w.cell? ⟨b0, o0, none⟩ = some (.int .i64 a) := hcl 0 (by simp)
  have e1 : w.cell? ⟨b0, o0 + 1, none⟩ = some (.int .i64 b) := hcl 1 (by simp)
  have PS : Hid (∀ w', Keeps w w' → (w'.cell? ⟨b0, o0, none⟩ = some (.int .i64 a) ∧ w'.cell? ⟨b0, o0 + 1, none⟩ = some (.int .i64 b)) ∧ Keeps w w') := Lib.hid fun w' k => ⟨⟨k.cell_some hb0 e0, k.cell_some hb0 e1⟩, k⟩
  have HIa := Lib.hid ha
  have HIb := Lib.hid hb
  clear hcl h ha hb
  go_enter Tryz.func40, Tryz.ntmps40
  go_wp2
  go_region_held3 (fun w' => (w'.cell? ⟨b0, o0, none⟩ = some (.int .i64 a) ∧ w'.cell? ⟨b0, o0 + 1, none⟩ = some (.int .i64 b)) ∧ Keeps w w') (first | exact PS.out _ ((Keeps.refl _).alloc _).drew | exact PS.out _ (((Keeps.refl _).alloc _).drew.drewN _) | exact PS.out _ (((Keeps.refl _).alloc _).drewN _))
    ((go_at_call 114; (with_reducible refine (rfloor_any _ _ HIa.out _).mono ?_); rintro e w' ⟨rfl, nf, rfl⟩))
  go_wp2
  go_ret2
  exact ⟨_, _, _, rfl, stk_at _ _ [cFr a b, cFq a b] 2 _ (by simp) rfl (by decide), (((Keeps.refl _).alloc _).drewN _).alloc _⟩
set_option maxHeartbeats 1000000 in
set_option maxRecDepth 100000 in
theorem rm39 (A : Option Addr) (q : Nat) (a b c : Int) (ha : InC a) (hb : InC b) (hc : InC c) (w : World) (h : Stk w A 3 q [a, b, c]) : Calls Tryz.prog 40 #[.int .i64 39, .slice A 3 q] w (PuPost w [fQ (a * b) c] (fE (a * b) c)) := by
  obtain ⟨b0, o0, rfl, hb0, hcl⟩ := h.at0 (by omega)
  have e0 : w.cell? ⟨b0, o0, none⟩ = some (.int .i64 a) := hcl 0 (by simp)
  have e1 : w.cell? ⟨b0, o0 + 1, none⟩ = some (.int .i64 b) := hcl 1 (by simp)
  have e2 : w.cell? ⟨b0, o0 + 2, none⟩ = some (.int .i64 c) := hcl 2 (by simp)
  have PS : Hid (∀ w', Keeps w w' → (w'.cell? ⟨b0, o0, none⟩ = some (.int .i64 a) ∧ w'.cell? ⟨b0, o0 + 1, none⟩ = some (.int .i64 b) ∧ w'.cell? ⟨b0, o0 + 2, none⟩ = some (.int .i64 c)) ∧ Keeps w w') := Lib.hid fun w' k => ⟨⟨k.cell_some hb0 e0, k.cell_some hb0 e1, k.cell_some hb0 e2⟩, k⟩
  have HIa := Lib.hid ha
  have HIb := Lib.hid hb
  have HIc := Lib.hid hc
  clear hcl h ha hb hc
  go_enter Tryz.func40, Tryz.ntmps40
  go_wp2
  go_region_held3 (fun w' => (w'.cell? ⟨b0, o0, none⟩ = some (.int .i64 a) ∧ w'.cell? ⟨b0, o0 + 1, none⟩ = some (.int .i64 b) ∧ w'.cell? ⟨b0, o0 + 2, none⟩ = some (.int .i64 c)) ∧ Keeps w w') (first | exact PS.out _ HG.out | exact PS.out _ ((Keeps.refl _).alloc _).drew)
    ((go_at_call 120; (with_reducible refine (rscale_any _ _ _ HIa.out HIb.out HIc.out _).mono ?_); rintro e w2 ⟨rfl, hg⟩; have HG := Lib.hid (((Keeps.refl _).alloc _).drew.trans hg); clear hg))
  go_wp2
  go_ret2
  exact ⟨_, _, _, rfl, stk_at _ _ [fQ (a * b) c] 1 _ rfl rfl (by decide), HG.out.alloc _⟩
set_option maxHeartbeats 1000000 in
set_option maxRecDepth 100000 in
theorem rm40 (A : Option Addr) (q : Nat) (a b c : Int) (ha : InC a) (hb : InC b) (hc : InC c) (w : World) (h : Stk w A 3 q [a, b, c]) : Calls Tryz.prog 40 #[.int .i64 40, .slice A 3 q] w (PuPost w [fR (a * b) c, fQ (a * b) c] (fE (a * b) c)) := by
  obtain ⟨b0, o0, rfl, hb0, hcl⟩ := h.at0 (by omega)
  have e0 : w.cell? ⟨b0, o0, none⟩ = some (.int .i64 a) := hcl 0 (by simp)
  have e1 : w.cell? ⟨b0, o0 + 1, none⟩ = some (.int .i64 b) := hcl 1 (by simp)
  have e2 : w.cell? ⟨b0, o0 + 2, none⟩ = some (.int .i64 c) := hcl 2 (by simp)
  have PS : Hid (∀ w', Keeps w w' → (w'.cell? ⟨b0, o0, none⟩ = some (.int .i64 a) ∧ w'.cell? ⟨b0, o0 + 1, none⟩ = some (.int .i64 b) ∧ w'.cell? ⟨b0, o0 + 2, none⟩ = some (.int .i64 c)) ∧ Keeps w w') := Lib.hid fun w' k => ⟨⟨k.cell_some hb0 e0, k.cell_some hb0 e1, k.cell_some hb0 e2⟩, k⟩
  have HIa := Lib.hid ha
  have HIb := Lib.hid hb
  have HIc := Lib.hid hc
  clear hcl h ha hb hc
  go_enter Tryz.func40, Tryz.ntmps40
  go_wp2
  go_region_held3 (fun w' => (w'.cell? ⟨b0, o0, none⟩ = some (.int .i64 a) ∧ w'.cell? ⟨b0, o0 + 1, none⟩ = some (.int .i64 b) ∧ w'.cell? ⟨b0, o0 + 2, none⟩ = some (.int .i64 c)) ∧ Keeps w w') (first | exact PS.out _ HG.out | exact PS.out _ ((Keeps.refl _).alloc _).drew)
    ((go_at_call 120; (with_reducible refine (rscale_any _ _ _ HIa.out HIb.out HIc.out _).mono ?_); rintro e w2 ⟨rfl, hg⟩; have HG := Lib.hid (((Keeps.refl _).alloc _).drew.trans hg); clear hg))
  go_wp2
  go_ret2
  exact ⟨_, _, _, rfl, stk_at _ _ [fR (a * b) c, fQ (a * b) c] 2 _ rfl rfl (by decide), HG.out.alloc _⟩
set_option maxHeartbeats 1000000 in
set_option maxRecDepth 100000 in
theorem rm62 (A : Option Addr) (q : Nat) (a b c : Int) (ha : InC a) (hb : InC b) (hc : InC c) (w : World) (h : Stk w A 3 q [a, b, c]) : Calls Tryz.prog 40 #[.int .i64 62, .slice A 3 q] w (PuPost w [flagZ (cIn a b c)] (0)) := by
  obtain ⟨b0, o0, rfl, hb0, hcl⟩ := h.at0 (by omega)
  have e0 : w.cell? ⟨b0, o0, none⟩ = some (.int .i64 a) := hcl 0 (by simp)
  have e1 : w.cell? ⟨b0, o0 + 1, none⟩ = some (.int .i64 b) := hcl 1 (by simp)
  have e2 : w.cell? ⟨b0, o0 + 2, none⟩ = some (.int .i64 c) := hcl 2 (by simp)
  have PS : Hid (∀ w', Keeps w w' → (w'.cell? ⟨b0, o0, none⟩ = some (.int .i64 a) ∧ w'.cell? ⟨b0, o0 + 1, none⟩ = some (.int .i64 b) ∧ w'.cell? ⟨b0, o0 + 2, none⟩ = some (.int .i64 c)) ∧ Keeps w w') := Lib.hid fun w' k => ⟨⟨k.cell_some hb0 e0, k.cell_some hb0 e1, k.cell_some hb0 e2⟩, k⟩
  have HIa := Lib.hid ha
  have HIb := Lib.hid hb
  have HIc := Lib.hid hc
  clear hcl h ha hb hc
  go_enter Tryz.func40, Tryz.ntmps40
  go_wp2
  go_region_held3 (fun w' => (w'.cell? ⟨b0, o0, none⟩ = some (.int .i64 a) ∧ w'.cell? ⟨b0, o0 + 1, none⟩ = some (.int .i64 b) ∧ w'.cell? ⟨b0, o0 + 2, none⟩ = some (.int .i64 c)) ∧ Keeps w w') (first | exact PS.out _ ((Keeps.refl _).alloc _).drew | exact PS.out _ ((((Keeps.refl _).alloc _).alloc _).drew) | exact PS.out _ (((Keeps.refl _).alloc _).drew.alloc _))
    (first | (go_at_call 121; (with_reducible refine (rwithin_any _ _ _ _).mono ?_); rintro e w' ⟨rfl, rfl⟩) | (go_at_call 115; (with_reducible refine (rflag_z _ _).mono ?_); rintro e w' ⟨rfl, rfl⟩))
  go_wp2
  go_ret2
  exact ⟨_, _, _, rfl, (stk_at _ _ [flagZ (cIn a b c)] 1 _ (by simp) rfl (by decide)).drew, (((Keeps.refl _).alloc _).alloc _).drew⟩
set_option maxHeartbeats 1000000 in
set_option maxRecDepth 100000 in
theorem rm63 (A : Option Addr) (q : Nat) (a b : Int) (ha : InC a) (hb : InC b) (w : World) (h : Stk w A 2 q [a, b]) : Calls Tryz.prog 40 #[.int .i64 63, .slice A 2 q] w (PuPost w [dLo (uProd a b), dHi (uProd a b)] (0)) := by
  obtain ⟨b0, o0, rfl, hb0, hcl⟩ := h.at0 (by omega)
  have e0 : w.cell? ⟨b0, o0, none⟩ = some (.int .i64 a) := hcl 0 (by simp)
  have e1 : w.cell? ⟨b0, o0 + 1, none⟩ = some (.int .i64 b) := hcl 1 (by simp)
  have PS : Hid (∀ w', Keeps w w' → (w'.cell? ⟨b0, o0, none⟩ = some (.int .i64 a) ∧ w'.cell? ⟨b0, o0 + 1, none⟩ = some (.int .i64 b)) ∧ Keeps w w') := Lib.hid fun w' k => ⟨⟨k.cell_some hb0 e0, k.cell_some hb0 e1⟩, k⟩
  have HIa := Lib.hid ha
  have HIb := Lib.hid hb
  clear hcl h ha hb
  go_enter Tryz.func40, Tryz.ntmps40
  go_wp2
  go_region_held3 (fun w' => (w'.cell? ⟨b0, o0, none⟩ = some (.int .i64 a) ∧ w'.cell? ⟨b0, o0 + 1, none⟩ = some (.int .i64 b)) ∧ Keeps w w') (first | exact PS.out _ HG.out | exact PS.out _ ((HG.out.setCell (Nat.le_refl _) _).setCell (Nat.le_refl _) _) | exact PS.out _ ((Keeps.refl _).alloc _).drew)
    ((go_at_call 122; (with_reducible refine (rumul_any _ _ HIa.out _).mono ?_); rintro e w2 ⟨rfl, hg⟩; obtain ⟨z0, z1, f0, f1, hs2, hk⟩ := box_kept hg; have HG := Lib.hid hk; clear hg hk))
  go_wp2
  go_ret2
  exact ⟨_, _, _, rfl, stk_at _ _ [dLo (uProd a b), dHi (uProd a b)] 2 _ (by simp [World.setCell]) rfl (by decide), ((HG.out.setCell (Nat.le_refl _) _).setCell (Nat.le_refl _) _).alloc _⟩
set_option maxHeartbeats 1000000 in
set_option maxRecDepth 100000 in
theorem rm64 (A : Option Addr) (q : Nat) (a b : Int) (ha : InC a) (hb : InC b) (w : World) (h : Stk w A 2 q [a, b]) : Calls Tryz.prog 40 #[.int .i64 64, .slice A 2 q] w (PuPost w [dLo (a * b), dHi (a * b)] (0)) := by
  obtain ⟨b0, o0, rfl, hb0, hcl⟩ := h.at0 (by omega)
  have e0 : w.cell? ⟨b0, o0, none⟩ = some (.int .i64 a) := hcl 0 (by simp)
  have e1 : w.cell? ⟨b0, o0 + 1, none⟩ = some (.int .i64 b) := hcl 1 (by simp)
  have PS : Hid (∀ w', Keeps w w' → (w'.cell? ⟨b0, o0, none⟩ = some (.int .i64 a) ∧ w'.cell? ⟨b0, o0 + 1, none⟩ = some (.int .i64 b)) ∧ Keeps w w') := Lib.hid fun w' k => ⟨⟨k.cell_some hb0 e0, k.cell_some hb0 e1⟩, k⟩
  have HIa := Lib.hid ha
  have HIb := Lib.hid hb
  clear hcl h ha hb
  go_enter Tryz.func40, Tryz.ntmps40
  go_wp2
  go_region_held3 (fun w' => (w'.cell? ⟨b0, o0, none⟩ = some (.int .i64 a) ∧ w'.cell? ⟨b0, o0 + 1, none⟩ = some (.int .i64 b)) ∧ Keeps w w') (first | exact PS.out _ HG.out | exact PS.out _ ((HG.out.setCell (Nat.le_refl _) _).setCell (Nat.le_refl _) _) | exact PS.out _ ((Keeps.refl _).alloc _).drew)
    ((go_at_call 123; (with_reducible refine (rmul_any _ _ HIa.out HIb.out _).mono ?_); rintro e w2 ⟨rfl, hg⟩; obtain ⟨z0, z1, f0, f1, hs2, hk⟩ := box_kept hg; have HG := Lib.hid hk; clear hg hk))
  go_wp2
  go_ret2
  exact ⟨_, _, _, rfl, stk_at _ _ [dLo (a * b), dHi (a * b)] 2 _ (by simp [World.setCell]) rfl (by decide), ((HG.out.setCell (Nat.le_refl _) _).setCell (Nat.le_refl _) _).alloc _⟩
set_option maxHeartbeats 1000000 in
set_option maxRecDepth 100000 in
theorem rm65 (A : Option Addr) (q : Nat) (a b c : Int) (ha : InC a) (hb : InC b) (hc : InC c) (w : World) (h : Stk w A 3 q [a, b, c]) : Calls Tryz.prog 40 #[.int .i64 65, .slice A 3 q] w (PuPost w [uR (dV a b) c, uQ (dV a b) c] (uE (dV a b) c)) := by
  have HD := Lib.hid (dV_in (l := a) hb)
  obtain ⟨x, hx, ea, eb⟩ : ∃ x, x = dV a b ∧ a = dLo x ∧ b = dHi x := ⟨dV a b, rfl, (dLo_dV ha).symm, (dHi_dV hb).symm⟩
  rw [← hx] at HD ⊢
  subst ea eb
  clear hx
  obtain ⟨b0, o0, rfl, hb0, hcl⟩ := h.at0 (by omega)
  have e0 : w.cell? ⟨b0, o0, none⟩ = some (.int .i64 (dLo x)) := hcl 0 (by simp)
  have e1 : w.cell? ⟨b0, o0 + 1, none⟩ = some (.int .i64 (dHi x)) := hcl 1 (by simp)
  have e2 : w.cell? ⟨b0, o0 + 2, none⟩ = some (.int .i64 c) := hcl 2 (by simp)
  have PS : Hid (∀ w', Keeps w w' → (w'.cell? ⟨b0, o0, none⟩ = some (.int .i64 (dLo x)) ∧ w'.cell? ⟨b0, o0 + 1, none⟩ = some (.int .i64 (dHi x)) ∧ w'.cell? ⟨b0, o0 + 2, none⟩ = some (.int .i64 c)) ∧ Keeps w w') := Lib.hid fun w' k => ⟨⟨k.cell_some hb0 e0, k.cell_some hb0 e1, k.cell_some hb0 e2⟩, k⟩
  have HIa := Lib.hid ha
  have HIb := Lib.hid hb
  have HIc := Lib.hid hc
  clear hcl h ha hb hc
  go_enter Tryz.func40, Tryz.ntmps40
  go_wp2
  go_region_held3 (fun w' => (w'.cell? ⟨b0, o0, none⟩ = some (.int .i64 (dLo x)) ∧ w'.cell? ⟨b0, o0 + 1, none⟩ = some (.int .i64 (dHi x)) ∧ w'.cell? ⟨b0, o0 + 2, none⟩ = some (.int .i64 c)) ∧ Keeps w w') (first | exact PS.out _ HG.out | exact PS.out _ ((Keeps.refl _).alloc _).drew)
    ((go_at_call 124; (with_reducible refine (rumod_any _ _ HIc.out _).mono ?_); rintro e w2 ⟨rfl, hg⟩; have HG := Lib.hid (((Keeps.refl _).alloc _).drew.trans hg); clear hg))
  go_wp2
  go_ret2
  exact ⟨_, _, _, rfl, stk_at _ _ [uR (x) c, uQ (x) c] 2 _ rfl rfl (by decide), HG.out.alloc _⟩
set_option maxHeartbeats 1000000 in
set_option maxRecDepth 100000 in
theorem rm66 (A : Option Addr) (q : Nat) (a b c : Int) (ha : InC a) (hb : InC b) (hc : InC c) (w : World) (h : Stk w A 3 q [a, b, c]) : Calls Tryz.prog 40 #[.int .i64 66, .slice A 3 q] w (PuPost w [fR (dV a b) c, fQ (dV a b) c] (fE (dV a b) c)) := by
  have HD := Lib.hid (dV_in (l := a) hb)
  obtain ⟨x, hx, ea, eb⟩ : ∃ x, x = dV a b ∧ a = dLo x ∧ b = dHi x := ⟨dV a b, rfl, (dLo_dV ha).symm, (dHi_dV hb).symm⟩
  rw [← hx] at HD ⊢
  subst ea eb
  clear hx
  obtain ⟨b0, o0, rfl, hb0, hcl⟩ := h.at0 (by omega)
  have e0 : w.cell? ⟨b0, o0, none⟩ = some (.int .i64 (dLo x)) := hcl 0 (by simp)
  have e1 : w.cell? ⟨b0, o0 + 1, none⟩ = some (.int .i64 (dHi x)) := hcl 1 (by simp)
  have e2 : w.cell? ⟨b0, o0 + 2, none⟩ = some (.int .i64 c) := hcl 2 (by simp)
  have PS : Hid (∀ w', Keeps w w' → (w'.cell? ⟨b0, o0, none⟩ = some (.int .i64 (dLo x)) ∧ w'.cell? ⟨b0, o0 + 1, none⟩ = some (.int .i64 (dHi x)) ∧ w'.cell? ⟨b0, o0 + 2, none⟩ = some (.int .i64 c)) ∧ Keeps w w') := Lib.hid fun w' k => ⟨⟨k.cell_some hb0 e0, k.cell_some hb0 e1, k.cell_some hb0 e2⟩, k⟩
  have HIa := Lib.hid ha
  have HIb := Lib.hid hb
  have HIc := Lib.hid hc
  clear hcl h ha hb hc
  go_enter Tryz.func40, Tryz.ntmps40
  go_wp2
  go_region_held3 (fun w' => (w'.cell? ⟨b0, o0, none⟩ = some (.int .i64 (dLo x)) ∧ w'.cell? ⟨b0, o0 + 1, none⟩ = some (.int .i64 (dHi x)) ∧ w'.cell? ⟨b0, o0 + 2, none⟩ = some (.int .i64 c)) ∧ Keeps w w') (first | exact PS.out _ HG.out | exact PS.out _ ((Keeps.refl _).alloc _).drew)
    ((go_at_call 125; (with_reducible refine (rfloor2_any _ _ HD.out HIc.out _).mono ?_); rintro e w2 ⟨rfl, hg⟩; have HG := Lib.hid (((Keeps.refl _).alloc _).drew.trans hg); clear hg))
  go_wp2
  go_ret2
  exact ⟨_, _, _, rfl, stk_at _ _ [fR (x) c, fQ (x) c] 2 _ rfl rfl (by decide), HG.out.alloc _⟩
set_option maxHeartbeats 1000000 in
set_option maxRecDepth 100000 in
theorem rm67 (A : Option Addr) (q : Nat) (a b c : Int) (ha : InC a) (hb : InC b) (hc : InC c) (w : World) (h : Stk w A 3 q [a, b, c]) : Calls Tryz.prog 40 #[.int .i64 67, .slice A 3 q] w (PuPost w [sR (dV a b) c, sQ (dV a b) c] (sE (dV a b) c)) := by
  have HD := Lib.hid (dV_in (l := a) hb)
  obtain ⟨x, hx, ea, eb⟩ : ∃ x, x = dV a b ∧ a = dLo x ∧ b = dHi x := ⟨dV a b, rfl, (dLo_dV ha).symm, (dHi_dV hb).symm⟩
  rw [← hx] at HD ⊢
  subst ea eb
  clear hx
  obtain ⟨b0, o0, rfl, hb0, hcl⟩ := h.at0 (by omega)
  have e0 : w.cell? ⟨b0, o0, none⟩ = some (.int .i64 (dLo x)) := hcl 0 (by simp)
  have e1 : w.cell? ⟨b0, o0 + 1, none⟩ = some (.int .i64 (dHi x)) := hcl 1 (by simp)
  have e2 : w.cell? ⟨b0, o0 + 2, none⟩ = some (.int .i64 c) := hcl 2 (by simp)
  have PS : Hid (∀ w', Keeps w w' → (w'.cell? ⟨b0, o0, none⟩ = some (.int .i64 (dLo x)) ∧ w'.cell? ⟨b0, o0 + 1, none⟩ = some (.int .i64 (dHi x)) ∧ w'.cell? ⟨b0, o0 + 2, none⟩ = some (.int .i64 c)) ∧ Keeps w w') := Lib.hid fun w' k => ⟨⟨k.cell_some hb0 e0, k.cell_some hb0 e1, k.cell_some hb0 e2⟩, k⟩
  have HIa := Lib.hid ha
  have HIb := Lib.hid hb
  have HIc := Lib.hid hc
  clear hcl h ha hb hc
  go_enter Tryz.func40, Tryz.ntmps40
  go_wp2
  go_region_held3 (fun w' => (w'.cell? ⟨b0, o0, none⟩ = some (.int .i64 (dLo x)) ∧ w'.cell? ⟨b0, o0 + 1, none⟩ = some (.int .i64 (dHi x)) ∧ w'.cell? ⟨b0, o0 + 2, none⟩ = some (.int .i64 c)) ∧ Keeps w w') (first | exact PS.out _ HG.out | exact PS.out _ ((Keeps.refl _).alloc _).drew)
    ((go_at_call 126; (with_reducible refine (rsymm2_any _ _ HD.out HIc.out _).mono ?_); rintro e w2 ⟨rfl, hg⟩; have HG := Lib.hid (((Keeps.refl _).alloc _).drew.trans hg); clear hg))
  go_wp2
  go_ret2
  exact ⟨_, _, _, rfl, stk_at _ _ [sR (x) c, sQ (x) c] 2 _ rfl rfl (by decide), HG.out.alloc _⟩
set_option maxHeartbeats 1000000 in
set_option maxRecDepth 100000 in
theorem rm68 (A : Option Addr) (q : Nat) (a : Int) (ha : InC a) (w : World) (h : Stk w A 1 q [a]) : Calls Tryz.prog 40 #[.int .i64 68, .slice A 1 q] w (PuPost w [dLo a, dHi a] (0)) := by
  obtain ⟨b0, o0, rfl, hb0, hcl⟩ := h.at0 (by omega)
  have e0 : w.cell? ⟨b0, o0, none⟩ = some (.int .i64 a) := hcl 0 (by simp)
  have PS : Hid (∀ w', Keeps w w' → (w'.cell? ⟨b0, o0, none⟩ = some (.int .i64 a)) ∧ Keeps w w') := Lib.hid fun w' k => ⟨k.cell_some hb0 e0, k⟩
  have HIa := Lib.hid ha
  clear hcl h ha
  go_enter Tryz.func40, Tryz.ntmps40
  go_wp2_with (go_at_call 127; (with_reducible refine (rof_any _ HIa.out _).mono ?_); rintro e w2 ⟨rfl, hg⟩; obtain ⟨z0, z1, f0, f1, hs2, hk⟩ := box_kept' hg; have HG := Lib.hid hk; clear hg hk)
  go_ret2
  exact ⟨_, _, _, rfl, stk_at _ _ [dLo a, dHi a] 2 _ (by simp [World.setCell]) rfl (by decide), ((HG.out.setCell (Nat.le_refl _) _).setCell (Nat.le_refl _) _).alloc _⟩
set_option maxHeartbeats 1000000 in
set_option maxRecDepth 100000 in
theorem rm69 (A : Option Addr) (q : Nat) (a b c d : Int) (ha : InC a) (hb : InC b) (hc : InC c) (hd : InC d) (w : World) (h : Stk w A 4 q [a, b, c, d]) : Calls Tryz.prog 40 #[.int .i64 69, .slice A 4 q] w (PuPost w [dLo (dV a b + dV c d), dHi (dV a b + dV c d)] (0)) := by
  obtain ⟨x, hx, ea, eb⟩ : ∃ x, x = dV a b ∧ a = dLo x ∧ b = dHi x := ⟨dV a b, rfl, (dLo_dV ha).symm, (dHi_dV hb).symm⟩
  obtain ⟨y, hy, ec, ed⟩ : ∃ y, y = dV c d ∧ c = dLo y ∧ d = dHi y := ⟨dV c d, rfl, (dLo_dV hc).symm, (dHi_dV hd).symm⟩
  rw [← hx, ← hy]
  subst ea eb ec ed
  clear hx hy
  obtain ⟨b0, o0, rfl, hb0, hcl⟩ := h.at0 (by omega)
  have e0 : w.cell? ⟨b0, o0, none⟩ = some (.int .i64 (dLo x)) := hcl 0 (by simp)
  have e1 : w.cell? ⟨b0, o0 + 1, none⟩ = some (.int .i64 (dHi x)) := hcl 1 (by simp)
  have e2 : w.cell? ⟨b0, o0 + 2, none⟩ = some (.int .i64 (dLo y)) := hcl 2 (by simp)
  have e3 : w.cell? ⟨b0, o0 + 3, none⟩ = some (.int .i64 (dHi y)) := hcl 3 (by simp)
  have PS : Hid (∀ w', Keeps w w' → (w'.cell? ⟨b0, o0, none⟩ = some (.int .i64 (dLo x)) ∧ w'.cell? ⟨b0, o0 + 1, none⟩ = some (.int .i64 (dHi x)) ∧ w'.cell? ⟨b0, o0 + 2, none⟩ = some (.int .i64 (dLo y)) ∧ w'.cell? ⟨b0, o0 + 3, none⟩ = some (.int .i64 (dHi y))) ∧ Keeps w w') := Lib.hid fun w' k => ⟨⟨k.cell_some hb0 e0, k.cell_some hb0 e1, k.cell_some hb0 e2, k.cell_some hb0 e3⟩, k⟩
  have HIa := Lib.hid ha
  have HIb := Lib.hid hb
  have HIc := Lib.hid hc
  have HId := Lib.hid hd
  clear hcl h ha hb hc hd
  go_enter Tryz.func40, Tryz.ntmps40
  go_wp2
  go_region_held3 (fun w' => (w'.cell? ⟨b0, o0, none⟩ = some (.int .i64 (dLo x)) ∧ w'.cell? ⟨b0, o0 + 1, none⟩ = some (.int .i64 (dHi x)) ∧ w'.cell? ⟨b0, o0 + 2, none⟩ = some (.int .i64 (dLo y)) ∧ w'.cell? ⟨b0, o0 + 3, none⟩ = some (.int .i64 (dHi y))) ∧ Keeps w w') (first | exact PS.out _ HG.out | exact PS.out _ ((HG.out.setCell (Nat.le_refl _) _).setCell (Nat.le_refl _) _) | exact PS.out _ ((Keeps.refl _).alloc _).drew)
    ((go_at_call 128; (with_reducible refine (radd_any _ _ _).mono ?_); rintro e w2 ⟨rfl, hg⟩; obtain ⟨z0, z1, f0, f1, hs2, hk⟩ := box_kept hg; have HG := Lib.hid hk; clear hg hk))
  go_wp2
  go_ret2
  exact ⟨_, _, _, rfl, stk_at _ _ [dLo (x + y), dHi (x + y)] 2 _ (by simp [World.setCell]) rfl (by decide), ((HG.out.setCell (Nat.le_refl _) _).setCell (Nat.le_refl _) _).alloc _⟩
set_option maxHeartbeats 1000000 in
set_option maxRecDepth 100000 in
theorem rm70 (A : Option Addr) (q : Nat) (a b : Int) (ha : InC a) (hb : InC b) (w : World) (h : Stk w A 2 q [a, b]) : Calls Tryz.prog 40 #[.int .i64 70, .slice A 2 q] w (PuPost w [dLo (-dV a b), dHi (-dV a b)] (0)) := by
  obtain ⟨x, hx, ea, eb⟩ : ∃ x, x = dV a b ∧ a = dLo x ∧ b = dHi x := ⟨dV a b, rfl, (dLo_dV ha).symm, (dHi_dV hb).symm⟩
  rw [← hx]
  subst ea eb
  clear hx
  obtain ⟨b0, o0, rfl, hb0, hcl⟩ := h.at0 (by omega)
  have e0 : w.cell? ⟨b0, o0, none⟩ = some (.int .i64 (dLo x)) := hcl 0 (by simp)
  have e1 : w.cell? ⟨b0, o0 + 1, none⟩ = some (.int .i64 (dHi x)) := hcl 1 (by simp)
  have PS : Hid (∀ w', Keeps w w' → (w'.cell? ⟨b0, o0, none⟩ = some (.int .i64 (dLo x)) ∧ w'.cell? ⟨b0, o0 + 1, none⟩ = some (.int .i64 (dHi x))) ∧ Keeps w w') := Lib.hid fun w' k => ⟨⟨k.cell_some hb0 e0, k.cell_some hb0 e1⟩, k⟩
  have HIa := Lib.hid ha
  have HIb := Lib.hid hb
  clear hcl h ha hb
  go_enter Tryz.func40, Tryz.ntmps40
  go_wp2
  go_region_held3 (fun w' => (w'.cell? ⟨b0, o0, none⟩ = some (.int .i64 (dLo x)) ∧ w'.cell? ⟨b0, o0 + 1, none⟩ = some (.int .i64 (dHi x))) ∧ Keeps w w') (first | exact PS.out _ HG.out | exact PS.out _ ((HG.out.setCell (Nat.le_refl _) _).setCell (Nat.le_refl _) _) | exact PS.out _ ((Keeps.refl _).alloc _).drew)
    ((go_at_call 129; (with_reducible refine (rneg_any _ _).mono ?_); rintro e w2 ⟨rfl, hg⟩; obtain ⟨z0, z1, f0, f1, hs2, hk⟩ := box_kept hg; have HG := Lib.hid hk; clear hg hk))
  go_wp2
  go_ret2
  exact ⟨_, _, _, rfl, stk_at _ _ [dLo (-x), dHi (-x)] 2 _ (by simp [World.setCell]) rfl (by decide), ((HG.out.setCell (Nat.le_refl _) _).setCell (Nat.le_refl _) _).alloc _⟩
end Go.Proofs.YtnlkggfgloblcaaGreat

/-! From PureRefC. -/
namespace Go.Proofs.YtnlkggfgloblcaaGreat
open Go.RowKit

section
variable (o : Int) (B : Option Addr) (m : Nat) (w : World)
set_option maxHeartbeats 1000000 in
theorem tells_one (a v : Int) (ho : 29 ≤ o) (hn : (opR o).2.1 = 1) (hl : opL o = (1, true)) (h : Stk w B 1 m [a]) (h1 : ∀ W, Calls Tryz.prog 38 #[.int .i64 o, .int .i64 a] W fun e w' => e = .returned (.int .i64 v) ∧ Keeps W w') :
    Calls Tryz.prog 26 #[.int .i64 o, .slice B 1 m] w (PuPost w [v] 0) := by
  obtain ⟨b0, o0, rfl, hb0, hcl⟩ := h.at0 (by omega)
  have e0 : w.cell? ⟨b0, o0, none⟩ = some (.int .i64 a) := hcl 0 (by simp)
  have HO := Lib.hid ho
  have HN := Lib.hid hn
  have HL := Lib.hid hl
  have H1 := Lib.hid h1
  clear hcl h ho hn hl h1
  go_enter Tryz.func26, Tryz.ntmps26
  go_wp2_with (first
    | (go_at_call 37; (with_reducible refine (or_none _ HO.out _).mono ?_); rintro e w' ⟨rfl, rfl⟩)
    | (go_at_call 27; refine (rleaves_is _ _ _ HL.out _).mono ?_; rintro e w' ⟨rfl, rfl⟩)
    | (go_at_call 23; refine (rneeds_is _ _ HN.out _).mono ?_; rintro e w' ⟨rfl, rfl⟩)
    | (go_at_call 38; refine (H1.out _).mono ?_; rintro e w2 ⟨rfl, hg⟩; have HG := Lib.hid hg; clear hg))
  go_ret2
  exact ⟨_, _, _, rfl, stk_at _ _ [v] 1 _ rfl rfl (by decide), HG.out.alloc _⟩
set_option maxHeartbeats 1000000 in
theorem tells_two (a b v t : Int) (ho : 29 ≤ o) (hn : (opR o).2.1 = 2) (hl : opL o = (1, true)) (h : Stk w B 2 m [a, b]) (h1 : ∀ W, Calls Tryz.prog 39 #[.int .i64 o, .int .i64 a, .int .i64 b] W fun e w' => e = .returned (.tuple #[.int .i64 v, .int .i64 t]) ∧ Keeps W w') :
    Calls Tryz.prog 26 #[.int .i64 o, .slice B 2 m] w (PuPost w [v] t) := by
  obtain ⟨b0, o0, rfl, hb0, hcl⟩ := h.at0 (by omega)
  have e0 : w.cell? ⟨b0, o0, none⟩ = some (.int .i64 a) := hcl 0 (by simp)
  have e1 : w.cell? ⟨b0, o0 + 1, none⟩ = some (.int .i64 b) := hcl 1 (by simp)
  have PS : Hid (∀ w', Keeps w w' → (w'.cell? ⟨b0, o0, none⟩ = some (.int .i64 a) ∧ w'.cell? ⟨b0, o0 + 1, none⟩ = some (.int .i64 b)) ∧ Keeps w w') := Lib.hid fun w' k => ⟨⟨k.cell_some hb0 e0, k.cell_some hb0 e1⟩, k⟩
  have HO := Lib.hid ho
  have HN := Lib.hid hn
  have HL := Lib.hid hl
  have H1 := Lib.hid h1
  clear hcl h ho hn hl h1
  go_enter Tryz.func26, Tryz.ntmps26
  go_wp2_with (first
    | (go_at_call 37; (with_reducible refine (or_none _ HO.out _).mono ?_); rintro e w' ⟨rfl, rfl⟩)
    | (go_at_call 27; refine (rleaves_is _ _ _ HL.out _).mono ?_; rintro e w' ⟨rfl, rfl⟩)
    | (go_at_call 23; refine (rneeds_is _ _ HN.out _).mono ?_; rintro e w' ⟨rfl, rfl⟩))
  go_region_held3 (fun w' => (w'.cell? ⟨b0, o0, none⟩ = some (.int .i64 a) ∧ w'.cell? ⟨b0, o0 + 1, none⟩ = some (.int .i64 b)) ∧ Keeps w w') (first | exact PS.out _ HG.out | exact PS.out _ (Keeps.refl _).drew)
    ((go_at_call 39; refine (H1.out _).mono ?_; rintro e w2 ⟨rfl, hg⟩; have HG := Lib.hid (((Keeps.refl w).drew).trans hg); clear hg))
  go_wp2
  go_ret2
  exact ⟨_, _, _, rfl, stk_at _ _ [v] 1 _ rfl rfl (by decide), HG.out.alloc _⟩
set_option maxHeartbeats 1000000 in
theorem tells_more (N : Nat) (k : Int) (x Y : List Int) (T : Int) (ho : 29 ≤ o) (hn : (opR o).2.1 = (N : Int)) (hl : opL o = (k, true)) (hk : ((N : Int) == 1) = false ∧ ((N : Int) == 2) = false ∨ ((N : Int) == 1) = true ∧ ((N : Int) == 2) = false ∧ (k == 1) = false ∨ ((N : Int) == 1) = false ∧ ((N : Int) == 2) = true ∧ (k == 1) = false)
    (h1 : ∀ W, Stk W B N m x → Calls Tryz.prog 40 #[.int .i64 o, .slice B N m] W (PuPost W Y T)) (h : Stk w B N m x) :
    Calls Tryz.prog 26 #[.int .i64 o, .slice B N m] w (PuPost w Y T) := by
  have HO := Lib.hid ho
  have HN := Lib.hid hn
  have HL := Lib.hid hl
  have H1 := Lib.hid (h1 w h)
  clear ho hn hl h1 h
  rcases hk with ⟨k1, k2⟩ | ⟨k1, k2, k3⟩ | ⟨k1, k2, k3⟩
  all_goals
    go_enter Tryz.func26, Tryz.ntmps26
    go_wp2_with (first
      | (go_at_call 37; (with_reducible refine (or_none _ HO.out _).mono ?_); rintro e w' ⟨rfl, rfl⟩)
      | (go_at_call 27; refine (rleaves_is _ _ _ HL.out _).mono ?_; rintro e w' ⟨rfl, rfl⟩)
      | (go_at_call 23; refine (rneeds_is _ _ HN.out _).mono ?_; rintro e w' ⟨rfl, rfl⟩)
      | (go_at_call 40; (with_reducible refine H1.out.mono ?_); rintro e w2 ⟨A2, n2, q2, rfl, ho, hg⟩; have HX := Lib.hid ho; have HG := Lib.hid hg; clear ho hg))
    go_ret2
    exact ⟨_, _, _, rfl, HX.out, HG.out⟩
set_option maxHeartbeats 1000000 in
theorem tells_drop (N : Nat) (S : ByteArray) (hS : S = ⟨([45] : List UInt8).toArray⟩) (h1 : ∀ W, Calls Tryz.prog 37 #[.int .i64 o] W fun e w' => e = .returned (.string S) ∧ W = w') :
    Calls Tryz.prog 26 #[.int .i64 o, .slice B N m] w (PuPost w [] 0) := by
  subst hS
  have H1 := Lib.hid h1
  clear h1
  go_enter Tryz.func26, Tryz.ntmps26
  go_wp2_with (go_at_call 37; refine (H1.out _).mono ?_; rintro e w' ⟨rfl, rfl⟩)
  go_loopw [7, 8] (fun v i wr => v = .slice none 0 0 ∧ i = .int .i64 0 ∧ wr = w) (fun _ _ _ => 0)
  case atStart => exact ⟨rfl, rfl, rfl⟩
  case round =>
    obtain ⟨rfl, rfl, rfl⟩ := hrel
    go_wp2
    go_ret2
    exact ⟨none, 0, 0, rfl, Stk.nil, Keeps.refl _⟩
/-- A cell by its digit. -/
def digX (x : List Int) (c : UInt8) : Int := x.getD (c.toNat - 48) 0
set_option maxHeartbeats 2000000 in
theorem tells_move (N : Nat) (x : List Int) (l : List UInt8) (n : Nat) (S : ByteArray) (hS : S = ⟨l.toArray⟩) (hn : l.length = n) (h0 : 0 < n) (h9 : n ≤ 10) (hd : l ≠ [45]) (hN : N ≤ 10) (hc : ∀ j (hj : j < l.length), 48 ≤ l[j].toNat ∧ l[j].toNat - 48 < N) (h : Stk w B N m x)
    (h1 : ∀ W, Calls Tryz.prog 37 #[.int .i64 o] W fun e w' => e = .returned (.string S) ∧ W = w') :
    Calls Tryz.prog 26 #[.int .i64 o, .slice B N m] w (PuPost w (l.map (digX x)) 0) := by
  have hsz : S.size = n := by rw [hS, ← hn]; rfl
  have hget : ∀ k (hk : k < l.length) (h : k < S.size), S[k]'h = l[k] := by
    intro k hk h
    subst hS
    rfl
  have hs0 : (S.toList == []) = false := by rw [hS, ByteArray.toList_mk]; simp; intro h; rw [h] at hn; simp at hn; omega
  have hs1 : (S.toList == [45]) = false := by rw [hS, ByteArray.toList_mk]; simpa using hd
  have HX := Lib.hid h
  have HD := Lib.hid hc
  have HN := Lib.hid hn
  have HGET := Lib.hid hget
  have H1 := Lib.hid h1
  clear h1 hd hc hn hget h hS
  go_enter Tryz.func26, Tryz.ntmps26
  go_wp2_with (go_at_call 37; refine (H1.out _).mono ?_; rintro e w' ⟨rfl, rfl⟩)
  go_loopw [7, 8] (fun v i wr => ∃ (k : Nat) (A' : Option Addr) (c' : Nat), k ≤ n ∧ i = .int .i64 (k : Int) ∧ v = .slice A' k c' ∧ Own w wr A' k c' ((l.take k).map (digX x))) (fun _ i _ => ((n : Int) - intOf i).toNat)
  case atStart => exact ⟨0, none, 0, by omega, rfl, rfl, Own.nil w⟩
  case round =>
    obtain ⟨k, A3, c3, hk, rfl, rfl, hO⟩ := hrel
    have O2 := Lib.hid hO
    clear hO
    by_cases hlt : k < n
    · have hkt : k < l.length := by rw [HN.out]; exact hlt
      obtain ⟨g1, g2⟩ := HD.out k hkt
      obtain ⟨i, hi⟩ : ∃ i, l[k].toNat - 48 = i := ⟨_, rfl⟩
      obtain ⟨b1, o1, rfl, hb1, hc1⟩ := (HX.out.below O2.out.below).at_ i (by omega)
      have hch : ∀ h : k < S.size, S[k]'h = l[k] := HGET.out k hkt
      have NX : Hid ((l.take (k + 1)).map (digX x) = (l.take k).map (digX x) ++ [x.getD i 0]) := show _ = _ by
        rw [List.take_succ_eq_append_getElem hkt, List.map_append]
        simp [digX, hi]
      have hu : IntKind.u8.wrap ((l[k].toNat : Int) - 48) = (i : Int) := by
        have := l[k].toNat_lt
        rw [IntKind.wrap_u8]
        omega
      generalize l[k] = ch at hch hu g1 g2 hi
      generalize x.getD i 0 = V at hc1 NX
      have hiN : i < N := by omega
      have hi9 : (i : Int) ≤ 255 := by omega
      have hi0 : (0 : Int) ≤ (i : Int) := by omega
      clear hi
      go_wp2_with (at_builtin; refine wpList_app (W := w) rfl (.tmp 27) (.tmp 36) rfl rfl rfl ⟨O2.out.1.alloc _, O2.out.2.alloc O2.out.2.size _⟩ (stk_new _ _ [V] 1 rfl (by decide)) (by omega) ?_; intro A5 c5 w3 o3; rw [← NX.out] at o3; have O3 := Lib.hid o3; clear o3)
      go_roundw
      case rel => exact ⟨k + 1, A5, c5, by omega, by go_num, rfl, O3.out⟩
      case measure => simp [intOf]; omega
    · obtain rfl : k = n := by omega
      have HT : Hid (l.take k = l) := show _ = _ from List.take_of_length_le (by rw [HN.out]; omega)
      rw [HT.out] at O2
      go_wp2
      go_ret2
      exact ⟨_, _, _, rfl, O2.out.stk, keeps_below O2.out.below⟩
end
end Go.Proofs.YtnlkggfgloblcaaGreat

/-! From PureRefE. -/
namespace Go.Proofs.YtnlkggfgloblcaaGreat
open Go.RowKit

/-- What tells answers of an operation. -/
def TellsSays (k : Nat) : Prop := ∀ (B : Option Addr) (m N : Nat) (x : List Int) (w : World), N = puNs.getD (k - 18) 0 → Stk w B N m x → AllC x →
    Calls Tryz.prog 26 #[.int .i64 (k : Int), .slice B N m] w (PuPost w (puY k [] x) (puT k [] x))
theorem l0 {x : List Int} (h : x.length = 0) : x = [] := List.eq_nil_of_length_eq_zero h
theorem l1 {x : List Int} (h : x.length = 1) : ∃ a, x = [a] := by
  match x, h with
  | [a], _ => exact ⟨a, rfl⟩
theorem l2 {x : List Int} (h : x.length = 2) : ∃ a b, x = [a, b] := by
  match x, h with
  | [a, b], _ => exact ⟨a, b, rfl⟩
theorem l3 {x : List Int} (h : x.length = 3) : ∃ a b c, x = [a, b, c] := by
  match x, h with
  | [a, b, c], _ => exact ⟨a, b, c, rfl⟩
theorem l4 {x : List Int} (h : x.length = 4) : ∃ a b c d, x = [a, b, c, d] := by
  match x, h with
  | [a, b, c, d], _ => exact ⟨a, b, c, d, rfl⟩
theorem tl18 : TellsSays 18 := by
  intro B m N x w hN h hC
  subst hN
  obtain ⟨a, rfl⟩ := l1 (x := x) h.len
  exact tells_move 18 B m w 1 _ [48, 48] 2 _ rfl rfl (by decide) (by decide) (by decide) (by decide) (by decide) h (fun W => or18 _ rfl W)
theorem tl19 : TellsSays 19 := by
  intro B m N x w hN h hC
  subst hN
  obtain ⟨a, rfl⟩ := l1 (x := x) h.len
  exact tells_drop 19 B m w 1 _ rfl (fun W => or19 _ rfl W)
theorem tl20 : TellsSays 20 := by
  intro B m N x w hN h hC
  subst hN
  obtain ⟨a, b, rfl⟩ := l2 (x := x) h.len
  exact tells_move 20 B m w 2 _ [49, 48] 2 _ rfl rfl (by decide) (by decide) (by decide) (by decide) (by decide) h (fun W => or20 _ rfl W)
theorem tl21 : TellsSays 21 := by
  intro B m N x w hN h hC
  subst hN
  obtain ⟨a, b, rfl⟩ := l2 (x := x) h.len
  exact tells_move 21 B m w 2 _ [48, 49, 48] 3 _ rfl rfl (by decide) (by decide) (by decide) (by decide) (by decide) h (fun W => or21 _ rfl W)
theorem tl22 : TellsSays 22 := by
  intro B m N x w hN h hC
  subst hN
  obtain ⟨a, b, c, rfl⟩ := l3 (x := x) h.len
  exact tells_move 22 B m w 3 _ [49, 50, 48] 3 _ rfl rfl (by decide) (by decide) (by decide) (by decide) (by decide) h (fun W => or22 _ rfl W)
theorem tl23 : TellsSays 23 := by
  intro B m N x w hN h hC
  subst hN
  obtain ⟨a, b, rfl⟩ := l2 (x := x) h.len
  exact tells_move 23 B m w 2 _ [49] 1 _ rfl rfl (by decide) (by decide) (by decide) (by decide) (by decide) h (fun W => or23 _ rfl W)
theorem tl24 : TellsSays 24 := by
  intro B m N x w hN h hC
  subst hN
  obtain ⟨a, b, rfl⟩ := l2 (x := x) h.len
  exact tells_move 24 B m w 2 _ [49, 48, 49] 3 _ rfl rfl (by decide) (by decide) (by decide) (by decide) (by decide) h (fun W => or24 _ rfl W)
theorem tl25 : TellsSays 25 := by
  intro B m N x w hN h hC
  subst hN
  obtain ⟨a, b, rfl⟩ := l2 (x := x) h.len
  exact tells_move 25 B m w 2 _ [48, 49, 48, 49] 4 _ rfl rfl (by decide) (by decide) (by decide) (by decide) (by decide) h (fun W => or25 _ rfl W)
theorem tl26 : TellsSays 26 := by
  intro B m N x w hN h hC
  subst hN
  obtain ⟨a, b, rfl⟩ := l2 (x := x) h.len
  exact tells_drop 26 B m w 2 _ rfl (fun W => or26 _ rfl W)
theorem tl27 : TellsSays 27 := by
  intro B m N x w hN h hC
  subst hN
  obtain ⟨a, b, c, d, rfl⟩ := l4 (x := x) h.len
  exact tells_move 27 B m w 4 _ [50, 51, 48, 49] 4 _ rfl rfl (by decide) (by decide) (by decide) (by decide) (by decide) h (fun W => or27 _ rfl W)
theorem tl28 : TellsSays 28 := by
  intro B m N x w hN h hC
  subst hN
  obtain ⟨a, b, c, d, rfl⟩ := l4 (x := x) h.len
  exact tells_move 28 B m w 4 _ [48, 49, 50, 51, 48, 49] 6 _ rfl rfl (by decide) (by decide) (by decide) (by decide) (by decide) h (fun W => or28 _ rfl W)
theorem tl33 : TellsSays 33 := by
  intro B m N x w hN h hC
  subst hN
  obtain ⟨a, b, rfl⟩ := l2 (x := x) h.len
  exact tells_two 33 B m w a b _ _ (by decide) (by decide +kernel) (by decide +kernel) h (fun W => rt33 a b (hC _ (by simp)) (hC _ (by simp)) W)
theorem tl34 : TellsSays 34 := by
  intro B m N x w hN h hC
  subst hN
  obtain ⟨a, b, rfl⟩ := l2 (x := x) h.len
  exact tells_two 34 B m w a b _ _ (by decide) (by decide +kernel) (by decide +kernel) h (fun W => rt34 a b (hC _ (by simp)) (hC _ (by simp)) W)
theorem tl35 : TellsSays 35 := by
  intro B m N x w hN h hC
  subst hN
  obtain ⟨a, b, rfl⟩ := l2 (x := x) h.len
  exact tells_two 35 B m w a b _ _ (by decide) (by decide +kernel) (by decide +kernel) h (fun W => rt35 a b (hC _ (by simp)) (hC _ (by simp)) W)
theorem tl36 : TellsSays 36 := by
  intro B m N x w hN h hC
  subst hN
  obtain ⟨a, b, rfl⟩ := l2 (x := x) h.len
  exact tells_two 36 B m w a b _ _ (by decide) (by decide +kernel) (by decide +kernel) h (fun W => rt36 a b (hC _ (by simp)) (hC _ (by simp)) W)
theorem tl37 : TellsSays 37 := by
  intro B m N x w hN h hC
  subst hN
  obtain ⟨a, b, rfl⟩ := l2 (x := x) h.len
  exact tells_two 37 B m w a b _ _ (by decide) (by decide +kernel) (by decide +kernel) h (fun W => rt37 a b (hC _ (by simp)) (hC _ (by simp)) W)
theorem tl38 : TellsSays 38 := by
  intro B m N x w hN h hC
  subst hN
  obtain ⟨a, b, rfl⟩ := l2 (x := x) h.len
  exact tells_more 38 B m w 2 2 _ _ _ (by decide) (by decide +kernel) (by decide +kernel) (Or.inr (Or.inr ⟨rfl, rfl, rfl⟩)) (fun W h => rm38 B m a b (hC _ (by simp)) (hC _ (by simp)) W h) h
theorem tl39 : TellsSays 39 := by
  intro B m N x w hN h hC
  subst hN
  obtain ⟨a, b, c, rfl⟩ := l3 (x := x) h.len
  exact tells_more 39 B m w 3 1 _ _ _ (by decide) (by decide +kernel) (by decide +kernel) (Or.inl ⟨rfl, rfl⟩) (fun W h => rm39 B m a b c (hC _ (by simp)) (hC _ (by simp)) (hC _ (by simp)) W h) h
theorem tl40 : TellsSays 40 := by
  intro B m N x w hN h hC
  subst hN
  obtain ⟨a, b, c, rfl⟩ := l3 (x := x) h.len
  exact tells_more 40 B m w 3 2 _ _ _ (by decide) (by decide +kernel) (by decide +kernel) (Or.inl ⟨rfl, rfl⟩) (fun W h => rm40 B m a b c (hC _ (by simp)) (hC _ (by simp)) (hC _ (by simp)) W h) h
theorem tl41 : TellsSays 41 := by
  intro B m N x w hN h hC
  subst hN
  obtain ⟨a, rfl⟩ := l1 (x := x) h.len
  exact tells_one 41 B m w a _ (by decide) (by decide +kernel) (by decide +kernel) h (fun W => ro41 a (hC _ (by simp)) W)
theorem tl42 : TellsSays 42 := by
  intro B m N x w hN h hC
  subst hN
  obtain ⟨a, rfl⟩ := l1 (x := x) h.len
  exact tells_one 42 B m w a _ (by decide) (by decide +kernel) (by decide +kernel) h (fun W => ro42 a (hC _ (by simp)) W)
theorem tl43 : TellsSays 43 := by
  intro B m N x w hN h hC
  subst hN
  obtain ⟨a, rfl⟩ := l1 (x := x) h.len
  exact tells_one 43 B m w a _ (by decide) (by decide +kernel) (by decide +kernel) h (fun W => ro43 a (hC _ (by simp)) W)
theorem tl44 : TellsSays 44 := by
  intro B m N x w hN h hC
  subst hN
  obtain ⟨a, rfl⟩ := l1 (x := x) h.len
  exact tells_one 44 B m w a _ (by decide) (by decide +kernel) (by decide +kernel) h (fun W => ro44 a (hC _ (by simp)) W)
theorem tl45 : TellsSays 45 := by
  intro B m N x w hN h hC
  subst hN
  obtain ⟨a, rfl⟩ := l1 (x := x) h.len
  exact tells_one 45 B m w a _ (by decide) (by decide +kernel) (by decide +kernel) h (fun W => ro45 a (hC _ (by simp)) W)
theorem tl46 : TellsSays 46 := by
  intro B m N x w hN h hC
  subst hN
  obtain ⟨a, rfl⟩ := l1 (x := x) h.len
  exact tells_one 46 B m w a _ (by decide) (by decide +kernel) (by decide +kernel) h (fun W => ro46 a (hC _ (by simp)) W)
theorem tl47 : TellsSays 47 := by
  intro B m N x w hN h hC
  subst hN
  obtain ⟨a, b, rfl⟩ := l2 (x := x) h.len
  exact tells_two 47 B m w a b _ _ (by decide) (by decide +kernel) (by decide +kernel) h (fun W => rt47 a b (hC _ (by simp)) (hC _ (by simp)) W)
theorem tl48 : TellsSays 48 := by
  intro B m N x w hN h hC
  subst hN
  obtain ⟨a, b, rfl⟩ := l2 (x := x) h.len
  exact tells_two 48 B m w a b _ _ (by decide) (by decide +kernel) (by decide +kernel) h (fun W => rt48 a b (hC _ (by simp)) (hC _ (by simp)) W)
theorem tl49 : TellsSays 49 := by
  intro B m N x w hN h hC
  subst hN
  obtain ⟨a, b, rfl⟩ := l2 (x := x) h.len
  exact tells_two 49 B m w a b _ _ (by decide) (by decide +kernel) (by decide +kernel) h (fun W => rt49 a b (hC _ (by simp)) (hC _ (by simp)) W)
theorem tl50 : TellsSays 50 := by
  intro B m N x w hN h hC
  subst hN
  obtain ⟨a, b, rfl⟩ := l2 (x := x) h.len
  exact tells_two 50 B m w a b _ _ (by decide) (by decide +kernel) (by decide +kernel) h (fun W => rt50 a b (hC _ (by simp)) (hC _ (by simp)) W)
theorem tl51 : TellsSays 51 := by
  intro B m N x w hN h hC
  subst hN
  obtain ⟨a, b, rfl⟩ := l2 (x := x) h.len
  exact tells_two 51 B m w a b _ _ (by decide) (by decide +kernel) (by decide +kernel) h (fun W => rt51 a b (hC _ (by simp)) (hC _ (by simp)) W)
theorem tl52 : TellsSays 52 := by
  intro B m N x w hN h hC
  subst hN
  obtain ⟨a, rfl⟩ := l1 (x := x) h.len
  exact tells_one 52 B m w a _ (by decide) (by decide +kernel) (by decide +kernel) h (fun W => ro52 a (hC _ (by simp)) W)
theorem tl53 : TellsSays 53 := by
  intro B m N x w hN h hC
  subst hN
  obtain ⟨a, b, rfl⟩ := l2 (x := x) h.len
  exact tells_two 53 B m w a b _ _ (by decide) (by decide +kernel) (by decide +kernel) h (fun W => rt53 a b (hC _ (by simp)) (hC _ (by simp)) W)
theorem tl54 : TellsSays 54 := by
  intro B m N x w hN h hC
  subst hN
  obtain ⟨a, b, rfl⟩ := l2 (x := x) h.len
  exact tells_two 54 B m w a b _ _ (by decide) (by decide +kernel) (by decide +kernel) h (fun W => rt54 a b (hC _ (by simp)) (hC _ (by simp)) W)
theorem tl55 : TellsSays 55 := by
  intro B m N x w hN h hC
  subst hN
  obtain ⟨a, b, rfl⟩ := l2 (x := x) h.len
  exact tells_two 55 B m w a b _ _ (by decide) (by decide +kernel) (by decide +kernel) h (fun W => rt55 a b (hC _ (by simp)) (hC _ (by simp)) W)
theorem tl56 : TellsSays 56 := by
  intro B m N x w hN h hC
  subst hN
  obtain ⟨a, b, rfl⟩ := l2 (x := x) h.len
  exact tells_two 56 B m w a b _ _ (by decide) (by decide +kernel) (by decide +kernel) h (fun W => rt56 a b (hC _ (by simp)) (hC _ (by simp)) W)
theorem tl57 : TellsSays 57 := by
  intro B m N x w hN h hC
  subst hN
  obtain ⟨a, b, rfl⟩ := l2 (x := x) h.len
  exact tells_two 57 B m w a b _ _ (by decide) (by decide +kernel) (by decide +kernel) h (fun W => rt57 a b (hC _ (by simp)) (hC _ (by simp)) W)
theorem tl58 : TellsSays 58 := by
  intro B m N x w hN h hC
  subst hN
  obtain ⟨a, b, rfl⟩ := l2 (x := x) h.len
  exact tells_two 58 B m w a b _ _ (by decide) (by decide +kernel) (by decide +kernel) h (fun W => rt58 a b (hC _ (by simp)) (hC _ (by simp)) W)
theorem tl59 : TellsSays 59 := by
  intro B m N x w hN h hC
  subst hN
  obtain ⟨a, b, rfl⟩ := l2 (x := x) h.len
  exact tells_two 59 B m w a b _ _ (by decide) (by decide +kernel) (by decide +kernel) h (fun W => rt59 a b (hC _ (by simp)) (hC _ (by simp)) W)
theorem tl60 : TellsSays 60 := by
  intro B m N x w hN h hC
  subst hN
  obtain ⟨a, rfl⟩ := l1 (x := x) h.len
  exact tells_one 60 B m w a _ (by decide) (by decide +kernel) (by decide +kernel) h (fun W => ro60 a (hC _ (by simp)) W)
theorem tl61 : TellsSays 61 := by
  intro B m N x w hN h hC
  subst hN
  obtain ⟨a, rfl⟩ := l1 (x := x) h.len
  exact tells_one 61 B m w a _ (by decide) (by decide +kernel) (by decide +kernel) h (fun W => ro61 a (hC _ (by simp)) W)
theorem tl62 : TellsSays 62 := by
  intro B m N x w hN h hC
  subst hN
  obtain ⟨a, b, c, rfl⟩ := l3 (x := x) h.len
  exact tells_more 62 B m w 3 1 _ _ _ (by decide) (by decide +kernel) (by decide +kernel) (Or.inl ⟨rfl, rfl⟩) (fun W h => rm62 B m a b c (hC _ (by simp)) (hC _ (by simp)) (hC _ (by simp)) W h) h
theorem tl63 : TellsSays 63 := by
  intro B m N x w hN h hC
  subst hN
  obtain ⟨a, b, rfl⟩ := l2 (x := x) h.len
  exact tells_more 63 B m w 2 2 _ _ _ (by decide) (by decide +kernel) (by decide +kernel) (Or.inr (Or.inr ⟨rfl, rfl, rfl⟩)) (fun W h => rm63 B m a b (hC _ (by simp)) (hC _ (by simp)) W h) h
theorem tl64 : TellsSays 64 := by
  intro B m N x w hN h hC
  subst hN
  obtain ⟨a, b, rfl⟩ := l2 (x := x) h.len
  exact tells_more 64 B m w 2 2 _ _ _ (by decide) (by decide +kernel) (by decide +kernel) (Or.inr (Or.inr ⟨rfl, rfl, rfl⟩)) (fun W h => rm64 B m a b (hC _ (by simp)) (hC _ (by simp)) W h) h
theorem tl65 : TellsSays 65 := by
  intro B m N x w hN h hC
  subst hN
  obtain ⟨a, b, c, rfl⟩ := l3 (x := x) h.len
  exact tells_more 65 B m w 3 2 _ _ _ (by decide) (by decide +kernel) (by decide +kernel) (Or.inl ⟨rfl, rfl⟩) (fun W h => rm65 B m a b c (hC _ (by simp)) (hC _ (by simp)) (hC _ (by simp)) W h) h
theorem tl66 : TellsSays 66 := by
  intro B m N x w hN h hC
  subst hN
  obtain ⟨a, b, c, rfl⟩ := l3 (x := x) h.len
  exact tells_more 66 B m w 3 2 _ _ _ (by decide) (by decide +kernel) (by decide +kernel) (Or.inl ⟨rfl, rfl⟩) (fun W h => rm66 B m a b c (hC _ (by simp)) (hC _ (by simp)) (hC _ (by simp)) W h) h
theorem tl67 : TellsSays 67 := by
  intro B m N x w hN h hC
  subst hN
  obtain ⟨a, b, c, rfl⟩ := l3 (x := x) h.len
  exact tells_more 67 B m w 3 2 _ _ _ (by decide) (by decide +kernel) (by decide +kernel) (Or.inl ⟨rfl, rfl⟩) (fun W h => rm67 B m a b c (hC _ (by simp)) (hC _ (by simp)) (hC _ (by simp)) W h) h
theorem tl68 : TellsSays 68 := by
  intro B m N x w hN h hC
  subst hN
  obtain ⟨a, rfl⟩ := l1 (x := x) h.len
  exact tells_more 68 B m w 1 2 _ _ _ (by decide) (by decide +kernel) (by decide +kernel) (Or.inr (Or.inl ⟨rfl, rfl, rfl⟩)) (fun W h => rm68 B m a (hC _ (by simp)) W h) h
theorem tl69 : TellsSays 69 := by
  intro B m N x w hN h hC
  subst hN
  obtain ⟨a, b, c, d, rfl⟩ := l4 (x := x) h.len
  exact tells_more 69 B m w 4 2 _ _ _ (by decide) (by decide +kernel) (by decide +kernel) (Or.inl ⟨rfl, rfl⟩) (fun W h => rm69 B m a b c d (hC _ (by simp)) (hC _ (by simp)) (hC _ (by simp)) (hC _ (by simp)) W h) h
theorem tl70 : TellsSays 70 := by
  intro B m N x w hN h hC
  subst hN
  obtain ⟨a, b, rfl⟩ := l2 (x := x) h.len
  exact tells_more 70 B m w 2 2 _ _ _ (by decide) (by decide +kernel) (by decide +kernel) (Or.inr (Or.inr ⟨rfl, rfl, rfl⟩)) (fun W h => rm70 B m a b (hC _ (by simp)) (hC _ (by simp)) W h) h
theorem tl71 : TellsSays 71 := by
  intro B m N x w hN h hC
  subst hN
  obtain ⟨a, rfl⟩ := l1 (x := x) h.len
  exact tells_one 71 B m w a _ (by decide) (by decide +kernel) (by decide +kernel) h (fun W => ro71 a (hC _ (by simp)) W)
theorem tl72 : TellsSays 72 := by
  intro B m N x w hN h hC
  subst hN
  obtain ⟨a, rfl⟩ := l1 (x := x) h.len
  exact tells_one 72 B m w a _ (by decide) (by decide +kernel) (by decide +kernel) h (fun W => ro72 a (hC _ (by simp)) W)
theorem tl73 : TellsSays 73 := by
  intro B m N x w hN h hC
  subst hN
  obtain ⟨a, rfl⟩ := l1 (x := x) h.len
  exact tells_one 73 B m w a _ (by decide) (by decide +kernel) (by decide +kernel) h (fun W => ro73 a (hC _ (by simp)) W)
theorem tl74 : TellsSays 74 := by
  intro B m N x w hN h hC
  subst hN
  obtain ⟨a, rfl⟩ := l1 (x := x) h.len
  exact tells_one 74 B m w a _ (by decide) (by decide +kernel) (by decide +kernel) h (fun W => ro74 a (hC _ (by simp)) W)
theorem tells_any (k : Nat) (h1 : 18 ≤ k) (h2 : k ≤ 74) (h : k < 29 ∨ 32 < k) : TellsSays k := by
  rcases op_split k h1 h2 with rfl | rfl | rfl | rfl | rfl | rfl | rfl | rfl | rfl | rfl | rfl | rfl | rfl | rfl | rfl | rfl | rfl | rfl | rfl | rfl | rfl | rfl | rfl | rfl | rfl | rfl | rfl | rfl | rfl | rfl | rfl | rfl | rfl | rfl | rfl | rfl | rfl | rfl | rfl | rfl | rfl | rfl | rfl | rfl | rfl | rfl | rfl | rfl | rfl | rfl | rfl | rfl | rfl | rfl | rfl | rfl | rfl
  · exact tl18
  · exact tl19
  · exact tl20
  · exact tl21
  · exact tl22
  · exact tl23
  · exact tl24
  · exact tl25
  · exact tl26
  · exact tl27
  · exact tl28
  · omega
  · omega
  · omega
  · omega
  · exact tl33
  · exact tl34
  · exact tl35
  · exact tl36
  · exact tl37
  · exact tl38
  · exact tl39
  · exact tl40
  · exact tl41
  · exact tl42
  · exact tl43
  · exact tl44
  · exact tl45
  · exact tl46
  · exact tl47
  · exact tl48
  · exact tl49
  · exact tl50
  · exact tl51
  · exact tl52
  · exact tl53
  · exact tl54
  · exact tl55
  · exact tl56
  · exact tl57
  · exact tl58
  · exact tl59
  · exact tl60
  · exact tl61
  · exact tl62
  · exact tl63
  · exact tl64
  · exact tl65
  · exact tl66
  · exact tl67
  · exact tl68
  · exact tl69
  · exact tl70
  · exact tl71
  · exact tl72
  · exact tl73
  · exact tl74
/-- A throw lays no more than was needed. -/
theorem puT_few (k : Nat) (h1 : 18 ≤ k) (h2 : k ≤ 74) (h : k < 29 ∨ 32 < k) (l x : List Int) (hT : puT k l x ≠ 0) : (puY k l x).length ≤ puNs.getD (k - 18) 0 := by
  rcases op_split k h1 h2 with rfl | rfl | rfl | rfl | rfl | rfl | rfl | rfl | rfl | rfl | rfl | rfl | rfl | rfl | rfl | rfl | rfl | rfl | rfl | rfl | rfl | rfl | rfl | rfl | rfl | rfl | rfl | rfl | rfl | rfl | rfl | rfl | rfl | rfl | rfl | rfl | rfl | rfl | rfl | rfl | rfl | rfl | rfl | rfl | rfl | rfl | rfl | rfl | rfl | rfl | rfl | rfl | rfl | rfl | rfl | rfl | rfl
  · exact absurd rfl hT
  · exact absurd rfl hT
  · exact absurd rfl hT
  · exact absurd rfl hT
  · exact absurd rfl hT
  · exact absurd rfl hT
  · exact absurd rfl hT
  · exact absurd rfl hT
  · exact absurd rfl hT
  · exact absurd rfl hT
  · exact absurd rfl hT
  · omega
  · omega
  · omega
  · omega
  · exact absurd rfl hT
  · exact absurd rfl hT
  · exact absurd rfl hT
  · exact Nat.le_of_ble_eq_true rfl
  · exact Nat.le_of_ble_eq_true rfl
  · exact Nat.le_of_ble_eq_true rfl
  · exact Nat.le_of_ble_eq_true rfl
  · exact Nat.le_of_ble_eq_true rfl
  · exact absurd rfl hT
  · exact absurd rfl hT
  · exact absurd rfl hT
  · exact absurd rfl hT
  · exact absurd rfl hT
  · exact absurd rfl hT
  · exact absurd rfl hT
  · exact absurd rfl hT
  · exact absurd rfl hT
  · exact absurd rfl hT
  · exact absurd rfl hT
  · exact absurd rfl hT
  · exact absurd rfl hT
  · exact absurd rfl hT
  · exact absurd rfl hT
  · exact absurd rfl hT
  · exact absurd rfl hT
  · exact absurd rfl hT
  · exact absurd rfl hT
  · exact absurd rfl hT
  · exact absurd rfl hT
  · exact absurd rfl hT
  · exact absurd rfl hT
  · exact absurd rfl hT
  · exact Nat.le_of_ble_eq_true rfl
  · exact Nat.le_of_ble_eq_true rfl
  · exact Nat.le_of_ble_eq_true rfl
  · exact absurd rfl hT
  · exact absurd rfl hT
  · exact absurd rfl hT
  · exact absurd rfl hT
  · exact absurd rfl hT
  · exact absurd rfl hT
  · exact absurd rfl hT
end Go.Proofs.YtnlkggfgloblcaaGreat

/-! From PureRefF. -/
namespace Go.Proofs.YtnlkggfgloblcaaGreat
open Go.RowKit

/-- What Do says of a stack in two parts. -/
theorem do_at {k : Nat} (h1 : 18 ≤ k) (h2 : k ≤ 74) {l x : List Int} (hx : x.length = puNs.getD (k - 18) 0) (hL : l.length + x.length ≤ 64) :
    doE (k : Int) (l ++ x) = puE k l x ∧ (puE k l x = 0 → doL (k : Int) (l ++ x) = puL k l x) := by
  have hg : puG (k : Int) = true := by rw [puG_is]; exact decide_eq_true (by omega)
  have hn : puN (k : Int) = x.length := by rw [puN_at k h1 h2, hx]
  have e1 : (l ++ x).length - puN (k : Int) = l.length := by rw [hn]; simp
  have e2 : (l ++ x).take l.length = l := by simp
  have e3 : (l ++ x).drop l.length = x := by simp
  have hEE : doE (k : Int) (l ++ x) = puE k l x := by
    unfold doE
    rw [if_neg (by rw [hg]; decide), if_neg (by rw [hn]; simp), if_neg (by simp; omega), e1, e2, e3]
    rfl
  refine ⟨hEE, fun h0 => ?_⟩
  unfold doL
  rw [if_pos (hEE.trans h0), e1, e2, e3]
  rfl
theorem pu_any {w : World} {l l' : List Int} {t t' : Int} {e : Ending} {w' : World} (h : PuPost w l t e w') (hl : l = l') (ht : t = t') : PuPost w l' t' e w' := hl ▸ ht ▸ h
/-- What special answers: where it throws, whatever stack beside it. -/
def SpPost (w : World) (L : List Int) (E : Int) (e : Ending) (w' : World) : Prop := ∃ A n c L', e = .returned (.tuple #[.slice A n c, .int .i64 E]) ∧ Stk w' A n c L' ∧ (E = 0 → L' = L) ∧ Keeps w w'
def SpSays (k : Nat) : Prop := ∀ (A : Option Addr) (n q : Nat) (d : List Int) (w : World), puNs.getD (k - 18) 0 ≤ n → n ≤ 64 → Stk w A n q d →
    Calls Tryz.prog 24 #[.int .i64 (k : Int), .slice A n q] w (SpPost w (doL (k : Int) d) (doE (k : Int) d))
theorem sp_ret {w w' : World} {A : Option Addr} {n c : Nat} {L L' : List Int} {E E' : Int} (h : Stk w' A n c L') (k : Keeps w w') (hE : E' = E) (hL : E = 0 → L' = L) : SpPost w L E (.returned (.tuple #[.slice A n c, .int .i64 E'])) w' := by
  subst hE
  exact ⟨A, n, c, L', rfl, h, hL, k⟩
set_option maxHeartbeats 1000000 in
theorem sp32 : SpSays 32 := by
  intro A n q d w _ h64 h
  have hl := h.len
  obtain ⟨hE, hL⟩ := do_at (k := 32) (by decide) (by decide) (l := d) (x := []) rfl (by simp; omega)
  rw [List.append_nil] at hE hL
  have P : ∀ W B, Stk W A n q d → Stk W B 1 1 [(n : Int)] → Calls Tryz.prog 34 #[.slice A n q, .int .i64 64, .slice B 1 1] W (StkPost W (pushL d [(n : Int)] 64) (pushE (d.length + 1) 64)) := fun W B h1 h2 => rpush_any A n q d 64 B 1 1 [(n : Int)] W (by omega) (by omega) h1 h2
  have HP := Lib.hid P
  have HE : Hid (pushE (d.length + 1) 64 = doE ((32 : Nat) : Int) d) := hE.symm
  have HL : Hid (pushE (d.length + 1) 64 = 0 → pushL d [(n : Int)] 64 = doL ((32 : Nat) : Int) d) := fun h0 => by rw [hL h0, ← hl]; rfl
  have H1 := Lib.hid h
  clear hE hL P h hl
  go_enter Tryz.func24, Tryz.ntmps24
  go_wp2_with (go_at_call 34; refine (HP.out _ _ (H1.out.alloc _) (stk_new _ _ [(n : Int)] 1 rfl (by decide))).mono ?_; rintro e w2 ⟨A2, n2, q2, rfl, ho, hb⟩; have HO := Lib.hid ho; have HK := Lib.hid (((Keeps.refl w).alloc _).trans (keeps_below hb)); clear ho hb)
  go_ret2
  exact sp_ret HO.out HK.out HE.out (fun h0 => HL.out (HE.out.trans h0))
/-- A stack whose last cell is known. -/
theorem last1 {d : List Int} (h : 1 ≤ d.length) : ∃ l a, d = l ++ [a] := by
  have h1 : (d.drop (d.length - 1)).length = 1 := by simp; omega
  match hx : d.drop (d.length - 1), h1 with
  | [a], _ => exact ⟨d.take (d.length - 1), a, by rw [← hx, List.take_append_drop]⟩
/-- The last cell, popped. -/
theorem rpop_one (A : Option Addr) (j c : Nat) (l : List Int) (a : Int) (w : World) (hn : j + 1 ≤ 10000) (h1 : Stk w A (j + 1) c (l ++ [a])) :
    Calls Tryz.prog 25 #[.slice A (j + 1) c, .int .i64 1] w fun e w' => ∃ A1 c1 b o d, e = .returned (.tuple #[.slice A1 j c1, .slice (some ⟨b, o, none⟩) 1 d, .int .i64 0]) ∧ Stk w' A1 j c1 l ∧ Stk w' (some ⟨b, o, none⟩) 1 d [a] ∧ w'.cell? ⟨b, o, none⟩ = some (.int .i64 a) ∧ b < w'.heap.size ∧ Keeps w w' := by
  have hl := h1.len
  rw [List.length_append] at hl
  have hj : l.length = j := by simp at hl; exact hl
  refine (rpop_ow A j 1 c (l ++ [a]) w hn h1).mono ?_
  rintro e w' ⟨A1, c1, B, d, rfl, h2, _, h3, h4⟩
  rw [← hj, List.take_left] at h2
  rw [← hj, List.drop_left] at h3
  obtain ⟨b, o, rfl, hb, hc⟩ := h3.at0 (by decide)
  exact ⟨A1, c1, b, o, d, rfl, hj ▸ h2, h3, hc 0 (by simp), hb, h4⟩
set_option maxHeartbeats 1000000 in
theorem sp29 : SpSays 29 := by
  intro A n q d w hN h64 h
  have hl := h.len
  have hN' : 1 ≤ n := hN
  obtain ⟨l, a, rfl⟩ := last1 (d := d) (by omega)
  obtain ⟨j, rfl⟩ : ∃ j, n = j + 1 := ⟨n - 1, by omega⟩
  have hj : l.length = j := by simp at hl; exact hl
  obtain ⟨hE, hL⟩ := do_at (k := 29) (by decide) (by decide) (l := l) (x := [a]) rfl (by simp; omega)
  have P := fun W h1 => rpop_one A j q l a W (by omega) h1
  have HP := Lib.hid P
  have H1 := Lib.hid h
  by_cases ha : a = 0
  · have hE0 : puE 29 l [a] = 0 := by
      subst ha
      show unE 0 l.length (puY 29 l [0]).length = 0
      rw [unE_ok]
      exact pushE_ok (pushB_no (by show ((l.length + 1 : Nat) : Int) ≤ 64; omega))
    have hL0 : doL ((29 : Nat) : Int) (l ++ [a]) = l ++ [a] := by
      rw [hL hE0]
      have := (puE_zero (k := 29) (by decide) hE0).2.2
      rw [this]
      subst ha
      rfl
    have HE : Hid (0 = doE ((29 : Nat) : Int) (l ++ [a])) := (hE.trans hE0).symm
    have HL : Hid (l ++ [a] = doL ((29 : Nat) : Int) (l ++ [a])) := hL0.symm
    have hd : (a == 0) = true := by simpa using ha
    clear hE hL P h hl hE0 hL0 ha
    go_enter Tryz.func24, Tryz.ntmps24
    go_wp2_with (go_at_call 25; refine (HP.out _ H1.out).mono ?_; rintro e w2 ⟨A2, q2, b2, o2, d2, rfl, h2, h3, c2, hb2, hk⟩; have HK := Lib.hid hk; clear h2 h3 hk)
    go_ret2
    exact sp_ret (H1.out.keeps HK.out) HK.out HE.out (fun _ => HL.out)
  · have hY : puY 29 l [a] = [a, a] := if_neg ha
    have hpe : puE 29 l [a] = pushE (l.length + 2) 64 := by
      show unE 0 l.length (puY 29 l [a]).length = _
      rw [hY, unE_ok]
      rfl
    have HE : Hid (pushE (l.length + 1 + 1) 64 = doE ((29 : Nat) : Int) (l ++ [a])) := (hE.trans hpe).symm
    have HL : Hid (doE ((29 : Nat) : Int) (l ++ [a]) = 0 → pushL (l ++ [a]) [a] 64 = doL ((29 : Nat) : Int) (l ++ [a])) := show _ → _ = _ from fun h0 => by
      have h1 := hE.symm.trans h0
      have h3 := (puE_zero (k := 29) (by decide) h1).2
      rw [hL h1, h3.2, hY, pushL_ok (pushB_no (by have := h3.1; rw [hY] at this; simp at this ⊢; omega)), List.append_assoc]
      rfl
    have hd : (a == 0) = false := by simpa using ha
    have HPU := Lib.hid fun W B m h1 h2 => rpush_any A (j + 1) q (l ++ [a]) 64 B 1 m [a] W (by omega) (by omega) h1 h2
    clear hE hL P h hl hY hpe ha hj
    go_enter Tryz.func24, Tryz.ntmps24
    go_wp2_with (first
      | (go_at_call 25; refine (HP.out _ H1.out).mono ?_; rintro e w2 ⟨A2, q2, b2, o2, d2, rfl, h2, h3, c2, hb2, hk⟩; have HK := Lib.hid hk; have HX := Lib.hid h3; clear h2 h3 hk)
      | (go_at_call 34; refine (HPU.out _ _ _ (H1.out.keeps HK.out) HX.out).mono ?_; rintro e w3 ⟨A3, n3, q3, rfl, ho, hb⟩; have HO := Lib.hid ho; have HK3 := Lib.hid (HK.out.trans (keeps_below hb)); clear ho hb))
    go_ret2
    exact sp_ret HO.out HK3.out HE.out HL.out
set_option maxHeartbeats 1000000 in
theorem sp30 : SpSays 30 := by
  intro A n q d w hN h64 h
  have hl := h.len
  have hN' : 1 ≤ n := hN
  obtain ⟨l, a, rfl⟩ := last1 (d := d) (by omega)
  obtain ⟨j, rfl⟩ : ∃ j, n = j + 1 := ⟨n - 1, by omega⟩
  have hj : l.length = j := by simp at hl; exact hl
  obtain ⟨hE, hL⟩ := do_at (k := 30) (by decide) (by decide) (l := l) (x := [a]) rfl (by simp; omega)
  have HP := Lib.hid fun W h1 => rpop_one A j q l a W (by omega) h1
  have H1 := Lib.hid h
  have HPI := Lib.hid fun W B c h1 => rpick_any B j c l a W (by omega) h1
  by_cases hp : pickE l.length a = 0
  · have hpe : puE 30 l [a] = pushE (l.length + 1) 64 := by
      show unE (pickE l.length a) l.length 1 = _
      rw [hp, unE_ok]
    have HE : Hid (pushE (l.length + 1) 64 = doE ((30 : Nat) : Int) (l ++ [a])) := (hE.trans hpe).symm
    have HL : Hid (doE ((30 : Nat) : Int) (l ++ [a]) = 0 → pushL l [pickX l a] 64 = doL ((30 : Nat) : Int) (l ++ [a])) := show _ → _ = _ from fun h0 => by
      rw [hL (hE.symm.trans h0)]
      show _ = unL (pickE l.length a) l [pickX l a]
      rw [hp, unL_ok]
    have HPU := Lib.hid fun W A B c h1 h2 => rpush_any A j c l 64 B 1 1 [pickX l a] W (by omega) (by omega) h1 h2
    rw [hp] at HPI
    clear hE hL h hl hpe hp hj
    generalize pickX l a = V at *
    go_enter Tryz.func24, Tryz.ntmps24
    go_wp2_with (first
      | (go_at_call 25; refine (HP.out _ H1.out).mono ?_; rintro e w2 ⟨A2, q2, b2, o2, d2, rfl, h2, h3, c2, hb2, hk⟩; have HK := Lib.hid hk; have HX := Lib.hid h2; clear h2 h3 hk)
      | (go_at_call 35; refine (HPI.out _ _ _ HX.out).mono ?_; rintro e w' ⟨rfl, rfl⟩)
      | (go_at_call 34; refine (HPU.out _ _ _ _ (HX.out.alloc _) (stk_new _ _ [V] 1 rfl (by decide))).mono ?_; rintro e w3 ⟨A3, n3, q3, rfl, ho, hb⟩; have HO := Lib.hid ho; have HK3 := Lib.hid ((HK.out.alloc _).trans (keeps_below hb)); clear ho hb))
    go_ret2
    exact sp_ret HO.out HK3.out HE.out HL.out
  · have hpe : puE 30 l [a] = pickE l.length a := unE_no hp _ _
    have HE : Hid (pickE l.length a = doE ((30 : Nat) : Int) (l ++ [a])) := (hE.trans hpe).symm
    have hne : (pickE l.length a != 0) = true := by simpa using hp
    have HNE := Lib.hid hp
    clear hE hL h hl hpe hp
    generalize pickX l a = V at *
    generalize pickE l.length a = E at *
    go_enter Tryz.func24, Tryz.ntmps24
    go_wp2_with (first
      | (go_at_call 25; refine (HP.out _ H1.out).mono ?_; rintro e w2 ⟨A2, q2, b2, o2, d2, rfl, h2, h3, c2, hb2, hk⟩; have HK := Lib.hid hk; have HX := Lib.hid h2; clear h2 h3 hk)
      | (go_at_call 35; refine (HPI.out _ _ _ HX.out).mono ?_; rintro e w' ⟨rfl, rfl⟩))
    go_ret2
    exact sp_ret (H1.out.keeps HK.out) HK.out HE.out (fun h0 => absurd (HE.out.trans h0) HNE.out)
set_option maxHeartbeats 1000000 in
theorem sp31 : SpSays 31 := by
  intro A n q d w hN h64 h
  have hl := h.len
  have hN' : 1 ≤ n := hN
  obtain ⟨l, a, rfl⟩ := last1 (d := d) (by omega)
  obtain ⟨j, rfl⟩ : ∃ j, n = j + 1 := ⟨n - 1, by omega⟩
  have hj : l.length = j := by simp at hl; exact hl
  obtain ⟨hE, hL⟩ := do_at (k := 31) (by decide) (by decide) (l := l) (x := [a]) rfl (by simp; omega)
  have HP := Lib.hid fun W h1 => rpop_one A j q l a W (by omega) h1
  have H1 := Lib.hid h
  have HRO := fun W B c h1 => rroll_any B j c l a W (by omega) h1
  have HE : Hid (pickE l.length a = doE ((31 : Nat) : Int) (l ++ [a])) := hE.symm
  have HL : Hid (doE ((31 : Nat) : Int) (l ++ [a]) = 0 → rollL l a = doL ((31 : Nat) : Int) (l ++ [a])) := fun h0 => (hL (hE.symm.trans h0)).symm
  clear hE hL h hl
  by_cases hp : pickE l.length a = 0
  · rw [hp] at HRO HE
    have HR := Lib.hid HRO
    clear HRO hp
    go_enter Tryz.func24, Tryz.ntmps24
    go_wp2_with (first
      | (go_at_call 25; refine (HP.out _ H1.out).mono ?_; rintro e w2 ⟨A2, q2, b2, o2, d2, rfl, h2, h3, c2, hb2, hk⟩; have HK := Lib.hid hk; have HX := Lib.hid h2; clear h2 h3 hk)
      | (go_at_call 36; refine (HR.out _ _ _ HX.out).mono ?_; rintro e w3 ⟨A3, n3, q3, rfl, ho, hb⟩; have HO := Lib.hid ho; have HK3 := Lib.hid (HK.out.trans (keeps_below hb)); clear ho hb))
    go_ret2
    exact sp_ret HO.out HK3.out HE.out HL.out
  · have hne : (pickE l.length a != 0) = true := by simpa using hp
    have HNE := Lib.hid hp
    clear hp
    generalize pickE l.length a = E at *
    have HR := Lib.hid HRO
    clear HRO
    go_enter Tryz.func24, Tryz.ntmps24
    go_wp2_with (first
      | (go_at_call 25; refine (HP.out _ H1.out).mono ?_; rintro e w2 ⟨A2, q2, b2, o2, d2, rfl, h2, h3, c2, hb2, hk⟩; have HK := Lib.hid hk; have HX := Lib.hid h2; clear h2 h3 hk)
      | (go_at_call 36; refine (HR.out _ _ _ HX.out).mono ?_; rintro e w3 ⟨A3, n3, q3, rfl, ho, hb⟩; have HK3 := Lib.hid (HK.out.trans (keeps_below hb)); clear ho hb))
    go_ret2
    exact sp_ret (H1.out.keeps HK3.out) HK3.out HE.out (fun h0 => absurd (HE.out.trans h0) HNE.out)
theorem sp_any (k : Nat) (h1 : 29 ≤ k) (h2 : k ≤ 32) : SpSays k := by
  rcases (show k = 29 ∨ k = 30 ∨ k = 31 ∨ k = 32 by omega) with rfl | rfl | rfl | rfl
  · exact sp29
  · exact sp30
  · exact sp31
  · exact sp32
set_option maxHeartbeats 1000000 in
theorem rdo_host (o : Int) (A : Option Addr) (n q : Nat) (d : List Int) (w : World) (h : puG o = false) (h1 : Stk w A n q d) :
    Calls Tryz.prog 13 #[.int .i64 o, .slice A n q] w (PuPost w d (-21)) := by
  obtain ⟨v, hv⟩ : ∃ v, (opR o).2.2.2 = v := ⟨_, rfl⟩
  have hd : (v != 1) = true := by
    have := of_decide_eq_false h
    rw [hv] at this
    simpa using this
  have HV := Lib.hid hv
  have H1 := Lib.hid h1
  clear h hv h1
  go_enter Tryz.func13, Tryz.ntmps13
  go_wp2_with (go_at_call 22; refine (rgroup_is _ _ HV.out _).mono ?_; rintro e w' ⟨rfl, rfl⟩)
  go_ret2
  exact ⟨A, n, q, rfl, H1.out, Keeps.refl _⟩
set_option maxHeartbeats 1000000 in
theorem rdo_bad (o : Int) (A : Option Addr) (n q : Nat) (d : List Int) (w : World) (h : puG o = true) (hn9 : n ≤ 10000) (h1 : Stk w A n q d) (h2 : n < puN o ∨ 64 < n) :
    Calls Tryz.prog 13 #[.int .i64 o, .slice A n q] w (PuPost w d (if n < puN o then -4 else -3)) := by
  have hv : (opR o).2.2.2 = 1 := of_decide_eq_true h
  obtain ⟨N, hN⟩ : ∃ N, puN o = N := ⟨_, rfl⟩
  have hn := puN_nn o
  rw [hN] at hn h2 ⊢
  have HV := Lib.hid hv
  have HN := Lib.hid hn
  have H1 := Lib.hid h1
  clear h hv h1 hN hn
  by_cases h3 : n < N
  · rw [if_pos h3]
    have d1 : decide (n < N) = true := decide_eq_true h3
    clear h2
    go_enter Tryz.func13, Tryz.ntmps13
    go_wp2_with (first | (go_at_call 22; refine (rgroup_is _ _ HV.out _).mono ?_; rintro e w' ⟨rfl, rfl⟩) | (go_at_call 23; refine (rneeds_is _ _ HN.out _).mono ?_; rintro e w' ⟨rfl, rfl⟩))
    go_ret2
    exact ⟨A, n, q, rfl, H1.out, Keeps.refl _⟩
  · rw [if_neg h3]
    have d1 : decide (n < N) = false := decide_eq_false h3
    have d2 : decide ((64 : Int) < (n : Int)) = true := decide_eq_true (by omega)
    clear h2 h3
    go_enter Tryz.func13, Tryz.ntmps13
    go_wp2_with (first | (go_at_call 22; refine (rgroup_is _ _ HV.out _).mono ?_; rintro e w' ⟨rfl, rfl⟩) | (go_at_call 23; refine (rneeds_is _ _ HN.out _).mono ?_; rintro e w' ⟨rfl, rfl⟩))
    go_ret2
    exact ⟨A, n, q, rfl, H1.out, Keeps.refl _⟩
set_option maxHeartbeats 1000000 in
theorem rdo_special (k : Nat) (hk1 : 29 ≤ k) (hk2 : k ≤ 32) (A : Option Addr) (n q : Nat) (d : List Int) (w : World) (h1 : Stk w A n q d) (h2 : puN (k : Int) ≤ n) (h64 : n ≤ 64) :
    Calls Tryz.prog 13 #[.int .i64 (k : Int), .slice A n q] w (PuPost w (doL (k : Int) d) (doE (k : Int) d)) := by
  have hg : puG (k : Int) = true := by rw [puG_is]; exact decide_eq_true (by omega)
  have hv : (opR (k : Int)).2.2.2 = 1 := of_decide_eq_true hg
  have hS := fun W h => sp_any k hk1 hk2 A n q d W (by rw [← puN_at k (by omega) (by omega)]; exact h2) h64 h
  have hn := puN_nn (k : Int)
  have hLno : doE (k : Int) d ≠ 0 → doL (k : Int) d = d := fun h0 => by unfold doL; rw [if_neg h0]
  generalize doE (k : Int) d = E at hS hLno ⊢
  generalize doL (k : Int) d = L at hS hLno ⊢
  generalize puN (k : Int) = N at hn h2
  have d1 : decide (n < N) = false := decide_eq_false (by omega)
  have d2 : decide ((64 : Int) < (n : Int)) = false := decide_eq_false (by omega)
  have d3 : decide ((29 : Int) ≤ (k : Int)) = true := decide_eq_true (by omega)
  have d4 : decide ((k : Int) ≤ 32) = true := decide_eq_true (by omega)
  have HV := Lib.hid hv
  have HN := Lib.hid hn
  have H1 := Lib.hid h1
  clear hg hv hn h1
  by_cases hE : E = 0
  · subst hE
    have HS := Lib.hid hS
    clear hS hLno
    go_enter Tryz.func13, Tryz.ntmps13
    go_wp2_with (first | (go_at_call 22; refine (rgroup_is _ _ HV.out _).mono ?_; rintro e w' ⟨rfl, rfl⟩) | (go_at_call 23; refine (rneeds_is _ _ HN.out _).mono ?_; rintro e w' ⟨rfl, rfl⟩) | (go_at_call 24; (with_reducible refine (HS.out _ H1.out).mono ?_); rintro e w2 ⟨A2, n2, q2, L2, rfl, h2, h3, hk⟩; have HL2 := Lib.hid (h3 rfl); have HO := Lib.hid h2; have HK := Lib.hid hk; clear h2 h3 hk))
    go_ret2
    exact ⟨_, _, _, rfl, HL2.out ▸ HO.out, HK.out⟩
  · have hne : (E != 0) = true := by simpa using hE
    rw [hLno hE]
    have HS := Lib.hid hS
    clear hS hLno hE
    go_enter Tryz.func13, Tryz.ntmps13
    go_wp2_with (first | (go_at_call 22; refine (rgroup_is _ _ HV.out _).mono ?_; rintro e w' ⟨rfl, rfl⟩) | (go_at_call 23; refine (rneeds_is _ _ HN.out _).mono ?_; rintro e w' ⟨rfl, rfl⟩) | (go_at_call 24; (with_reducible refine (HS.out _ H1.out).mono ?_); rintro e w2 ⟨A2, n2, q2, L2, rfl, h2, h3, hk⟩; have HK := Lib.hid hk; clear h2 h3 hk))
    go_ret2
    exact ⟨A, n, q, rfl, H1.out.keeps HK.out, HK.out⟩
/-- The three ways in which an operation of cells ends. -/
theorem do_ways (k : Nat) (h1 : 18 ≤ k) (h2 : k ≤ 74) (hs : k < 29 ∨ 32 < k) (l x : List Int) (hx : x.length = puNs.getD (k - 18) 0) (hL : l.length + x.length ≤ 64) :
    opL (k : Int) = (((puY k [] x).length : Int), true) ∧
    ((64 < l.length + (puY k [] x).length ∧ doE (k : Int) (l ++ x) = -3 ∧ doL (k : Int) (l ++ x) = l ++ x) ∨
     (l.length + (puY k [] x).length ≤ 64 ∧ puT k [] x ≠ 0 ∧ doE (k : Int) (l ++ x) = puT k [] x ∧ doL (k : Int) (l ++ x) = l ++ x) ∨
     (l.length + (puY k [] x).length ≤ 64 ∧ puT k [] x = 0 ∧ doE (k : Int) (l ++ x) = 0 ∧ doL (k : Int) (l ++ x) = l ++ puY k [] x)) := by
  have hT : puT k l x = puT k [] x := by unfold puT; rw [puD_below k h1 h2 (by omega) (by omega) (by omega) l []]
  have hY : puY k l x = puY k [] x := by unfold puY; rw [puD_below k h1 h2 (by omega) (by omega) (by omega) l []]
  obtain ⟨hE, hD⟩ := do_at h1 h2 hx hL
  rw [puE_lay (by omega), hT, hY] at hE
  rw [puE_lay (by omega), puL_lay (by omega), hT, hY] at hD
  have hno : doE (k : Int) (l ++ x) ≠ 0 → doL (k : Int) (l ++ x) = l ++ x := fun h0 => by unfold doL; rw [if_neg h0]
  have hl := puD_length k h1 h2 [] (x.getD 0 0) (x.getD 1 0) (x.getD 2 0) (x.getD 3 0) (by omega) (by omega)
  refine ⟨by unfold opL; rw [← hl, if_neg (by omega)]; rfl, ?_⟩
  by_cases hov : 64 < l.length + (puY k [] x).length
  · refine Or.inl ⟨hov, ?_⟩
    have h0 : puT k [] x = 0 := by
      refine Decidable.byContradiction fun h => ?_
      have := puT_few k h1 h2 hs [] x h
      omega
    rw [h0, unE_ok, pushE_over (pushB_yes (by omega))] at hE
    exact ⟨hE, hno (by rw [hE]; decide)⟩
  · by_cases h0 : puT k [] x = 0
    · refine Or.inr (Or.inr ⟨by omega, h0, ?_⟩)
      rw [h0, unE_ok, pushE_ok (pushB_no (by omega))] at hE
      rw [h0, unE_ok, unL_ok, pushE_ok (pushB_no (by omega)), pushL_ok (pushB_no (by omega))] at hD
      exact ⟨hE, hD rfl⟩
    · refine Or.inr (Or.inl ⟨by omega, h0, ?_⟩)
      rw [unE_no h0] at hE
      exact ⟨hE, hno (by rw [hE]; exact h0)⟩
end Go.Proofs.YtnlkggfgloblcaaGreat

/-! From PureRefG. -/
namespace Go.Proofs.YtnlkggfgloblcaaGreat
open Go.RowKit

set_option maxHeartbeats 1000000 in
theorem rdo_a (o : Int) (A : Option Addr) (j N q r : Nat) (d Y : List Int) (T : Int) (w : World) (hv : (opR o).2.2.2 = 1) (hN : (opR o).2.1 = (N : Int)) (hY : opL o = ((r : Int), true)) (hr : Y.length = r) (h1 : Stk w A (j + N) q d) (h64 : j + N ≤ 64) (hr6 : r ≤ 6)
    (ho : decide (29 ≤ o) = false ∨ decide (29 ≤ o) = true ∧ decide (o ≤ 32) = false) (hT : ∀ W B m, Stk W B N m (d.drop j) → Calls Tryz.prog 26 #[.int .i64 o, .slice B N m] W (PuPost W Y T)) (hov : 64 < j + r) :
    Calls Tryz.prog 13 #[.int .i64 o, .slice A (j + N) q] w (PuPost w d (-3)) := by
  have HV := Lib.hid hv
  have HN := Lib.hid hN
  have HY := Lib.hid hY
  have HP := Lib.hid fun W h => rpop_ow A j N q d W (by omega) h
  have HT := Lib.hid hT
  have HRR := Lib.hid hr
  have H1 := Lib.hid h1
  clear hv hN hY hT hr h1
  have d1 : decide ((j : Int) + (N : Int) < (N : Int)) = false := decide_eq_false (by omega)
  have d2 : decide ((64 : Int) < (j : Int) + (N : Int)) = false := decide_eq_false (by omega)
  have d5 : decide ((64 : Int) < (j : Int) + (r : Int)) = true := decide_eq_true (by omega)
  clear hov
  rcases ho with d3 | ⟨d3, d4⟩
  all_goals
    go_enter Tryz.func13, Tryz.ntmps13
    go_wp2_with (first
      | (go_at_call 22; refine (rgroup_is _ _ HV.out _).mono ?_; rintro e w' ⟨rfl, rfl⟩)
      | (go_at_call 23; refine (rneeds_is _ _ HN.out _).mono ?_; rintro e w' ⟨rfl, rfl⟩)
      | (go_at_call 27; refine (rleaves_is _ _ _ HY.out _).mono ?_; rintro e w' ⟨rfl, rfl⟩)
      | (go_at_call 25; (with_reducible refine (HP.out _ H1.out).mono ?_); rintro e w2 ⟨A2, q2, B2, q3, rfl, h2, h3, h4, hk⟩; have HR := Lib.hid h2; have HW := Lib.hid h3; have HX := Lib.hid h4; have HK := Lib.hid hk; clear h2 h3 h4 hk)
      | (go_at_call 26; (with_reducible refine (HT.out _ _ _ HX.out).mono ?_); rintro e w3 ⟨A3, n3, q4, rfl, ho, hk⟩; obtain rfl : r = n3 := HRR.out.symm.trans ho.len; have HO := Lib.hid ho; have HK3 := Lib.hid hk; clear ho hk))
    go_ret2
    exact ⟨A, _, q, rfl, H1.out.keeps (HK.out.trans HK3.out), HK.out.trans HK3.out⟩
set_option maxHeartbeats 1000000 in
theorem rdo_b (o : Int) (A : Option Addr) (j N q r : Nat) (d Y : List Int) (T : Int) (w : World) (hv : (opR o).2.2.2 = 1) (hN : (opR o).2.1 = (N : Int)) (hY : opL o = ((r : Int), true)) (hr : Y.length = r) (h1 : Stk w A (j + N) q d) (h64 : j + N ≤ 64) (hr6 : r ≤ 6)
    (ho : decide (29 ≤ o) = false ∨ decide (29 ≤ o) = true ∧ decide (o ≤ 32) = false) (hT : ∀ W B m, Stk W B N m (d.drop j) → Calls Tryz.prog 26 #[.int .i64 o, .slice B N m] W (PuPost W Y T)) (hov : j + r ≤ 64) (hT0 : T ≠ 0) :
    Calls Tryz.prog 13 #[.int .i64 o, .slice A (j + N) q] w (PuPost w d T) := by
  have HV := Lib.hid hv
  have HN := Lib.hid hN
  have HY := Lib.hid hY
  have HP := Lib.hid fun W h => rpop_ow A j N q d W (by omega) h
  have HT := Lib.hid hT
  have HRR := Lib.hid hr
  have H1 := Lib.hid h1
  clear hv hN hY hT hr h1
  have d1 : decide ((j : Int) + (N : Int) < (N : Int)) = false := decide_eq_false (by omega)
  have d2 : decide ((64 : Int) < (j : Int) + (N : Int)) = false := decide_eq_false (by omega)
  have d5 : decide ((64 : Int) < (j : Int) + (r : Int)) = false := decide_eq_false (by omega)
  have d6 : (T != 0) = true := by simpa using hT0
  clear hov hT0
  rcases ho with d3 | ⟨d3, d4⟩
  all_goals
    go_enter Tryz.func13, Tryz.ntmps13
    go_wp2_with (first
      | (go_at_call 22; refine (rgroup_is _ _ HV.out _).mono ?_; rintro e w' ⟨rfl, rfl⟩)
      | (go_at_call 23; refine (rneeds_is _ _ HN.out _).mono ?_; rintro e w' ⟨rfl, rfl⟩)
      | (go_at_call 27; refine (rleaves_is _ _ _ HY.out _).mono ?_; rintro e w' ⟨rfl, rfl⟩)
      | (go_at_call 25; (with_reducible refine (HP.out _ H1.out).mono ?_); rintro e w2 ⟨A2, q2, B2, q3, rfl, h2, h3, h4, hk⟩; have HR := Lib.hid h2; have HW := Lib.hid h3; have HX := Lib.hid h4; have HK := Lib.hid hk; clear h2 h3 h4 hk)
      | (go_at_call 26; (with_reducible refine (HT.out _ _ _ HX.out).mono ?_); rintro e w3 ⟨A3, n3, q4, rfl, ho, hk⟩; obtain rfl : r = n3 := HRR.out.symm.trans ho.len; have HO := Lib.hid ho; have HK3 := Lib.hid hk; clear ho hk))
    go_ret2
    exact ⟨A, _, q, rfl, H1.out.keeps (HK.out.trans HK3.out), HK.out.trans HK3.out⟩
set_option maxHeartbeats 1000000 in
theorem rdo_c (o : Int) (A : Option Addr) (j N q r : Nat) (d Y : List Int) (T : Int) (w : World) (hv : (opR o).2.2.2 = 1) (hN : (opR o).2.1 = (N : Int)) (hY : opL o = ((r : Int), true)) (hr : Y.length = r) (h1 : Stk w A (j + N) q d) (h64 : j + N ≤ 64) (hr6 : r ≤ 6)
    (ho : decide (29 ≤ o) = false ∨ decide (29 ≤ o) = true ∧ decide (o ≤ 32) = false) (hT : ∀ W B m, Stk W B N m (d.drop j) → Calls Tryz.prog 26 #[.int .i64 o, .slice B N m] W (PuPost W Y T)) (hov : j + r ≤ 64) (hT0 : T = 0) :
    Calls Tryz.prog 13 #[.int .i64 o, .slice A (j + N) q] w (PuPost w (d.take j ++ Y) 0) := by
  have HV := Lib.hid hv
  have HN := Lib.hid hN
  have HY := Lib.hid hY
  have HP := Lib.hid fun W h => rpop_ow A j N q d W (by omega) h
  have HT := Lib.hid hT
  have HRR := Lib.hid hr
  have H1 := Lib.hid h1
  clear hv hN hY hT hr h1
  have d1 : decide ((j : Int) + (N : Int) < (N : Int)) = false := decide_eq_false (by omega)
  have d2 : decide ((64 : Int) < (j : Int) + (N : Int)) = false := decide_eq_false (by omega)
  have d5 : decide ((64 : Int) < (j : Int) + (r : Int)) = false := decide_eq_false (by omega)
  subst hT0
  rcases ho with d3 | ⟨d3, d4⟩
  all_goals
    go_enter Tryz.func13, Tryz.ntmps13
    go_wp2_with (first
      | (go_at_call 22; refine (rgroup_is _ _ HV.out _).mono ?_; rintro e w' ⟨rfl, rfl⟩)
      | (go_at_call 23; refine (rneeds_is _ _ HN.out _).mono ?_; rintro e w' ⟨rfl, rfl⟩)
      | (go_at_call 27; refine (rleaves_is _ _ _ HY.out _).mono ?_; rintro e w' ⟨rfl, rfl⟩)
      | (go_at_call 25; (with_reducible refine (HP.out _ H1.out).mono ?_); rintro e w2 ⟨A2, q2, B2, q3, rfl, h2, h3, h4, hk⟩; have HR := Lib.hid h2; have HW := Lib.hid h3; have HX := Lib.hid h4; have HK := Lib.hid hk; clear h2 h3 h4 hk)
      | (go_at_call 26; (with_reducible refine (HT.out _ _ _ HX.out).mono ?_); rintro e w3 ⟨A3, n3, q4, rfl, ho, hk⟩; obtain rfl : r = n3 := HRR.out.symm.trans ho.len; have HO := Lib.hid ho; have HK3 := Lib.hid hk; clear ho hk)
      | (at_builtin; refine wpList_appO (base := w) rfl (.tmp 76) (.tmp 77) rfl rfl rfl (HW.out.keeps HK3.out) (HR.out.keeps HK3.out) (HK.out.trans HK3.out) HO.out (by omega) (by omega) ?_; intro A5 c5 w5 s5 k5; have S5 := Lib.hid s5; have K5 := Lib.hid k5; clear s5 k5))
    go_ret2
    exact ⟨A5, _, c5, rfl, S5.out, K5.out⟩
/-- Do, whatever it is given. -/
theorem rdo_any (o : Int) (A : Option Addr) (n q : Nat) (d : List Int) (w : World) (hn : n ≤ 10000) (h1 : Stk w A n q d) (hC : AllC d) :
    Calls Tryz.prog 13 #[.int .i64 o, .slice A n q] w (PuPost w (doL o d) (doE o d)) := by
  have hl := h1.len
  cases h : puG o
  · have e : doE o d = -21 := by simp [doE, h]
    have e2 : doL o d = d := by unfold doL; rw [if_neg (by rw [e]; decide)]
    rw [e2, e]
    exact rdo_host o A n q d w h h1
  · by_cases h2 : n < puN o ∨ 64 < n
    · have e : doE o d = if n < puN o then -4 else -3 := by
        unfold doE
        rw [if_neg (by rw [h]; decide), hl]
        split
        · rfl
        · rw [if_pos (by omega)]
      have e2 : doL o d = d := by unfold doL; rw [if_neg (by rw [e]; split <;> decide)]
      rw [e2, e]
      exact rdo_bad o A n q d w h hn h1 h2
    · obtain ⟨k, rfl, hk1, hk2⟩ := puG_some h
      by_cases hs : k < 29 ∨ 32 < k
      · obtain ⟨N, hN⟩ : ∃ N, puN (k : Int) = N := ⟨_, rfl⟩
        have hN2 := puN_at k hk1 hk2
        have hnn := puN_nn (k : Int)
        rw [hN] at hN2 hnn h2
        obtain ⟨j, rfl⟩ : ∃ j, n = j + N := ⟨n - N, by omega⟩
        have hdl : (d.take j).length = j := by rw [List.length_take, hl]; omega
        have hdx : (d.drop j).length = N := by rw [List.length_drop, hl]; omega
        obtain ⟨hY, hw⟩ := do_ways k hk1 hk2 hs (d.take j) (d.drop j) (by rw [hdx, hN2]) (by rw [hdl, hdx]; omega)
        rw [List.take_append_drop, hdl] at hw
        have hv : (opR (k : Int)).2.2.2 = 1 := of_decide_eq_true h
        have ho : decide (29 ≤ (k : Int)) = false ∨ decide (29 ≤ (k : Int)) = true ∧ decide ((k : Int) ≤ 32) = false := by
          rcases hs with hs | hs
          · exact Or.inl (decide_eq_false (by omega))
          · exact Or.inr ⟨decide_eq_true (by omega), decide_eq_false (by omega)⟩
        have hT := fun W B m hx => tells_any k hk1 hk2 hs B m N (d.drop j) W hN2 hx (allC_drop hC j)
        have h6 : (puY k [] (d.drop j)).length ≤ 6 := puD_six k hk1 hk2 [] _ _ _ _
        rcases hw with ⟨w1, w2, w3⟩ | ⟨w1, w2, w3, w4⟩ | ⟨w1, w2, w3, w4⟩
        · rw [w2, w3]
          exact rdo_a (k : Int) A j N q _ d _ _ w hv hnn hY rfl h1 (by omega) h6 ho hT w1
        · rw [w3, w4]
          exact rdo_b (k : Int) A j N q _ d _ _ w hv hnn hY rfl h1 (by omega) h6 ho hT w1 w2
        · rw [w3, w4]
          exact rdo_c (k : Int) A j N q _ d _ _ w hv hnn hY rfl h1 (by omega) h6 ho hT w1 w2
      · exact rdo_special k (by omega) (by omega) A n q d w h1 (by omega) (by omega)
/-- What stands at the head of a round. -/
def RAlRel (w : World) (ops d : List Int) (m : Nat) (v i : Value) (wr : World) : Prop :=
  ∃ (k : Nat) (A : Option Addr) (n q : Nat) (d' : List Int), k ≤ m ∧ i = .int .i64 k ∧ v = .slice A n q ∧ n ≤ 10000 ∧ Stk wr A n q d' ∧ AllC d' ∧ alE (ops.drop k) d' = alE ops d ∧ alL (ops.drop k) d' = alL ops d ∧ Keeps w wr
set_option maxHeartbeats 1000000 in
theorem rall_any (B : Option Addr) (m b : Nat) (ops : List Int) (A : Option Addr) (n q : Nat) (d : List Int) (w : World) (hm : m ≤ 10000) (hn : n ≤ 10000) (h2 : Stk w B m b ops) (h1 : Stk w A n q d) (hC : AllC d) :
    Calls Tryz.prog 15 #[.slice B m b, .slice A n q] w (PuPost w (alL ops d) (alE ops d)) := by
  have HM := Lib.hid h2.len
  have H1 := Lib.hid h1
  have H2 := Lib.hid h2
  have HC := Lib.hid hC
  clear h1 h2 hC
  go_enter Tryz.func15, Tryz.ntmps15
  go_wp2
  go_loopw [1, 6] (fun v i wr => RAlRel w ops d m v i wr) (fun _ i _ => ((m : Int) - intOf i).toNat)
  case atStart => exact ⟨0, A, n, q, d, by omega, rfl, rfl, hn, H1.out, HC.out, rfl, rfl, Keeps.refl _⟩
  case round =>
    obtain ⟨k, A', n', q', d', hk, rfl, rfl, hn', hs, hc, he, hl, hw⟩ := hrel
    have HS := Lib.hid hs
    have HD := Lib.hid hc
    have HE := Lib.hid he
    have HL := Lib.hid hl
    have HW := Lib.hid hw
    clear hs hc he hl hw
    by_cases h8 : k < m
    · have hkt : k < ops.length := by rw [HM.out]; exact h8
      obtain ⟨b2, o2, rfl, hb2, hc2⟩ := (H2.out.keeps HW.out).at_ k h8
      have HG : Hid (ops.drop k = ops.getD k 0 :: ops.drop (k + 1)) := by
        show _ = _
        rw [List.drop_eq_getElem_cons hkt]
        simp [List.getD, hkt]
      generalize ops.getD k 0 = o at HG hc2
      have hdo := rdo_any o A' n' q' d' wr hn' HS.out HD.out
      by_cases hp : doE o d' = 0
      · rw [hp] at hdo
        have HDO := Lib.hid hdo
        have HP := Lib.hid hp
        clear hdo hp
        go_wp2_with (go_at_call 13; (with_reducible refine HDO.out.mono ?_); rintro e w1 ⟨A1, n1, q1, rfl, ho, hb⟩; have HO := Lib.hid ho; have HB := Lib.hid hb; clear ho hb)
        go_roundw
        case rel => exact ⟨k + 1, A1, n1, q1, doL o d', by omega, by go_num, rfl, by have := HO.out.len; have := doL_length HP.out; omega, HO.out, doL_in _ HD.out, by rw [← alE_cons_ok HP.out, ← HG.out]; exact HE.out, by rw [← alL_cons_ok HP.out, ← HG.out]; exact HL.out, HW.out.trans HB.out⟩
        case measure => simp [intOf]; omega
      · have hLd : doL o d' = d' := by unfold doL; rw [if_neg hp]
        rw [hLd] at hdo
        clear hLd
        have hE1 := alE_cons_no (r := ops.drop (k + 1)) hp
        have hL1 := alL_cons_no (r := ops.drop (k + 1)) hp
        rw [← HG.out, HE.out] at hE1
        rw [← HG.out, HL.out] at hL1
        rw [← hE1] at hdo hp
        have hne : (alE ops d != 0) = true := by simpa using hp
        rw [hL1]
        generalize alE ops d = E at *
        have HDO := Lib.hid hdo
        clear hdo hp hE1 hL1 HE HL
        go_wp2_with (go_at_call 13; (with_reducible refine HDO.out.mono ?_); rintro e w1 ⟨A1, n1, q1, rfl, ho, hb⟩; have HO := Lib.hid ho; have HB := Lib.hid hb; clear ho hb)
        go_ret2
        exact ⟨A1, n1, q1, rfl, HO.out, HW.out.trans HB.out⟩
    · obtain rfl : k = m := by omega
      have hx : ops.drop k = [] := List.drop_eq_nil_of_le (by have := HM.out; omega)
      have hE1 := HE.out
      have hL1 := HL.out
      rw [hx] at hE1 hL1
      have HEE : Hid (0 = alE ops d) := hE1
      have HLL : Hid (d' = alL ops d) := hL1
      clear hE1 hL1 hx
      go_wp2
      go_ret2
      exact pu_ret HS.out HW.out HLL.out HEE.out
end Go.Proofs.YtnlkggfgloblcaaGreat

/-! From PureIsWalk. -/
namespace Go.Proofs.YtnlkggfgloblcaaGreat
open Go.RowKit

set_option maxHeartbeats 2000000 in
set_option maxRecDepth 100000 in
theorem pureIs_walk (o : Int) (B : Option Addr) (m b : Nat) (ops : List Int) (A : Option Addr) (n q : Nat) (d : List Int) (w : World) (h2 : Stk w B m b ops) (h1 : Stk w A n q d) (hC : AllC d) :
    Calls Tryz.prog 3 #[.int .i64 o, .slice B m b, .slice A n q] w fun e w' => e = .returned (.bool true) ∧ Keeps w w' := by
  have H1 := Lib.hid h1
  have H2 := Lib.hid h2
  by_cases g : 40 < m ∨ 100 < n
  · have hd : (decide ((40 : Int) < (m : Int)) = true) ∨ (decide ((40 : Int) < (m : Int)) = false ∧ decide ((100 : Int) < (n : Int)) = true) := by
      by_cases a1 : 40 < m
      · exact Or.inl (decide_eq_true (by omega))
      · exact Or.inr ⟨decide_eq_false (by omega), decide_eq_true (by omega)⟩
    clear g h1 h2 hC
    rcases hd with d1 | ⟨d1, d2⟩
    all_goals
      go_enter Tryz.func3, Tryz.ntmps3
      go_wp2_with (go_at_call 11; refine (pawake_any _).mono ?_; rintro e w1 ⟨rfl, hb⟩; have HB := Lib.hid hb; clear hb)
      go_ret
      exact ⟨rfl, HB.out⟩
  · have d1 : decide ((40 : Int) < (m : Int)) = false := decide_eq_false (by omega)
    have d2 : decide ((100 : Int) < (n : Int)) = false := decide_eq_false (by omega)
    have gm : m ≤ 10000 := by omega
    have gn : n ≤ 10000 := by omega
    have hl := h1.len
    have hL1 : (doL o d).length ≤ 10000 := by
      by_cases h0 : doE o d = 0
      · have := doL_length h0; omega
      · unfold doL; rw [if_neg h0]; omega
    have hL2 : (alL ops d).length ≤ 10000 := alL_length ops d (by omega)
    obtain ⟨L, E, M, F, hL, hM, k1, k2, k3, k4⟩ : ∃ (L : List Int) (E : Int) (M : List Int) (F : Int), L.length ≤ 10000 ∧ M.length ≤ 10000 ∧
        (∀ W A q, Stk W A n q d → Calls Tryz.prog 12 #[.int .i64 o, .slice A n q] W (PuPost W L E)) ∧
        (∀ W A q, Stk W A n q d → Calls Tryz.prog 13 #[.int .i64 o, .slice A n q] W (PuPost W L E)) ∧
        (∀ W B b A q, Stk W B m b ops → Stk W A n q d → Calls Tryz.prog 14 #[.slice B m b, .slice A n q] W (PuPost W M F)) ∧
        (∀ W B b A q, Stk W B m b ops → Stk W A n q d → Calls Tryz.prog 15 #[.slice B m b, .slice A n q] W (PuPost W M F)) :=
      ⟨doL o d, doE o d, alL ops d, alE ops d, hL1, hL2, fun W A q h => do_any o A n q d W gn h hC, fun W A q h => rdo_any o A n q d W gn h hC, fun W B b A q h2 h1 => all_any B m b ops A n q d W gm gn h2 h1 hC, fun W B b A q h2 h1 => rall_any B m b ops A n q d W gm gn h2 h1 hC⟩
    have hEE : (E == E) = true := by simp
    have hFF : (F == F) = true := by simp
    have HL := Lib.hid hL
    have HM := Lib.hid hM
    have K1 := Lib.hid k1
    have K2 := Lib.hid k2
    have K3 := Lib.hid k3
    have K4 := Lib.hid k4
    clear g h1 h2 hC hl hL1 hL2 hL hM k1 k2 k3 k4
    go_enter Tryz.func3, Tryz.ntmps3
    go_wp2_with (first
      | (go_at_call 11; (with_reducible refine (pawake_any _).mono ?_); rintro e w1 ⟨rfl, hb⟩; have HB1 := Lib.hid hb; clear hb)
      | (go_at_call 12; (with_reducible refine (K1.out _ _ _ (H1.out.keeps HB1.out)).mono ?_); rintro e w2 ⟨A2, n2, q2, rfl, ho, hb⟩; have HO2 := Lib.hid ho; have HB2 := Lib.hid (HB1.out.trans hb); clear ho hb)
      | (go_at_call 13; (with_reducible refine (K2.out _ _ _ (H1.out.keeps HB2.out)).mono ?_); rintro e w3 ⟨A3, n3, q3, rfl, ho, hb⟩; have HO3 := Lib.hid ho; have HK3 := Lib.hid hb; have HB3 := Lib.hid (HB2.out.trans hb); clear ho hb)
      | (go_at_call 14; (with_reducible refine (K3.out _ _ _ _ _ (H2.out.keeps HB3.out) (H1.out.keeps HB3.out)).mono ?_); rintro e w4 ⟨A4, n4, q4, rfl, ho, hb⟩; have HO4 := Lib.hid ho; have HK4 := Lib.hid hb; have HB4 := Lib.hid (HB3.out.trans hb); clear ho hb)
      | (go_at_call 15; (with_reducible refine (K4.out _ _ _ _ _ (H2.out.keeps HB4.out) (H1.out.keeps HB4.out)).mono ?_); rintro e w5 ⟨A5, n5, q5, rfl, ho, hb⟩; have HO5 := Lib.hid ho; have HK5 := Lib.hid hb; have HB5 := Lib.hid (HB4.out.trans hb); clear ho hb)
      | (go_at_call 16; have hw := HK6; have hn4 := Nat.le_trans (Nat.le_of_eq HO4.out.len.symm) HM.out; (with_reducible refine (same_k _ _ _ _ _ _ _ _ _ hn4 (HO4.out.keeps (HK5.out.trans HK6.out)) (HO5.out.keeps HK6.out) rfl).mono ?_); rintro e w7 ⟨rfl, hb⟩; have HK7 := Lib.hid hb; clear hb hw)
      | (go_at_call 16; have hn2 := Nat.le_trans (Nat.le_of_eq HO2.out.len.symm) HL.out; (with_reducible refine (same_k _ _ _ _ _ _ _ _ _ hn2 (HO2.out.keeps (HK3.out.trans (HK4.out.trans HK5.out))) (HO3.out.keeps (HK4.out.trans HK5.out)) rfl).mono ?_); rintro e w6 ⟨rfl, hb⟩; have HK6 := Lib.hid hb; clear hb))
    go_ret
    exact ⟨rfl, HB5.out.trans (HK6.out.trans HK7.out)⟩
end Go.Proofs.YtnlkggfgloblcaaGreat
