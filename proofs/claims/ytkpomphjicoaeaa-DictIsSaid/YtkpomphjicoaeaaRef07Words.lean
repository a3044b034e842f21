/-
  What the document's own Name, Hidden and Find of layer 7 answer, which go through the names word by word: the same as package op's.
-/
import Derived.Test.YtkpomphjicoaeaaRef07Calls
namespace Go.Proofs.Ytkpomphjicoaeaa
open Go.RowKit

/-- The k-th word of all names. -/
theorem rword_at (k : Nat) (h : k < 111) (S T : ByteArray) (hS : S = ⟨opNames.toArray⟩) (hT : T = ⟨(opR (k : Int)).1.toArray⟩) (w : World) :
    Calls Try.prog 51 #[.agg #[.string S, .int .i64 (opP k : Int)]] w fun e w' => e = .returned (.tuple #[.string T, .agg #[.string S, .int .i64 (opP (k + 1) : Int)]]) ∧ Below w.heap.size w w' := by
  obtain ⟨h1, h2, h3, h4⟩ := opP_at k h
  exact rword_is opNames (opP k : Int) (opP k) _ (opP (k + 1)) S T hS (by rw [opNames_length]; omega) h1 h2 h3 (by rw [h4]; exact hT) w
set_option maxHeartbeats 1000000 in
theorem rname_in (n : Nat) (hn : n < 111) (T : ByteArray) (hT : T = ⟨(opR (n : Int)).1.toArray⟩) (w : World) :
    Calls Try.prog 44 #[.int .i64 (n : Int)] w fun e w' => e = .returned (.string T) ∧ Below w.heap.size w w' := by
  obtain ⟨S, hS⟩ : ∃ S : ByteArray, S = ⟨opNames.toArray⟩ := ⟨_, rfl⟩
  have HN := Lib.hid (rnames_is S hS)
  have HI := Lib.hid (rin_is (n : Int) true (by simp; omega))
  have HW := Lib.hid (fun k h T hT => rword_at k h S T hS hT)
  have HT := Lib.hid hT
  clear hS hT
  go_enter Try.func44, Try.ntmps44
  go_wp2_with (first
    | (go_at_call 49; refine (HI.out _).mono ?_; rintro e w1 ⟨rfl, rfl⟩)
    | (go_at_call 50; refine (HN.out _).mono ?_; rintro e w1 ⟨rfl, rfl⟩))
  go_loopw [4] (fun t wr => ∃ k : Nat, t = .int .i64 k ∧ k ≤ n ∧ Src wr w.heap.size 81 S (opP k : Int) ∧ Below w.heap.size w wr) (fun t _ => n - (intOf t).toNat)
  case atStart => exact ⟨0, rfl, by omega, by rw [opP_zero]; exact Src.new w _ S 0, (Below.refl _ _).alloc (Nat.le_refl _) _⟩
  case round =>
    obtain ⟨k, rfl, hk, hx, hb⟩ := hrel
    have HX := Lib.hid hx
    have HB := Lib.hid hb
    have hs := hx.s
    have hi := hx.n
    clear hx hb
    by_cases hp : k < n
    · obtain ⟨Y, hY⟩ : ∃ Y : ByteArray, Y = ⟨(opR (k : Int)).1.toArray⟩ := ⟨_, rfl⟩
      have HWk := Lib.hid (HW.out k (by omega) Y hY)
      clear hY
      go_wp2_with (first
        | (go_at_call 51; refine (HWk.out _).mono ?_; rintro e w2 ⟨rfl, hb2⟩; have X2 := Lib.hid (HX.out.keep hb2); have HB2 := Lib.hid (below_then HB.out hb2); have Z := X2.out.alloc (.cells #[.string S, .int .i64 (opP (k + 1) : Int)] 81); have z1 := Z.s; have z2 := Z.n; have z3 := Z.fs; have z4 := Z.fn; have HZ := Lib.hid Z; clear Z hb2))
      go_roundw
      case rel => exact ⟨k + 1, by go_num, by omega, HZ.out.set S (opP (k + 1) : Int), ((HB2.out.alloc HB2.out.size _).setCell (Nat.le_refl _) _).setCell (Nat.le_refl _) _⟩
      case measure => simp [intOf]; omega
    · obtain rfl : k = n := by omega
      have HWk := Lib.hid (HW.out k hn T HT.out)
      go_wp2_with (first
        | (go_at_call 51; refine (HWk.out _).mono ?_; rintro e w2 ⟨rfl, hb2⟩; have HB2 := Lib.hid (below_then HB.out hb2); clear hb2))
      go_ret
      exact ⟨rfl, HB2.out.alloc HB2.out.size _⟩
theorem rname_is (n : Int) (T : ByteArray) (hT : T = ⟨(opR n).1.toArray⟩) (w : World) :
    Calls Try.prog 44 #[.int .i64 n] w fun e w' => e = .returned (.string T) ∧ Below w.heap.size w w' := by
  by_cases hn : 0 ≤ n ∧ n < 111
  · obtain ⟨k, rfl⟩ : ∃ k : Nat, n = (k : Int) := ⟨n.toNat, by omega⟩
    exact rname_in k (by omega) T hT w
  · have HI := Lib.hid (rin_is n false (by simpa using hn))
    rw [opR_out n (by omega)] at hT
    subst hT
    clear hn
    go_enter Try.func44, Try.ntmps44
    go_wp2_with (first
      | (go_at_call 49; refine (HI.out _).mono ?_; rintro e w1 ⟨rfl, rfl⟩))
    go_ret
    exact ⟨rfl, Below.refl _ _⟩
/-- A name's first byte. -/
theorem name_head (k : Nat) (h : k < 111) (T : ByteArray) (hT : T = ⟨(opR (k : Int)).1.toArray⟩) : 0 < T.size ∧ ∃ c : UInt8, (∀ hk : 0 < T.size, T[0]'hk = c) ∧ ((c.toNat : Int) == 40) = opH (opR (k : Int)).1 := by
  have h1 := opR_some k h
  rw [opH_head k h]
  cases hl : (opR (k : Int)).1 with
  | nil => exact (h1 hl).elim
  | cons c t =>
    rw [hl] at hT
    subst hT
    refine ⟨by rw [size_mk]; simp, c, fun _ => rfl, ?_⟩
    simp only [List.head?_cons, Option.some.injEq]
    rw [Bool.eq_iff_iff]
    simp only [beq_iff_eq, decide_eq_true_eq]
    constructor
    · intro e
      exact UInt8.toNat_inj.1 (by show c.toNat = 40; omega)
    · intro e
      subst e
      rfl
set_option maxHeartbeats 400000 in
theorem rhidden_is (n : Int) (b : Bool) (hv : opH (opR n).1 = b) (w : World) : Calls Try.prog 38 #[.int .i64 n] w fun e w' => e = .returned (.bool b) ∧ Below w.heap.size w w' := by
  obtain ⟨T, hT⟩ : ∃ T : ByteArray, T = ⟨(opR n).1.toArray⟩ := ⟨_, rfl⟩
  have HN := Lib.hid (rname_is n T hT)
  by_cases hn : 0 ≤ n ∧ n < 111
  · obtain ⟨k, rfl⟩ : ∃ k : Nat, n = (k : Int) := ⟨n.toNat, by omega⟩
    obtain ⟨h0, c, hc, he⟩ := name_head k (by omega) T hT
    rw [hv] at he
    have hc8 : (0 : Int) ≤ (c.toNat : Int) ∧ (c.toNat : Int) ≤ 255 := by have := c.toNat_lt; omega
    clear hv hT hn
    go_enter Try.func38, Try.ntmps38
    go_wp2_with (first
      | (go_at_call 44; refine (HN.out _).mono ?_; rintro e w1 ⟨rfl, hb1⟩; have HB := Lib.hid hb1; clear hb1))
    go_ret
    exact ⟨rfl, HB.out⟩
  · rw [opR_out n (by omega)] at hv hT
    subst hv hT
    clear hn
    go_enter Try.func38, Try.ntmps38
    go_wp2_with (first
      | (go_at_call 44; refine (HN.out _).mono ?_; rintro e w1 ⟨rfl, hb1⟩; have HB := Lib.hid hb1; clear hb1))
    go_ret
    exact ⟨rfl, HB.out⟩
end Go.Proofs.Ytkpomphjicoaeaa
