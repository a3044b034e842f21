/-
  What the document's own Name, Hidden and Find of layer 7 answer, which go through the names word by word: the same as package op's.
-/
import Derived.Test.YtlpacdheabcpdaaRef07Calls
namespace Go.Proofs.Ytlpacdheabcpdaa
open Go.RowKit

/-- The k-th word of all names. -/
theorem rword_at (k : Nat) (h : k < 111) (S T : ByteArray) (hS : S = ⟨opNames.toArray⟩) (hT : T = ⟨(opR (k : Int)).1.toArray⟩) (w : World) :
    Calls Try.prog 22 #[.agg #[.string S, .int .i64 (opP k : Int)]] w fun e w' => e = .returned (.tuple #[.string T, .agg #[.string S, .int .i64 (opP (k + 1) : Int)]]) ∧ Below w.heap.size w w' := by
  obtain ⟨h1, h2, h3, h4⟩ := opP_at k h
  exact rword_is opNames (opP k : Int) (opP k) _ (opP (k + 1)) S T hS (by rw [opNames_length]; omega) h1 h2 h3 (by rw [h4]; exact hT) w
set_option maxHeartbeats 1000000 in
theorem rname_in (n : Nat) (hn : n < 111) (T : ByteArray) (hT : T = ⟨(opR (n : Int)).1.toArray⟩) (w : World) :
    Calls Try.prog 12 #[.int .i64 (n : Int)] w fun e w' => e = .returned (.string T) ∧ Below w.heap.size w w' := by
  obtain ⟨S, hS⟩ : ∃ S : ByteArray, S = ⟨opNames.toArray⟩ := ⟨_, rfl⟩
  have HN := Lib.hid (rnames_is S hS)
  have HI := Lib.hid (rin_is (n : Int) true (by simp; omega))
  have HW := Lib.hid (fun k h T hT => rword_at k h S T hS hT)
  have HT := Lib.hid hT
  clear hS hT
  go_enter Try.func12, Try.ntmps12
  go_wp2_with (first
    | (go_at_call 24; refine (HI.out _).mono ?_; rintro e w1 ⟨rfl, rfl⟩)
    | (go_at_call 21; refine (HN.out _).mono ?_; rintro e w1 ⟨rfl, rfl⟩))
  go_loopw [4] (fun t wr => ∃ k : Nat, t = .int .i64 k ∧ k ≤ n ∧ Src wr w.heap.size 34 S (opP k : Int) ∧ Below w.heap.size w wr) (fun t _ => n - (intOf t).toNat)
  case atStart => exact ⟨0, rfl, by omega, by rw [opP_zero]; exact Src.new w _ S 0, (Below.refl _ _).alloc (Nat.le_refl _) _⟩
  case round =>
    obtain ⟨k, rfl, hk, hx, hb⟩ := hrel
    have HX := Lib.hid hx
    have HB := Lib.hid hb
    have hs := hx.s
    have hi := hx.n
    clear hx hb
    by_cases hp : k < n
    · obtain ⟨Y, hY⟩ : ∃ Y : ByteArray, Y = ⟨(opR (k : Int)).1.toArray⟩ := ⟨_, rfl⟩
      have HWk := Lib.hid (HW.out k (by omega) Y hY)
      clear hY
      go_wp2_with (first
        | (go_at_call 22; refine (HWk.out _).mono ?_; rintro e w2 ⟨rfl, hb2⟩; have X2 := Lib.hid (HX.out.keep hb2); have HB2 := Lib.hid (below_then HB.out hb2); have Z := X2.out.alloc (.cells #[.string S, .int .i64 (opP (k + 1) : Int)] 34); have z1 := Z.s; have z2 := Z.n; have z3 := Z.fs; have z4 := Z.fn; have HZ := Lib.hid Z; clear Z hb2))
      go_roundw
      case rel => exact ⟨k + 1, by go_num, by omega, HZ.out.set S (opP (k + 1) : Int), ((HB2.out.alloc HB2.out.size _).setCell (Nat.le_refl _) _).setCell (Nat.le_refl _) _⟩
      case measure => simp [intOf]; omega
    · obtain rfl : k = n := by omega
      have HWk := Lib.hid (HW.out k hn T HT.out)
      go_wp2_with (first
        | (go_at_call 22; refine (HWk.out _).mono ?_; rintro e w2 ⟨rfl, hb2⟩; have HB2 := Lib.hid (below_then HB.out hb2); clear hb2))
      go_ret
      exact ⟨rfl, HB2.out.alloc HB2.out.size _⟩
theorem rname_is (n : Int) (T : ByteArray) (hT : T = ⟨(opR n).1.toArray⟩) (w : World) :
    Calls Try.prog 12 #[.int .i64 n] w fun e w' => e = .returned (.string T) ∧ Below w.heap.size w w' := by
  by_cases hn : 0 ≤ n ∧ n < 111
  · obtain ⟨k, rfl⟩ : ∃ k : Nat, n = (k : Int) := ⟨n.toNat, by omega⟩
    exact rname_in k (by omega) T hT w
  · have HI := Lib.hid (rin_is n false (by simpa using hn))
    rw [opR_out n (by omega)] at hT
    subst hT
    clear hn
    go_enter Try.func12, Try.ntmps12
    go_wp2_with (first
      | (go_at_call 24; refine (HI.out _).mono ?_; rintro e w1 ⟨rfl, rfl⟩))
    go_ret
    exact ⟨rfl, Below.refl _ _⟩
/-- A name's first byte. -/
theorem name_head (k : Nat) (h : k < 111) (T : ByteArray) (hT : T = ⟨(opR (k : Int)).1.toArray⟩) : 0 < T.size ∧ ∃ c : UInt8, (∀ hk : 0 < T.size, T[0]'hk = c) ∧ ((c.toNat : Int) == 40) = opH (opR (k : Int)).1 := by
  have h1 := opR_some k h
  rw [opH_head k h]
  cases hl : (opR (k : Int)).1 with
  | nil => exact (h1 hl).elim
  | cons c t =>
    rw [hl] at hT
    subst hT
    refine ⟨by rw [size_mk]; simp, c, fun _ => rfl, ?_⟩
    simp only [List.head?_cons, Option.some.injEq]
    rw [Bool.eq_iff_iff]
    simp only [beq_iff_eq, decide_eq_true_eq]
    constructor
    · intro e
      exact UInt8.toNat_inj.1 (by show c.toNat = 40; omega)
    · intro e
      subst e
      rfl
set_option maxHeartbeats 400000 in
theorem rhidden_is (n : Int) (b : Bool) (hv : opH (opR n).1 = b) (w : World) : Calls Try.prog 18 #[.int .i64 n] w fun e w' => e = .returned (.bool b) ∧ Below w.heap.size w w' := by
  obtain ⟨T, hT⟩ : ∃ T : ByteArray, T = ⟨(opR n).1.toArray⟩ := ⟨_, rfl⟩
  have HN := Lib.hid (rname_is n T hT)
  by_cases hn : 0 ≤ n ∧ n < 111
  · obtain ⟨k, rfl⟩ : ∃ k : Nat, n = (k : Int) := ⟨n.toNat, by omega⟩
    obtain ⟨h0, c, hc, he⟩ := name_head k (by omega) T hT
    rw [hv] at he
    have hc8 : (0 : Int) ≤ (c.toNat : Int) ∧ (c.toNat : Int) ≤ 255 := by have := c.toNat_lt; omega
    clear hv hT hn
    go_enter Try.func18, Try.ntmps18
    go_wp2_with (first
      | (go_at_call 12; refine (HN.out _).mono ?_; rintro e w1 ⟨rfl, hb1⟩; have HB := Lib.hid hb1; clear hb1))
    go_ret
    exact ⟨rfl, HB.out⟩
  · rw [opR_out n (by omega)] at hv hT
    subst hv hT
    clear hn
    go_enter Try.func18, Try.ntmps18
    go_wp2_with (first
      | (go_at_call 12; refine (HN.out _).mono ?_; rintro e w1 ⟨rfl, hb1⟩; have HB := Lib.hid hb1; clear hb1))
    go_ret
    exact ⟨rfl, HB.out⟩
set_option maxRecDepth 4000 in
set_option maxHeartbeats 1000000 in
theorem rfind_is (l : List UInt8) (S : ByteArray) (hS : S = ⟨l.toArray⟩) (hl : l.length ≤ 2000) (v : Int) (b : Bool) (h : opF (l.map scU) = (v, b)) (w : World) :
    Calls Try.prog 8 #[.string S] w fun e w' => e = .returned (.tuple #[.int .i64 v, .bool b]) ∧ Below w.heap.size w w' := by
  obtain ⟨U, hU⟩ : ∃ U : ByteArray, U = ⟨(l.map scU).toArray⟩ := ⟨_, rfl⟩
  obtain ⟨N, hN⟩ : ∃ N : ByteArray, N = ⟨opNames.toArray⟩ := ⟨_, rfl⟩
  have HU := Lib.hid (rupper_is l S U hS hl hU)
  have HE := Lib.hid hU
  have HV := Lib.hid h
  have HN := Lib.hid (rnames_is N hN)
  have HW := Lib.hid (fun k h T hT => rword_at k h N T hN hT)
  clear hS hU h hN
  go_enter Try.func8, Try.ntmps8
  go_wp2_with (first
    | (go_at_call 20; refine (HU.out _).mono ?_; rintro e w1 ⟨rfl, hb1⟩; have HB := Lib.hid hb1; clear hb1)
    | (go_at_call 21; refine (HN.out _).mono ?_; rintro e w1 ⟨rfl, rfl⟩))
  go_loopw [6] (fun t wr => ∃ k : Nat, t = .int .i64 k ∧ k ≤ 111 ∧ (∀ i, i < k → opQ (l.map scU) i = false) ∧ Src wr w1.heap.size 34 N (opP k : Int) ∧ Below w.heap.size w wr) (fun t _ => 111 - (intOf t).toNat)
  case atStart => exact ⟨0, rfl, by omega, fun i hi => by omega, by rw [opP_zero]; exact Src.new w1 _ N 0, HB.out.alloc HB.out.size _⟩
  case round =>
    obtain ⟨k, rfl, hk, hq, hx, hb⟩ := hrel
    have HX := Lib.hid hx
    have HW1 := Lib.hid hb
    have HQ := Lib.hid hq
    have hs := hx.s
    have hi := hx.n
    clear hx hb hq
    by_cases hp : k < 111
    · obtain ⟨T, hT⟩ : ∃ T : ByteArray, T = ⟨(opR (k : Int)).1.toArray⟩ := ⟨_, rfl⟩
      have HWk := Lib.hid (HW.out k hp T hT)
      obtain ⟨h0, c, hc, he⟩ := name_head k hp T hT
      have hc8 : (0 : Int) ≤ (c.toNat : Int) ∧ (c.toNat : Int) ≤ 255 := by have := c.toNat_lt; omega
      have HT := Lib.hid hT
      have HZ1 : Hid (w.heap.size ≤ w1.heap.size) := Lib.hid HB.out.size
      clear hT
      cases hqk : opQ (l.map scU) k with
      | true =>
        obtain ⟨h1, h2⟩ := opQ_true hqk
        obtain rfl : T = U := by rw [HT.out, HE.out, h1]
        rw [h2] at he
        have he2 : ((c.toNat : Int) != 40) = true := by rw [bne, he]; rfl
        have HC := Lib.hid hqk
        clear h1 h2 hqk
        go_wp2_with (first
          | (go_at_call 22; refine (HWk.out _).mono ?_; rintro e w2 ⟨rfl, hb2⟩; have X2 := Lib.hid (HX.out.keep hb2); have HB2 := Lib.hid (below_then HW1.out hb2); have Z := X2.out.alloc (.cells #[.string N, .int .i64 (opP (k + 1) : Int)] 34); have z1 := Z.s; have z2 := Z.n; have z3 := Z.fs; have z4 := Z.fn; have HZ := Lib.hid Z; clear Z hb2))
        go_ret2
        have e := (opF_yes _ k hp HC.out HQ.out).symm.trans HV.out
        simp only [Prod.mk.injEq] at e
        obtain ⟨rfl, rfl⟩ := e
        exact ⟨rfl, ((HB2.out.alloc HB2.out.size _).setCell HZ1.out _).setCell HZ1.out _⟩
      | false =>
        have HR : Hid (∀ i, i < k + 1 → opQ (l.map scU) i = false) := Lib.hid fun i hi => by
          rcases Nat.lt_or_eq_of_le (Nat.le_of_lt_succ hi) with h | rfl
          · exact HQ.out i h
          · exact hqk
        have hcs : (T.toList == U.toList) = false ∨ ((T.toList == U.toList) = true ∧ ((c.toNat : Int) != 40) = false) := by
          rcases opQ_false hqk with h1 | h1
          · exact .inl (mk_ne HT.out HE.out h1)
          · cases (T.toList == U.toList) with
            | false => exact .inl rfl
            | true => exact .inr ⟨rfl, by rw [h1] at he; rw [bne, he]; rfl⟩
        clear he hqk
        rcases hcs with hcs | ⟨hcs, he⟩
        all_goals
          go_wp2_with (first
            | (go_at_call 22; refine (HWk.out _).mono ?_; rintro e w2 ⟨rfl, hb2⟩; have X2 := Lib.hid (HX.out.keep hb2); have HB2 := Lib.hid (below_then HW1.out hb2); have Z := X2.out.alloc (.cells #[.string N, .int .i64 (opP (k + 1) : Int)] 34); have z1 := Z.s; have z2 := Z.n; have z3 := Z.fs; have z4 := Z.fn; have HZ := Lib.hid Z; clear Z hb2))
          go_roundw
          case rel => exact ⟨k + 1, by go_num, by omega, HR.out, HZ.out.set N (opP (k + 1) : Int), ((HB2.out.alloc HB2.out.size _).setCell HZ1.out _).setCell HZ1.out _⟩
          case measure => simp [intOf]; omega
    · obtain rfl : k = 111 := by omega
      have e := (opF_no _ HQ.out).symm.trans HV.out
      simp only [Prod.mk.injEq] at e
      obtain ⟨rfl, rfl⟩ := e
      go_wp2
      go_ret2
      exact ⟨rfl, HW1.out⟩
end Go.Proofs.Ytlpacdheabcpdaa
