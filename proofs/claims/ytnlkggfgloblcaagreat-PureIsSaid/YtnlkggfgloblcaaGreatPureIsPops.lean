/-
  The document's own calls of layer 4 (tenterhookref04), and its Pop with a row of the call's own.
-/
import Derived.Test.YtnlkggfgloblcaaGreatStkAwake
import Derived.Test.YtnlkggfgloblcaaGreatCellMath
import Derived.Deep.AppendSrc
import Derived.Test.YtnlkggfgloblcaaGreatPureHeld
/-! From StkPicksWalk. -/
namespace Go.Proofs.YtnlkggfgloblcaaGreat
open Go.RowKit

theorem stk_one (w : World) (a : Int) : Stk (w.alloc (.cells #[.int .i64 a] 3)) (some ⟨w.heap.size, 0, none⟩) 1 1 [a] := by
  refine ⟨rfl, Nat.le_refl _, fun _ => ⟨_, 0, rfl, by simp, fun j hj => ?_⟩, fun h => by cases h⟩
  rw [Nat.zero_add, cell_of_row _ _ j _ 3 (0, 0) (heap_alloc_new w _)]
  match j, hj with
  | 0, _ => rfl
theorem pops_length {l : List Int} {k : Nat} (h : k ≤ l.length) : (popL l (k : Int)).length = l.length - k := by
  rw [popL_ok (popB_nat h), List.length_take, Int.toNat_natCast]; omega
theorem popx_length {l : List Int} {k : Nat} (h : k ≤ l.length) : (popX l (k : Int)).length = k := by
  rw [popX_ok (popB_nat h), List.length_drop, Int.toNat_natCast]; omega
theorem picks_top {l : List Int} {k : Nat} (h : k < l.length) : pickX (popL l (k : Int)) 0 = pickX l (k : Int) := by
  have e := pops_length (l := l) (k := k) (by omega)
  rw [pickX_ok (pickB_nat h), pickX_ok (n := 0) (by rw [e]; exact pickB_nat (k := 0) (by omega)), e, popL_ok (popB_nat (by omega))]
  simp only [Int.toNat_natCast, Int.toNat_zero, List.getD_eq_getElem?_getD]
  rw [List.getElem?_take, if_pos (by omega)]
  congr 2
  omega
theorem picks_E {l : List Int} {k : Nat} (h : k < l.length) : pickE (popL l (k : Int)).length 0 = 0 :=
  pickE_ok (by rw [pops_length (by omega)]; exact pickB_nat (k := 0) (by omega))
theorem picks_under {l : List Int} {k : Nat} (h : k < l.length) : permE l (k : Int) [(k : Int)] 999 = -4 := by
  refine permE_name (popB_nat (by omega)) ?_
  rw [popx_length (by omega)]
  simp [nameB, pickB]
section
variable (A : Option Addr) (n c : Nat) (l : List Int) (w : World)
end
end Go.Proofs.YtnlkggfgloblcaaGreat

/-! From StkBackWalk. -/
namespace Go.Proofs.YtnlkggfgloblcaaGreat
open Go.RowKit

theorem back_L (l x : List Int) : popL (l ++ x) (x.length : Int) = l := by
  rw [popL_ok (popB_nat (by simp)), Int.toNat_natCast]
  simp
theorem back_X (l x : List Int) : popX (l ++ x) (x.length : Int) = x := by
  rw [popX_ok (popB_nat (by simp)), Int.toNat_natCast]
  simp
theorem back_E (l x : List Int) : popE (l ++ x).length (x.length : Int) = 0 := popE_ok (popB_nat (by simp))
theorem push_ok (A : Option Addr) (n c : Nat) (l : List Int) (most : Int) (B : Option Addr) (m d : Nat) (x : List Int) (w : World) (hn : n ≤ 10000) (hm : m ≤ 10000) (h1 : Stk w A n c l) (h2 : Stk w B m d x) (h : (n : Int) + (m : Int) ≤ most) :
    Calls Tryz.prog 130 #[.slice A n c, .int .i64 most, .slice B m d] w (StkPost w (l ++ x) 0) := by
  have P := push_any A n c l most B m d x w hn hm h1 h2
  have e : pushB (l.length + x.length) most = false := pushB_no (by rw [h1.len, h2.len]; omega)
  rw [pushE_ok e, pushL_ok e] at P
  exact P
theorem push_no (A : Option Addr) (n c : Nat) (l : List Int) (most : Int) (B : Option Addr) (m d : Nat) (x : List Int) (w : World) (hn : n ≤ 10000) (hm : m ≤ 10000) (h1 : Stk w A n c l) (h2 : Stk w B m d x) (h : most < (n : Int) + (m : Int)) :
    Calls Tryz.prog 130 #[.slice A n c, .int .i64 most, .slice B m d] w (StkPost w l (-3)) := by
  have P := push_any A n c l most B m d x w hn hm h1 h2
  have e : pushB (l.length + x.length) most = true := pushB_yes (by rw [h1.len, h2.len]; omega)
  rw [pushE_over e, pushL_over e] at P
  exact P
section
variable (A : Option Addr) (n c : Nat) (l : List Int) (B : Option Addr) (m d : Nat) (x : List Int) (w : World)
end
end Go.Proofs.YtnlkggfgloblcaaGreat

/-! From StkMovesWalk. -/
namespace Go.Proofs.YtnlkggfgloblcaaGreat
open Go.RowKit

theorem and65535 (x : Int) : bits .and .i64 x 65535 = x % 65536 := bits_and_low 16 (by decide) x
theorem low_mod (q : Int) (n : Nat) (h : 0 < n) : ∃ k : Nat, (bits .and .i64 q 65535).tmod (n : Int) = (k : Int) ∧ k < n := by
  rw [and65535, Int.tmod_eq_emod_of_nonneg (by omega)]
  have h0 := Int.emod_nonneg (q % 65536) (b := (n : Int)) (by omega)
  have h1 := Int.emod_lt_of_pos (q % 65536) (b := (n : Int)) (by omega)
  exact ⟨(q % 65536 % (n : Int)).toNat, by omega, by omega⟩
theorem Own.alloc {W w : World} {A : Option Addr} {n c : Nat} {l : List Int} (h : Own W w A n c l) (o : Obj) : Own W (w.alloc o) A n c l := by
  obtain ⟨⟨h1, h2⟩, hb⟩ := h
  refine ⟨⟨h1, ?_⟩, hb.alloc hb.size o⟩
  rcases h2 with h2 | ⟨g, cap, cur, e, hg, hh, hr⟩
  · exact .inl h2
  · exact .inr ⟨g, cap, cur, e, hg, (Below.heap_alloc w o g (row_lt hh)).trans hh, hr⟩

theorem moves_E (l : List Int) (k : Nat) (h : k < l.length) : permE l ((k : Int) + 1) (ups k ++ [0]) (l.length : Int) = 0 := by
  have e : ((k : Int) + 1) = ((k + 1 : Nat) : Int) := by omega
  rw [e, permE_push (popB_nat (by omega)) (by rw [popx_length (by omega)]; exact nameB_ups k), pops_length (by omega)]
  refine pushE_ok (pushB_no ?_)
  simp [ups_length]
  omega
theorem moves_L (l : List Int) (k : Nat) (h : k < l.length) : permL l ((k : Int) + 1) (ups k ++ [0]) (l.length : Int) = rollL l (k : Int) := by
  rw [permL_ok (moves_E l k h)]
  have e : ((k : Int) + 1) = ((k + 1 : Nat) : Int) := by omega
  have hx := popx_length (l := l) (k := k + 1) (by omega)
  rw [e, name_ups _ k hx, rollL_ok (pickB_nat h), lastly_parts, popL_ok (popB_nat (by omega)), popX_ok (popB_nat (by omega))]
  simp only [Int.toNat_natCast]
  rw [show l.length - (k + 1) = l.length - 1 - k by omega]
theorem roll_ok (A : Option Addr) (n c : Nat) (l : List Int) (k : Nat) (w : World) (hn : n ≤ 10000) (hk : k < n) (h1 : Stk w A n c l) :
    Calls Tryz.prog 57 #[.slice A n c, .int .i64 (k : Int)] w (StkPost w (rollL l (k : Int)) 0) := by
  have P := roll_any A n c l (k : Int) w hn h1
  rw [pickE_ok (by rw [h1.len]; exact pickB_nat hk)] at P
  exact P
theorem rollL_len (l : List Int) (q : Int) : (rollL l q).length = l.length := by
  unfold rollL
  split
  · rfl
  · rename_i h
    obtain ⟨k, rfl, hk⟩ := pickB_no (Bool.eq_false_iff.2 h)
    exact lastly_length _ _ (by omega)
section
variable (A : Option Addr) (n c : Nat) (l : List Int) (w : World)
end
end Go.Proofs.YtnlkggfgloblcaaGreat

/-! From Ref04Calls. -/
namespace Go.Proofs.YtnlkggfgloblcaaGreat
open Go.RowKit

/-- append onto a new list without ints, []int{}. -/
theorem run_app0 {w : World} {g : Nat} {B : Option Addr} {m d : Nat} {l : List Int} (ty : TypeId) (hs : Stk w B m d l) (hm : m ≤ 100000) :
    ∃ A' c' w', (Builtin.append_ #[22, 22] ty #[.slice (some ⟨g, 0, none⟩) 0 0, .slice B m d]).run Tryz.prog w = .ok (.slice A' m c') w' ∧ Stk w' A' m c' l ∧ Below w.heap.size w w' := by
  obtain ⟨i, hi, hz0, hz1, hz2⟩ := info_parts infoI
  have hsrc : Src Tryz.prog i.size 22 (.slice B m d) m (intsOf l) w := by
    cases B with
    | none =>
      obtain ⟨rfl, rfl, rfl⟩ := hs.none_
      exact Src.ofNil w Tryz.underlying22 0
    | some a => exact Src.ofSlice w Tryz.underlying22 a m d (intsOf l) (by rw [intsOf_length, hs.1, hz1, Nat.mul_one]) hs.src (intsOf_one l)
  rcases Nat.eq_zero_or_pos m with h0 | h0
  · subst h0
    obtain rfl : l = [] := List.eq_nil_of_length_eq_zero hs.1
    have h := run_append_room_src (P := Tryz.prog) w 22 22 ty 3 i Tryz.underlying22 hi g 0 0 0 (.slice B 0 d) 0 (intsOf []) hsrc (Nat.le_refl _) (fun j hj => by simp [intsOf] at hj) (fun j hj => by simp [intsOf] at hj)
    refine ⟨_, _, _, h, ⟨rfl, Nat.le_refl _, fun h => absurd h (by omega), fun h => by cases h⟩, ?_⟩
    exact Below.refl _ _
  · have h := run_append_grow_src (P := Tryz.prog) w 22 22 ty 3 i (.int .i64 0) Tryz.underlying22 hi hz0 (some ⟨g, 0, none⟩) 0 0 [] (run_firstCells_some w.drew i.size 0 ⟨g, 0, none⟩ 0 0 [] (by simp) (fun j v hv => by simp at hv)) (.slice B m d) m (intsOf l) hsrc (by omega) (by omega)
      (by rw [Nat.zero_add, nextslicecap_zero h0, hz2]; omega)
    rw [Nat.zero_add] at h
    have hge := grownCap_ge w m 0 3
    have hle := grownCap_le_maxLen w m 0 3 (by unfold maxLen; omega)
    refine ⟨_, _, _, h, Stk.of_own (base := w.heap.size) (e := 3) ⟨by rw [intsOf_length, hs.1, Nat.mul_one], .inr ⟨w.heap.size, _, _, rfl, Nat.le_refl _, heap_alloc_new w.drew _, hge, hle, ?_, ?_⟩⟩, ((Below.refl _ w).drew).alloc (Nat.le_refl _) _⟩
    · simp [Builtin.zeroCells, Value.cells, intsOf_length, hs.1]
      omega
    · have e : (intsOf l).length = m := by rw [intsOf_length, hs.1]
      simp [Builtin.zeroCells, Value.cells, ← e]
theorem wp_app0 {w : World} {o : Oper} {a : Act} {K : Act → World → Prop} {Q : Exit → Act → World → Prop} (s x : Operand)
    (ho : o.op = .call { callee := .builtin .append, args := #[s, x], argTypes := #[22, 22] })
    {B : Option Addr} {g m d : Nat} {l : List Int} (hs : a.eval s = .slice (some ⟨g, 0, none⟩) 0 0) (hx : a.eval x = .slice B m d) (hl : Stk w B m d l) (hn : m ≤ 100000)
    (hk : ∀ A' c' w', Stk w' A' m c' l → Below w.heap.size w w' → K (a.put o.dst (.slice A' m c')) w') : o.wp Tryz.prog a w K Q := by
  obtain ⟨A', c', w', hrun, h2, h3⟩ := run_app0 (g := g) o.type hl hn
  unfold Oper.wp execOp
  simp only [ho, resolve, invoke, builtin, Sem.run_bind, Sem.run_pure, Result.andThen_ok, List.map_toArray, List.map_cons, List.map_nil, hs, hx, hrun]
  exact hk A' c' w' h2 h3
theorem step_app0 {w : World} {ops : Array Oper} {o : Oper} {a : Act} {K : Act → World → Prop} {Q : Exit → Act → World → Prop} {E : Prop} (hgd : o.guard = none) (s x : Operand)
    (ho : o.op = .call { callee := .builtin .append, args := #[s, x], argTypes := #[22, 22] })
    {B : Option Addr} {g m d : Nat} {l : List Int} (hs : a.eval s = .slice (some ⟨g, 0, none⟩) 0 0) (hx : a.eval x = .slice B m d) (hl : Stk w B m d l) (hn : m ≤ 100000)
    (hk : ∀ A' c' w', Stk w' A' m c' l → Below w.heap.size w w' → K (a.put o.dst (.slice A' m c')) w') : if Region.wanted o (yielded ops a.tmps) = true then Oper.wp Tryz.prog o a w K Q else E := by
  have hw : Region.wanted o (yielded ops a.tmps) = true := by simp [Region.wanted, hgd]
  rw [if_pos hw]
  exact wp_app0 s x ho hs hx hl hn hk

set_option maxHeartbeats 400000 in
theorem rpush_any (A : Option Addr) (n c : Nat) (l : List Int) (most : Int) (B : Option Addr) (m d : Nat) (x : List Int) (w : World) (hn : n ≤ 10000) (hm : m ≤ 10000) (h1 : Stk w A n c l) (h2 : Stk w B m d x) :
    Calls Tryz.prog 34 #[.slice A n c, .int .i64 most, .slice B m d] w (StkPost w (pushL l x most) (pushE (l.length + x.length) most)) := by
  have HL := Lib.hid h1.len
  have HX := Lib.hid h2.len
  have H1 := Lib.hid h1
  have H2 := Lib.hid h2
  clear h1 h2
  cases hb : pushB (n + m) most
  · have HE := Lib.hid hb
    have ht : ¬ (most < (n : Int) + (m : Int)) := by have := of_decide_eq_false hb; omega
    clear hb
    go_enter Tryz.func34, Tryz.ntmps34
    go_wp2_with (first
      | (at_builtin; refine wpList_app (W := w) rfl (.tmp 20) (.tmp 21) rfl rfl rfl O1.out (H2.out.below O1.out.below) (by omega) ?_; intro A2 c2 w2 o2; have O2 := Lib.hid o2; clear o2)
      | (at_builtin; refine wpList_app (W := w) rfl (.tmp 17) (.tmp 18) rfl rfl rfl (Own.made w) (H1.out.alloc _) (by omega) ?_; intro A1 c1 w1 o1; rw [Nat.zero_add, List.nil_append] at o1; have O1 := Lib.hid o1; clear o1))
    go_ret2
    have hl := HL.out
    have hx := HX.out
    subst hl hx
    rw [pushL_ok HE.out, pushE_ok HE.out]
    exact ⟨A2, _, c2, rfl, O2.out.stk, O2.out.below⟩
  · have HE := Lib.hid hb
    have ht : most < (n : Int) + (m : Int) := by have := of_decide_eq_true hb; omega
    clear hb
    go_enter Tryz.func34, Tryz.ntmps34
    go_wp2
    go_ret2
    have hl := HL.out
    have hx := HX.out
    subst hl hx
    rw [pushL_over HE.out, pushE_over HE.out]
    exact ⟨A, _, c, rfl, H1.out, Below.refl _ _⟩

set_option maxHeartbeats 400000 in
theorem rpick_any (A : Option Addr) (n c : Nat) (l : List Int) (q : Int) (w : World) (hn : n ≤ 10000) (h1 : Stk w A n c l) :
    Calls Tryz.prog 35 #[.slice A n c, .int .i64 q] w fun e w' => e = .returned (.tuple #[.int .i64 (pickX l q), .int .i64 (pickE l.length q)]) ∧ w = w' := by
  have HL := Lib.hid h1.len
  cases hb : pickB n q
  · obtain ⟨k, rfl, hk⟩ := pickB_no hb
    obtain ⟨b, o, rfl, _, hc⟩ := h1.at_ (n - 1 - k) (by omega)
    have HE := Lib.hid hb
    have d0 : decide ((k : Int) < 0) = false := decide_eq_false (by omega)
    have HI : ((n : Int) - 1 - (k : Int)).toNat = n - 1 - k := by omega
    clear hb h1
    go_enter Tryz.func35, Tryz.ntmps35
    go_wp2
    go_ret2
    have hl := HL.out
    subst hl
    rw [pickX_ok HE.out, pickE_ok HE.out]
    exact ⟨rfl, rfl⟩
  · have HE := Lib.hid hb
    have hq := pickB_yes hb
    clear hb h1
    by_cases h0 : q < 0
    · have d0 : decide (q < 0) = true := decide_eq_true h0
      go_enter Tryz.func35, Tryz.ntmps35
      go_wp2
      go_ret2
      have hl := HL.out
      subst hl
      rw [pickX_under HE.out, pickE_under HE.out]
      exact ⟨rfl, rfl⟩
    · have d0 : decide (q < 0) = false := decide_eq_false h0
      have d1 : (n : Int) ≤ q := by omega
      go_enter Tryz.func35, Tryz.ntmps35
      go_wp2
      go_ret2
      have hl := HL.out
      subst hl
      rw [pickX_under HE.out, pickE_under HE.out]
      exact ⟨rfl, rfl⟩

set_option maxHeartbeats 1000000 in
theorem rpop_any (A : Option Addr) (n c : Nat) (l : List Int) (q : Int) (w : World) (hn : n ≤ 10000) (h1 : Stk w A n c l) :
    Calls Tryz.prog 25 #[.slice A n c, .int .i64 q] w (PopPost w (popL l q) (popX l q) (popE l.length q)) := by
  have HL := Lib.hid h1.len
  cases hb : popB n q
  · obtain ⟨k, rfl, hk⟩ := popB_no hb
    obtain ⟨j, rfl⟩ : ∃ j, n = j + k := ⟨n - k, by omega⟩
    obtain ⟨A1, c1, r1, s1⟩ := h1.head j (by omega)
    obtain ⟨A2, c2, r2, s2⟩ := h1.tail j (by omega)
    rw [show j + k - j = k by omega] at r2 s2
    have HE := Lib.hid hb
    have S1 := Lib.hid s1
    have S2 := Lib.hid s2
    have hd : decide ((k : Int) < 0) = false := decide_eq_false (by omega)
    have hd2 : decide ((j : Int) + (k : Int) < (k : Int)) = false := decide_eq_false (by omega)
    have hx : wrap64 ((j : Int) + (k : Int) - (k : Int)) = (j : Int) := by unfold wrap64; omega
    have hj : j ≤ 100000 := by omega
    have hk2 : k ≤ 100000 := by omega
    clear hb h1 s1 s2
    go_enter Tryz.func25, Tryz.ntmps25
    go_wp2
    go_region_held3 (fun w' => Below w.heap.size w w') (first | assumption | exact Below.refl _ _ | exact (Below.refl _ _).drew | exact ((Below.refl _ _).alloc (Nat.le_refl _) _).drew | exact (((Below.refl _ _).alloc (Nat.le_refl _) _).alloc (by simp) _).drew | exact hb1.alloc hb1.size _ | (refine Below.alloc ?_ ?_ _; assumption; exact Below.size (by assumption)) | (refine Below.drew (Below.alloc ?_ ?_ _); assumption; exact Below.size (by assumption)))
      (first
        | (refine step_app0 rfl (.tmp 21) (.tmp 24) rfl rfl rfl (S1.out.below (by assumption)) hj ?_; intro A3 c3 w1 s3 b3; have hb1 := below_then (by assumption) b3; have R1 := Lib.hid s3; clear s3 b3)
        | (refine step_app0 rfl (.tmp 26) (.tmp 29) rfl rfl rfl (S2.out.below (by assumption)) hk2 ?_; intro A4 c4 w2 s4 b4; have hb2 := below_then (by assumption) b4; have R2 := Lib.hid s4; have R3 : Hid (Stk w2 A3 j c3 (l.take j)) := (by first | exact R1.out.below b4 | exact (R1.out.alloc _).below b4); clear s4 b4))
    all_goals
      go_wp2
      go_ret3
      have hl := HL.out
      rw [← hl] at HE
      rw [popL_ok HE.out, popX_ok HE.out, popE_ok HE.out, hl, Int.toNat_natCast, show j + k - k = j by omega]
      exact ⟨A3, _, c3, A4, _, c4, rfl, R3.out, R2.out, hb2⟩
  · have HE := Lib.hid hb
    have hq := popB_yes hb
    have H1 := Lib.hid h1
    clear hb h1
    by_cases h0 : q < 0
    · have hd : decide (q < 0) = true := decide_eq_true h0
      go_enter Tryz.func25, Tryz.ntmps25
      go_wp2
      go_ret3
      have hl := HL.out
      rw [← hl] at HE
      rw [popL_under HE.out, popX_under HE.out, popE_under HE.out]
      exact ⟨A, _, c, none, 0, 0, rfl, H1.out, Stk.nil, Below.refl _ _⟩
    · have hd : decide (q < 0) = false := decide_eq_false h0
      have hd2 : (n : Int) < q := by omega
      go_enter Tryz.func25, Tryz.ntmps25
      go_wp2
      go_ret3
      have hl := HL.out
      rw [← hl] at HE
      rw [popL_under HE.out, popX_under HE.out, popE_under HE.out]
      exact ⟨A, _, c, none, 0, 0, rfl, H1.out, Stk.nil, Below.refl _ _⟩

set_option maxHeartbeats 1000000 in
theorem rroll_any (A : Option Addr) (n c : Nat) (l : List Int) (q : Int) (w : World) (hn : n ≤ 10000) (h1 : Stk w A n c l) :
    Calls Tryz.prog 36 #[.slice A n c, .int .i64 q] w (StkPost w (rollL l q) (pickE l.length q)) := by
  have HL := Lib.hid h1.len
  have P := rpick_any A n c l q w hn h1
  cases hb : pickB n q
  · obtain ⟨k, rfl, hk⟩ := pickB_no hb
    obtain ⟨j, rfl⟩ : ∃ j, n = j + 1 + k := ⟨n - 1 - k, by omega⟩
    obtain ⟨A1, c1, r1, s1⟩ := h1.head j (by omega)
    obtain ⟨A2, c2, r2, s2⟩ := h1.tail (j + 1) (by omega)
    rw [show j + 1 + k - (j + 1) = k by omega] at r2 s2
    rw [show (((j + 1 : Nat)) : Int) = (j : Int) + 1 by omega] at r2
    have HE := Lib.hid hb
    have hx0 : pickX l (k : Int) = l.getD j 0 := by rw [pickX_ok (by rw [HL.out]; exact hb), HL.out, Int.toNat_natCast, show j + 1 + k - 1 - k = j by omega]
    rw [pickE_ok (by rw [HL.out]; exact hb), hx0] at P
    generalize hV : l.getD j 0 = V at *
    have HV := Lib.hid hV
    have PP := Lib.hid P
    have H1 := Lib.hid s1
    have H2 := Lib.hid s2
    have hx : wrap64 (wrap64 ((j : Int) + 1 + (k : Int) - 1) - (k : Int)) = (j : Int) := by unfold wrap64; omega
    have hx2 : (j : Int) + 1 + (k : Int) - 1 - (k : Int) = (j : Int) := by omega
    clear hb h1 s1 s2 hV P hx0
    go_enter Tryz.func36, Tryz.ntmps36
    go_wp2_with (first
      | (go_at_call 35; (with_reducible refine PP.out.mono ?_); rintro e w' ⟨rfl, rfl⟩)
      | (at_builtin; refine wpList_app (W := w) rfl (.tmp 36) (.tmp 38) rfl rfl rfl (O2.out.alloc _) (stk_one _ V) (by omega) ?_; intro A5 c5 w3 o3; have O3 := Lib.hid o3; clear o3)
      | (at_builtin; refine wpList_app (W := w) rfl (.tmp 30) (.tmp 34) rfl rfl rfl O1.out (H2.out.below O1.out.below) (by omega) ?_; intro A4 c4 w2 o2; have O2 := Lib.hid o2; clear o2)
      | (at_builtin; refine wpList_app (W := w) rfl (.tmp 25) (.tmp 28) rfl rfl rfl (Own.made w) (H1.out.alloc _) (by omega) ?_; intro A3 c3 w1 o1; rw [Nat.zero_add, List.nil_append] at o1; have O1 := Lib.hid o1; clear o1))
    go_ret2
    have hl := HL.out
    rw [← hl] at HE
    rw [rollL_ok HE.out, pickE_ok HE.out, hl, Int.toNat_natCast, show j + 1 + k - 1 - k = j by omega]
    refine ⟨A5, _, c5, rfl, O3.out.stk.as ?_, O3.out.below⟩
    unfold lastly
    rw [HV.out, List.append_assoc]
  · have HE := Lib.hid hb
    have H1 := Lib.hid h1
    rw [pickE_under (by rw [HL.out]; exact hb)] at P
    have PP := Lib.hid P
    clear hb h1 P
    go_enter Tryz.func36, Tryz.ntmps36
    go_wp2_with (go_at_call 35; (with_reducible refine PP.out.mono ?_); rintro e w' ⟨rfl, rfl⟩)
    go_ret2
    have hl := HL.out
    subst hl
    rw [rollL_under HE.out, pickE_under HE.out]
    exact ⟨A, _, c, rfl, H1.out, Below.refl _ _⟩
theorem nameL_next (x to : List Int) (k i : Nat) (h : k < to.length) (e : to[k] = (i : Int)) : nameL x (to.take (k + 1)) = nameL x (to.take k) ++ [x.getD i 0] := by
  unfold nameL
  rw [List.take_succ_eq_append_getElem h, List.map_append]
  simp [e]
end Go.Proofs.YtnlkggfgloblcaaGreat

/-! From PureRefD. -/
namespace Go.Proofs.YtnlkggfgloblcaaGreat
open Go.RowKit

/-- A row of the call's own, from a block on, or one without room. -/
def Ow (base : Nat) (w : World) (A : Option Addr) (n c : Nat) (l : List Int) : Prop := (n = 0 ∧ c = 0 ∧ ∃ g, A = some ⟨g, 0, none⟩) ∨ w.ownsRow base 3 1 (.slice A n c) n (intsOf l)
theorem Ow.keeps {base : Nat} {w w' : World} {A : Option Addr} {n c : Nat} {l : List Int} (h : Ow base w A n c l) (k : Keeps w w') : Ow base w' A n c l := by
  rcases h with h | ⟨h1, h2⟩
  · exact Or.inl h
  · refine Or.inr ⟨h1, ?_⟩
    rcases h2 with h2 | ⟨g, cap, cur, e, hb, hg, h3⟩
    · exact Or.inl h2
    · have hlt : g < w.heap.size := by
        rcases Nat.lt_or_ge g w.heap.size with h | h
        · exact h
        · rw [Array.getElem?_eq_none h] at hg; cases hg
      exact Or.inr ⟨g, cap, cur, e, hb, (k.block g hlt).trans hg, h3⟩
theorem Ow.mono {base base' : Nat} {w : World} {A : Option Addr} {n c : Nat} {l : List Int} (h : Ow base w A n c l) (hb : base' ≤ base) : Ow base' w A n c l := by
  rcases h with h | ⟨h1, h2⟩
  · exact Or.inl h
  · refine Or.inr ⟨h1, ?_⟩
    rcases h2 with h2 | ⟨g, cap, cur, e, hb', h3⟩
    · exact Or.inl h2
    · exact Or.inr ⟨g, cap, cur, e, Nat.le_trans hb hb', h3⟩
theorem run_app0o {w : World} {g : Nat} {B : Option Addr} {m d : Nat} {l : List Int} (ty : TypeId) (hs : Stk w B m d l) (hm : m ≤ 100000) :
    ∃ A' c' w', (Builtin.append_ #[22, 22] ty #[.slice (some ⟨g, 0, none⟩) 0 0, .slice B m d]).run Tryz.prog w = .ok (.slice A' m c') w' ∧ Stk w' A' m c' l ∧ Below w.heap.size w w' ∧ Ow w.heap.size w' A' m c' l := by
  obtain ⟨i, hi, hz0, hz1, hz2⟩ := info_parts infoI
  have hsrc : Src Tryz.prog i.size 22 (.slice B m d) m (intsOf l) w := by
    cases B with
    | none =>
      obtain ⟨rfl, rfl, rfl⟩ := hs.none_
      exact Src.ofNil w Tryz.underlying22 0
    | some a => exact Src.ofSlice w Tryz.underlying22 a m d (intsOf l) (by rw [intsOf_length, hs.1, hz1, Nat.mul_one]) hs.src (intsOf_one l)
  rcases Nat.eq_zero_or_pos m with h0 | h0
  · subst h0
    obtain rfl : l = [] := List.eq_nil_of_length_eq_zero hs.1
    have h := run_append_room_src (P := Tryz.prog) w 22 22 ty 3 i Tryz.underlying22 hi g 0 0 0 (.slice B 0 d) 0 (intsOf []) hsrc (Nat.le_refl _) (fun j hj => by simp [intsOf] at hj) (fun j hj => by simp [intsOf] at hj)
    refine ⟨_, _, _, h, ⟨rfl, Nat.le_refl _, fun h => absurd h (by omega), fun h => by cases h⟩, ?_, Or.inl ⟨rfl, rfl, g, rfl⟩⟩
    exact Below.refl _ _
  · have h := run_append_grow_src (P := Tryz.prog) w 22 22 ty 3 i (.int .i64 0) Tryz.underlying22 hi hz0 (some ⟨g, 0, none⟩) 0 0 [] (run_firstCells_some w.drew i.size 0 ⟨g, 0, none⟩ 0 0 [] (by simp) (fun j v hv => by simp at hv)) (.slice B m d) m (intsOf l) hsrc (by omega) (by omega)
      (by rw [Nat.zero_add, nextslicecap_zero h0, hz2]; omega)
    rw [Nat.zero_add] at h
    have hge := grownCap_ge w m 0 3
    have hle := grownCap_le_maxLen w m 0 3 (by unfold maxLen; omega)
    have hrow : (w.drew.alloc (.cells (([] ++ intsOf l).toArray ++ Builtin.zeroCells (Value.int .i64 0).cells (grownCap w m 0 3 - m)) 3)).ownsRow w.heap.size 3 1 (.slice (some ⟨w.heap.size, 0, none⟩) m (grownCap w m 0 3)) m (intsOf l) := ⟨by rw [intsOf_length, hs.1, Nat.mul_one], .inr ⟨w.heap.size, _, _, rfl, Nat.le_refl _, heap_alloc_new w.drew _, hge, hle, by
      simp [Builtin.zeroCells, Value.cells, intsOf_length, hs.1]
      omega, by
      have e : (intsOf l).length = m := by rw [intsOf_length, hs.1]
      simp [Builtin.zeroCells, Value.cells, ← e]⟩⟩
    exact ⟨_, _, _, h, Stk.of_own (base := w.heap.size) (e := 3) hrow, ((Below.refl _ w).drew).alloc (Nat.le_refl _) _, Or.inr hrow⟩
theorem step_app0o {w : World} {ops : Array Oper} {o : Oper} {a : Act} {K : Act → World → Prop} {Q : Exit → Act → World → Prop} {E : Prop} (hgd : o.guard = none) (s x : Operand)
    (ho : o.op = .call { callee := .builtin .append, args := #[s, x], argTypes := #[22, 22] })
    {B : Option Addr} {g m d : Nat} {l : List Int} (hs : a.eval s = .slice (some ⟨g, 0, none⟩) 0 0) (hx : a.eval x = .slice B m d) (hl : Stk w B m d l) (hn : m ≤ 100000)
    (hk : ∀ A' c' w', Stk w' A' m c' l → Below w.heap.size w w' → Ow w.heap.size w' A' m c' l → K (a.put o.dst (.slice A' m c')) w') : if Region.wanted o (yielded ops a.tmps) = true then Oper.wp Tryz.prog o a w K Q else E := by
  have hw : Region.wanted o (yielded ops a.tmps) = true := by simp [Region.wanted, hgd]
  rw [if_pos hw]
  obtain ⟨A', c', w', hrun, h2, h3, h4⟩ := run_app0o (g := g) o.type hl hn
  unfold Oper.wp execOp
  simp only [ho, resolve, invoke, builtin, Sem.run_bind, Sem.run_pure, Result.andThen_ok, List.map_toArray, List.map_cons, List.map_nil, hs, hx, hrun]
  exact hk A' c' w' h2 h3 h4
theorem run_appK {base w : World} {A B : Option Addr} {n c m d : Nat} {xs l : List Int} (ty : TypeId) (h : w.ownsRow base.heap.size 3 1 (.slice A n c) n (intsOf xs)) (hB : Keeps base w) (hs : Stk w B m d l) (hn : n + m ≤ 1000000) :
    ∃ A' c' w', (Builtin.append_ #[22, 22] ty #[.slice A n c, .slice B m d]).run Tryz.prog w = .ok (.slice A' (n + m) c') w' ∧ Stk w' A' (n + m) c' (xs ++ l) ∧ Keeps base w' := by
  obtain ⟨i, hi, hz0, hz1, hz2⟩ := info_parts infoI
  cases B with
  | none =>
    obtain ⟨rfl, rfl, rfl⟩ := hs.none_
    refine ⟨A, c, w, run_append_owned_none (P := Tryz.prog) (w := w) base.heap.size 22 ty 3 i 1 Tryz.underlying22 hi _ n (intsOf xs) h, ?_⟩
    rw [List.append_nil, Nat.add_zero]
    exact ⟨Stk.of_own h, hB⟩
  | some a =>
    obtain ⟨v', w', hrun, h2, h3, _, _⟩ := run_append_own_at (P := Tryz.prog) w base.heap.size 22 ty 3 i (.int .i64 0) 1 8 Tryz.underlying22 hi hz0 hz1 hz2 rfl (by decide) _ n (intsOf xs) h a m d (intsOf l)
      (by rw [intsOf_length, hs.1, Nat.mul_one]) hs.src (intsOf_one l) (by unfold maxLen; omega) (by omega) hB.size
    have hv : ∃ A' c', v' = .slice A' (n + m) c' := by
      rcases h2.2 with ⟨rfl, e⟩ | ⟨g, cap, cur, rfl, _⟩
      · exact ⟨none, 0, by rw [e]⟩
      · exact ⟨_, _, rfl⟩
    obtain ⟨A', c', rfl⟩ := hv
    rw [← intsOf_append] at h2
    exact ⟨A', c', w', hrun, Stk.of_own h2, hB.grownBy h3 (fun k hk => (h.lt k hk).1)⟩
/-- An append onto what Pop left. -/
theorem wpList_appO {base : World} {w : World} {ops : Array Oper} {rest : List Oper} {o : Oper} {a : Act} {Q : Exit → Act → World → Prop} (hgd : o.guard = none) (s x : Operand)
    (ho : o.op = .call { callee := .builtin .append, args := #[s, x], argTypes := #[22, 22] })
    {A B : Option Addr} {n c m d : Nat} {xs l : List Int} (hs : a.eval s = .slice A n c) (hx : a.eval x = .slice B m d) (h : Ow base.heap.size w A n c xs) (h0 : Stk w A n c xs) (hB : Keeps base w) (hl : Stk w B m d l) (hn : n ≤ 10000) (hm : m ≤ 10000)
    (hk : ∀ A' c' w', Stk w' A' (n + m) c' (xs ++ l) → Keeps base w' → wpList Tryz.prog ops Q rest (a.put o.dst (.slice A' (n + m) c')) w') : wpList Tryz.prog ops Q (o :: rest) a w := by
  rcases h with ⟨e1, e2, g, e3⟩ | h
  · subst e1 e2 e3
    obtain rfl : xs = [] := List.eq_nil_of_length_eq_zero h0.len
    refine wpList_plain hgd fun _ hK => ?_
    obtain ⟨A', c', w', hrun, h2, h3, _⟩ := run_app0o (g := g) o.type hl (by omega)
    unfold Oper.wp execOp
    simp only [ho, resolve, invoke, builtin, Sem.run_bind, Sem.run_pure, Result.andThen_ok, List.map_toArray, List.map_cons, List.map_nil, hs, hx, hrun]
    have := hk A' c' w'
    rw [Nat.zero_add, List.nil_append] at this
    exact hK _ _ (this h2 (hB.trans (keeps_below h3)))
  · refine wpList_plain hgd fun _ hK => ?_
    obtain ⟨A', c', w', hrun, h2, h3⟩ := run_appK o.type h hB hl (by omega)
    unfold Oper.wp execOp
    simp only [ho, resolve, invoke, builtin, Sem.run_bind, Sem.run_pure, Result.andThen_ok, List.map_toArray, List.map_cons, List.map_nil, hs, hx, hrun]
    exact hK _ _ (hk A' c' w' h2 h3)
set_option maxHeartbeats 1000000 in
theorem rpop_ow (A : Option Addr) (j k c : Nat) (l : List Int) (w : World) (hn : j + k ≤ 10000) (h1 : Stk w A (j + k) c l) :
    Calls Tryz.prog 25 #[.slice A (j + k) c, .int .i64 (k : Int)] w fun e w' => ∃ A1 c1 B d, e = .returned (.tuple #[.slice A1 j c1, .slice B k d, .int .i64 0]) ∧ Stk w' A1 j c1 (l.take j) ∧ Ow w.heap.size w' A1 j c1 (l.take j) ∧ Stk w' B k d (l.drop j) ∧ Keeps w w' := by
  obtain ⟨A1, c1, r1, s1⟩ := h1.head j (by omega)
  obtain ⟨A2, c2, r2, s2⟩ := h1.tail j (by omega)
  rw [show j + k - j = k by omega] at r2 s2
  have S1 := Lib.hid s1
  have S2 := Lib.hid s2
  have hd : decide ((k : Int) < 0) = false := decide_eq_false (by omega)
  have hd2 : decide ((j : Int) + (k : Int) < (k : Int)) = false := decide_eq_false (by omega)
  have hx : wrap64 ((j : Int) + (k : Int) - (k : Int)) = (j : Int) := by unfold wrap64; omega
  have hj : j ≤ 100000 := by omega
  have hk2 : k ≤ 100000 := by omega
  clear h1 s1 s2
  go_enter Tryz.func25, Tryz.ntmps25
  go_wp2
  go_region_held3 (fun w' => Below w.heap.size w w') (first | assumption | exact Below.refl _ _ | exact (Below.refl _ _).drew | exact ((Below.refl _ _).alloc (Nat.le_refl _) _).drew | exact (((Below.refl _ _).alloc (Nat.le_refl _) _).alloc (by simp) _).drew | exact hb1.alloc hb1.size _ | (refine Below.alloc ?_ ?_ _; assumption; exact Below.size (by assumption)) | (refine Below.drew (Below.alloc ?_ ?_ _); assumption; exact Below.size (by assumption)))
    (first
      | (refine step_app0o rfl (.tmp 21) (.tmp 24) rfl rfl rfl (S1.out.below (by assumption)) hj ?_; intro A3 c3 w1 s3 b3 o3; have hb1 := below_then (by assumption) b3; have R1 := Lib.hid s3; have W1 := Lib.hid (o3.mono (Below.size (by assumption))); clear s3 b3 o3)
      | (refine step_app0o rfl (.tmp 26) (.tmp 29) rfl rfl rfl (S2.out.below (by assumption)) hk2 ?_; intro A4 c4 w2 s4 b4 o4; have hb2 := below_then (by assumption) b4; have R2 := Lib.hid s4; have R3 : Hid (Stk w2 A3 j c3 (l.take j)) := (by first | exact R1.out.below b4 | exact (R1.out.alloc _).below b4); have W3 : Hid (Ow w.heap.size w2 A3 j c3 (l.take j)) := (by first | exact W1.out.keeps (keeps_below b4) | exact W1.out.keeps (((Keeps.refl _).alloc _).trans (keeps_below b4))); clear s4 b4 o4))
  all_goals
    go_wp2
    go_ret3
    exact ⟨A3, c3, A4, c4, rfl, R3.out, W3.out, R2.out, keeps_below hb2⟩
end Go.Proofs.YtnlkggfgloblcaaGreat
