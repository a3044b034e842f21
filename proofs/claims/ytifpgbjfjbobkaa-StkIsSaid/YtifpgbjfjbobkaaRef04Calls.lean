/-
  What the document's own calls of layer 4 answer (tenterhookref04: Push, Pop, Pick, Roll, Permute): the same as the calls of package stk, in the words of the plain facts (XStkMath).
-/
import Derived.Test.YtifpgbjfjbobkaaStkMovesWalk
import Derived.Deep.AppendSrc
namespace Go.Proofs.Ytifpgbjfjbobkaa
open Go.RowKit

/-- append onto a new list without ints, []int{}. -/
theorem run_app0 {w : World} {g : Nat} {B : Option Addr} {m d : Nat} {l : List Int} (ty : TypeId) (hs : Stk w B m d l) (hm : m ≤ 100000) :
    ∃ A' c' w', (Builtin.append_ #[22, 22] ty #[.slice (some ⟨g, 0, none⟩) 0 0, .slice B m d]).run Try.prog w = .ok (.slice A' m c') w' ∧ Stk w' A' m c' l ∧ Below w.heap.size w w' := by
  obtain ⟨i, hi, hz0, hz1, hz2⟩ := info_parts infoI
  have hsrc : Src Try.prog i.size 22 (.slice B m d) m (intsOf l) w := by
    cases B with
    | none =>
      obtain ⟨rfl, rfl, rfl⟩ := hs.none_
      exact Src.ofNil w Try.underlying22 0
    | some a => exact Src.ofSlice w Try.underlying22 a m d (intsOf l) (by rw [intsOf_length, hs.1, hz1, Nat.mul_one]) hs.src (intsOf_one l)
  rcases Nat.eq_zero_or_pos m with h0 | h0
  · subst h0
    obtain rfl : l = [] := List.eq_nil_of_length_eq_zero hs.1
    have h := run_append_room_src (P := Try.prog) w 22 22 ty 3 i Try.underlying22 hi g 0 0 0 (.slice B 0 d) 0 (intsOf []) hsrc (Nat.le_refl _) (fun j hj => by simp [intsOf] at hj) (fun j hj => by simp [intsOf] at hj)
    refine ⟨_, _, _, h, ⟨rfl, Nat.le_refl _, fun h => absurd h (by omega), fun h => by cases h⟩, ?_⟩
    exact Below.refl _ _
  · have h := run_append_grow_src (P := Try.prog) w 22 22 ty 3 i (.int .i64 0) Try.underlying22 hi hz0 (some ⟨g, 0, none⟩) 0 0 [] (run_firstCells_some w.drew i.size 0 ⟨g, 0, none⟩ 0 0 [] (by simp) (fun j v hv => by simp at hv)) (.slice B m d) m (intsOf l) hsrc (by omega) (by omega)
      (by rw [Nat.zero_add, nextslicecap_zero h0, hz2]; omega)
    rw [Nat.zero_add] at h
    have hge := grownCap_ge w m 0 3
    have hle := grownCap_le_maxLen w m 0 3 (by unfold maxLen; omega)
    refine ⟨_, _, _, h, Stk.of_own (base := w.heap.size) (e := 3) ⟨by rw [intsOf_length, hs.1, Nat.mul_one], .inr ⟨w.heap.size, _, _, rfl, Nat.le_refl _, heap_alloc_new w.drew _, hge, hle, ?_, ?_⟩⟩, ((Below.refl _ w).drew).alloc (Nat.le_refl _) _⟩
    · simp [Builtin.zeroCells, Value.cells, intsOf_length, hs.1]
      omega
    · have e : (intsOf l).length = m := by rw [intsOf_length, hs.1]
      simp [Builtin.zeroCells, Value.cells, ← e]
theorem wp_app0 {w : World} {o : Oper} {a : Act} {K : Act → World → Prop} {Q : Exit → Act → World → Prop} (s x : Operand)
    (ho : o.op = .call { callee := .builtin .append, args := #[s, x], argTypes := #[22, 22] })
    {B : Option Addr} {g m d : Nat} {l : List Int} (hs : a.eval s = .slice (some ⟨g, 0, none⟩) 0 0) (hx : a.eval x = .slice B m d) (hl : Stk w B m d l) (hn : m ≤ 100000)
    (hk : ∀ A' c' w', Stk w' A' m c' l → Below w.heap.size w w' → K (a.put o.dst (.slice A' m c')) w') : o.wp Try.prog a w K Q := by
  obtain ⟨A', c', w', hrun, h2, h3⟩ := run_app0 (g := g) o.type hl hn
  unfold Oper.wp execOp
  simp only [ho, resolve, invoke, builtin, Sem.run_bind, Sem.run_pure, Result.andThen_ok, List.map_toArray, List.map_cons, List.map_nil, hs, hx, hrun]
  exact hk A' c' w' h2 h3
theorem step_app0 {w : World} {ops : Array Oper} {o : Oper} {a : Act} {K : Act → World → Prop} {Q : Exit → Act → World → Prop} {E : Prop} (hgd : o.guard = none) (s x : Operand)
    (ho : o.op = .call { callee := .builtin .append, args := #[s, x], argTypes := #[22, 22] })
    {B : Option Addr} {g m d : Nat} {l : List Int} (hs : a.eval s = .slice (some ⟨g, 0, none⟩) 0 0) (hx : a.eval x = .slice B m d) (hl : Stk w B m d l) (hn : m ≤ 100000)
    (hk : ∀ A' c' w', Stk w' A' m c' l → Below w.heap.size w w' → K (a.put o.dst (.slice A' m c')) w') : if Region.wanted o (yielded ops a.tmps) = true then Oper.wp Try.prog o a w K Q else E := by
  have hw : Region.wanted o (yielded ops a.tmps) = true := by simp [Region.wanted, hgd]
  rw [if_pos hw]
  exact wp_app0 s x ho hs hx hl hn hk

set_option maxHeartbeats 400000 in
theorem rpush_any (A : Option Addr) (n c : Nat) (l : List Int) (most : Int) (B : Option Addr) (m d : Nat) (x : List Int) (w : World) (hn : n ≤ 10000) (hm : m ≤ 10000) (h1 : Stk w A n c l) (h2 : Stk w B m d x) :
    Calls Try.prog 11 #[.slice A n c, .int .i64 most, .slice B m d] w (StkPost w (pushL l x most) (pushE (l.length + x.length) most)) := by
  have HL := Lib.hid h1.len
  have HX := Lib.hid h2.len
  have H1 := Lib.hid h1
  have H2 := Lib.hid h2
  clear h1 h2
  cases hb : pushB (n + m) most
  · have HE := Lib.hid hb
    have ht : ¬ (most < (n : Int) + (m : Int)) := by have := of_decide_eq_false hb; omega
    clear hb
    go_enter Try.func11, Try.ntmps11
    go_wp2_with (first
      | (at_builtin; refine wpList_app (W := w) rfl (.tmp 20) (.tmp 21) rfl rfl rfl O1.out (H2.out.below O1.out.below) (by omega) ?_; intro A2 c2 w2 o2; have O2 := Lib.hid o2; clear o2)
      | (at_builtin; refine wpList_app (W := w) rfl (.tmp 17) (.tmp 18) rfl rfl rfl (Own.made w) (H1.out.alloc _) (by omega) ?_; intro A1 c1 w1 o1; rw [Nat.zero_add, List.nil_append] at o1; have O1 := Lib.hid o1; clear o1))
    go_ret2
    have hl := HL.out
    have hx := HX.out
    subst hl hx
    rw [pushL_ok HE.out, pushE_ok HE.out]
    exact ⟨A2, _, c2, rfl, O2.out.stk, O2.out.below⟩
  · have HE := Lib.hid hb
    have ht : most < (n : Int) + (m : Int) := by have := of_decide_eq_true hb; omega
    clear hb
    go_enter Try.func11, Try.ntmps11
    go_wp2
    go_ret2
    have hl := HL.out
    have hx := HX.out
    subst hl hx
    rw [pushL_over HE.out, pushE_over HE.out]
    exact ⟨A, _, c, rfl, H1.out, Below.refl _ _⟩

set_option maxHeartbeats 400000 in
theorem rpick_any (A : Option Addr) (n c : Nat) (l : List Int) (q : Int) (w : World) (hn : n ≤ 10000) (h1 : Stk w A n c l) :
    Calls Try.prog 15 #[.slice A n c, .int .i64 q] w fun e w' => e = .returned (.tuple #[.int .i64 (pickX l q), .int .i64 (pickE l.length q)]) ∧ w = w' := by
  have HL := Lib.hid h1.len
  cases hb : pickB n q
  · obtain ⟨k, rfl, hk⟩ := pickB_no hb
    obtain ⟨b, o, rfl, _, hc⟩ := h1.at_ (n - 1 - k) (by omega)
    have HE := Lib.hid hb
    have d0 : decide ((k : Int) < 0) = false := decide_eq_false (by omega)
    have HI : ((n : Int) - 1 - (k : Int)).toNat = n - 1 - k := by omega
    clear hb h1
    go_enter Try.func15, Try.ntmps15
    go_wp2
    go_ret2
    have hl := HL.out
    subst hl
    rw [pickX_ok HE.out, pickE_ok HE.out]
    exact ⟨rfl, rfl⟩
  · have HE := Lib.hid hb
    have hq := pickB_yes hb
    clear hb h1
    by_cases h0 : q < 0
    · have d0 : decide (q < 0) = true := decide_eq_true h0
      go_enter Try.func15, Try.ntmps15
      go_wp2
      go_ret2
      have hl := HL.out
      subst hl
      rw [pickX_under HE.out, pickE_under HE.out]
      exact ⟨rfl, rfl⟩
    · have d0 : decide (q < 0) = false := decide_eq_false h0
      have d1 : (n : Int) ≤ q := by omega
      go_enter Try.func15, Try.ntmps15
      go_wp2
      go_ret2
      have hl := HL.out
      subst hl
      rw [pickX_under HE.out, pickE_under HE.out]
      exact ⟨rfl, rfl⟩

set_option maxHeartbeats 1000000 in
theorem rpop_any (A : Option Addr) (n c : Nat) (l : List Int) (q : Int) (w : World) (hn : n ≤ 10000) (h1 : Stk w A n c l) :
    Calls Try.prog 13 #[.slice A n c, .int .i64 q] w (PopPost w (popL l q) (popX l q) (popE l.length q)) := by
  have HL := Lib.hid h1.len
  cases hb : popB n q
  · obtain ⟨k, rfl, hk⟩ := popB_no hb
    obtain ⟨j, rfl⟩ : ∃ j, n = j + k := ⟨n - k, by omega⟩
    obtain ⟨A1, c1, r1, s1⟩ := h1.head j (by omega)
    obtain ⟨A2, c2, r2, s2⟩ := h1.tail j (by omega)
    rw [show j + k - j = k by omega] at r2 s2
    have HE := Lib.hid hb
    have S1 := Lib.hid s1
    have S2 := Lib.hid s2
    have hd : decide ((k : Int) < 0) = false := decide_eq_false (by omega)
    have hd2 : decide ((j : Int) + (k : Int) < (k : Int)) = false := decide_eq_false (by omega)
    have hx : wrap64 ((j : Int) + (k : Int) - (k : Int)) = (j : Int) := by unfold wrap64; omega
    have hj : j ≤ 100000 := by omega
    have hk2 : k ≤ 100000 := by omega
    clear hb h1 s1 s2
    go_enter Try.func13, Try.ntmps13
    go_wp2
    go_region_held3 (fun w' => Below w.heap.size w w') (first | assumption | exact Below.refl _ _ | exact (Below.refl _ _).drew | exact ((Below.refl _ _).alloc (Nat.le_refl _) _).drew | exact (((Below.refl _ _).alloc (Nat.le_refl _) _).alloc (by simp) _).drew | exact hb1.alloc hb1.size _ | (refine Below.alloc ?_ ?_ _; assumption; exact Below.size (by assumption)) | (refine Below.drew (Below.alloc ?_ ?_ _); assumption; exact Below.size (by assumption)))
      (first
        | (refine step_app0 rfl (.tmp 21) (.tmp 24) rfl rfl rfl (S1.out.below (by assumption)) hj ?_; intro A3 c3 w1 s3 b3; have hb1 := below_then (by assumption) b3; have R1 := Lib.hid s3; clear s3 b3)
        | (refine step_app0 rfl (.tmp 26) (.tmp 29) rfl rfl rfl (S2.out.below (by assumption)) hk2 ?_; intro A4 c4 w2 s4 b4; have hb2 := below_then (by assumption) b4; have R2 := Lib.hid s4; have R3 : Hid (Stk w2 A3 j c3 (l.take j)) := (by first | exact R1.out.below b4 | exact (R1.out.alloc _).below b4); clear s4 b4))
    all_goals
      go_wp2
      go_ret3
      have hl := HL.out
      rw [← hl] at HE
      rw [popL_ok HE.out, popX_ok HE.out, popE_ok HE.out, hl, Int.toNat_natCast, show j + k - k = j by omega]
      exact ⟨A3, _, c3, A4, _, c4, rfl, R3.out, R2.out, hb2⟩
  · have HE := Lib.hid hb
    have hq := popB_yes hb
    have H1 := Lib.hid h1
    clear hb h1
    by_cases h0 : q < 0
    · have hd : decide (q < 0) = true := decide_eq_true h0
      go_enter Try.func13, Try.ntmps13
      go_wp2
      go_ret3
      have hl := HL.out
      rw [← hl] at HE
      rw [popL_under HE.out, popX_under HE.out, popE_under HE.out]
      exact ⟨A, _, c, none, 0, 0, rfl, H1.out, Stk.nil, Below.refl _ _⟩
    · have hd : decide (q < 0) = false := decide_eq_false h0
      have hd2 : (n : Int) < q := by omega
      go_enter Try.func13, Try.ntmps13
      go_wp2
      go_ret3
      have hl := HL.out
      rw [← hl] at HE
      rw [popL_under HE.out, popX_under HE.out, popE_under HE.out]
      exact ⟨A, _, c, none, 0, 0, rfl, H1.out, Stk.nil, Below.refl _ _⟩

set_option maxHeartbeats 1000000 in
theorem rroll_any (A : Option Addr) (n c : Nat) (l : List Int) (q : Int) (w : World) (hn : n ≤ 10000) (h1 : Stk w A n c l) :
    Calls Try.prog 18 #[.slice A n c, .int .i64 q] w (StkPost w (rollL l q) (pickE l.length q)) := by
  have HL := Lib.hid h1.len
  have P := rpick_any A n c l q w hn h1
  cases hb : pickB n q
  · obtain ⟨k, rfl, hk⟩ := pickB_no hb
    obtain ⟨j, rfl⟩ : ∃ j, n = j + 1 + k := ⟨n - 1 - k, by omega⟩
    obtain ⟨A1, c1, r1, s1⟩ := h1.head j (by omega)
    obtain ⟨A2, c2, r2, s2⟩ := h1.tail (j + 1) (by omega)
    rw [show j + 1 + k - (j + 1) = k by omega] at r2 s2
    rw [show (((j + 1 : Nat)) : Int) = (j : Int) + 1 by omega] at r2
    have HE := Lib.hid hb
    have hx0 : pickX l (k : Int) = l.getD j 0 := by rw [pickX_ok (by rw [HL.out]; exact hb), HL.out, Int.toNat_natCast, show j + 1 + k - 1 - k = j by omega]
    rw [pickE_ok (by rw [HL.out]; exact hb), hx0] at P
    generalize hV : l.getD j 0 = V at *
    have HV := Lib.hid hV
    have PP := Lib.hid P
    have H1 := Lib.hid s1
    have H2 := Lib.hid s2
    have hx : wrap64 (wrap64 ((j : Int) + 1 + (k : Int) - 1) - (k : Int)) = (j : Int) := by unfold wrap64; omega
    have hx2 : (j : Int) + 1 + (k : Int) - 1 - (k : Int) = (j : Int) := by omega
    clear hb h1 s1 s2 hV P hx0
    go_enter Try.func18, Try.ntmps18
    go_wp2_with (first
      | (go_at_call 15; (with_reducible refine PP.out.mono ?_); rintro e w' ⟨rfl, rfl⟩)
      | (at_builtin; refine wpList_app (W := w) rfl (.tmp 36) (.tmp 38) rfl rfl rfl (O2.out.alloc _) (stk_one _ V) (by omega) ?_; intro A5 c5 w3 o3; have O3 := Lib.hid o3; clear o3)
      | (at_builtin; refine wpList_app (W := w) rfl (.tmp 30) (.tmp 34) rfl rfl rfl O1.out (H2.out.below O1.out.below) (by omega) ?_; intro A4 c4 w2 o2; have O2 := Lib.hid o2; clear o2)
      | (at_builtin; refine wpList_app (W := w) rfl (.tmp 25) (.tmp 28) rfl rfl rfl (Own.made w) (H1.out.alloc _) (by omega) ?_; intro A3 c3 w1 o1; rw [Nat.zero_add, List.nil_append] at o1; have O1 := Lib.hid o1; clear o1))
    go_ret2
    have hl := HL.out
    rw [← hl] at HE
    rw [rollL_ok HE.out, pickE_ok HE.out, hl, Int.toNat_natCast, show j + 1 + k - 1 - k = j by omega]
    refine ⟨A5, _, c5, rfl, O3.out.stk.as ?_, O3.out.below⟩
    unfold lastly
    rw [HV.out, List.append_assoc]
  · have HE := Lib.hid hb
    have H1 := Lib.hid h1
    rw [pickE_under (by rw [HL.out]; exact hb)] at P
    have PP := Lib.hid P
    clear hb h1 P
    go_enter Try.func18, Try.ntmps18
    go_wp2_with (go_at_call 15; (with_reducible refine PP.out.mono ?_); rintro e w' ⟨rfl, rfl⟩)
    go_ret2
    have hl := HL.out
    subst hl
    rw [rollL_under HE.out, pickE_under HE.out]
    exact ⟨A, _, c, rfl, H1.out, Below.refl _ _⟩
theorem nameL_next (x to : List Int) (k i : Nat) (h : k < to.length) (e : to[k] = (i : Int)) : nameL x (to.take (k + 1)) = nameL x (to.take k) ++ [x.getD i 0] := by
  unfold nameL
  rw [List.take_succ_eq_append_getElem h, List.map_append]
  simp [e]
set_option maxHeartbeats 2000000 in
theorem rpermute_any (A : Option Addr) (n c : Nat) (l : List Int) (q : Int) (B : Option Addr) (m d : Nat) (to : List Int) (most : Int) (w : World) (hn : n ≤ 10000) (hm : m ≤ 10000) (h1 : Stk w A n c l) (h2 : Stk w B m d to) :
    Calls Try.prog 20 #[.slice A n c, .int .i64 q, .slice B m d, .int .i64 most] w (StkPost w (permL l q to most) (permE l q to most)) := by
  have HL := Lib.hid h1.len
  have HM := Lib.hid h2.len
  have H1 := Lib.hid h1
  have H2 := Lib.hid h2
  have P1 := rpop_any A n c l q w hn h1
  clear h1 h2
  cases hp : popB l.length q
  · have HP := Lib.hid hp
    rw [popE_ok hp] at P1
    have HP1 := Lib.hid P1
    clear hp P1
    go_enter Try.func20, Try.ntmps20
    go_wp2_with (go_at_call 13; refine HP1.out.mono ?_; rintro e w1 ⟨A1, n1, c1, A2, n2, c2, rfl, s1, s2, b1⟩; have S1 := Lib.hid s1; have S2 := Lib.hid s2; have B1 := Lib.hid b1; have HT := Lib.hid (H2.out.below b1); clear s1 s2 b1)
    have L2 := Lib.hid S2.out.len
    have L1 := Lib.hid S1.out.len
    go_loopw [13, 14] (fun v i wr => ∃ (k : Nat) (A' : Option Addr) (c' : Nat), k ≤ m ∧ i = .int .i64 (k : Int) ∧ v = .slice A' k c' ∧ Own w1 wr A' k c' (nameL (popX l q) (to.take k)) ∧ (∀ j (hj : j < to.length), j < k → pickB n2 to[j] = false)) (fun _ i _ => ((m : Int) - intOf i).toNat)
    case atStart => exact ⟨0, none, 0, by omega, rfl, rfl, Own.nil w1, fun j _ h => by omega⟩
    case round =>
      obtain ⟨k, A3, c3, hk, rfl, rfl, hO, hP⟩ := hrel
      have O2 := Lib.hid hO
      have HQ := Lib.hid hP
      clear hO hP
      by_cases hlt : k < m
      · have hkt : k < to.length := by rw [HM.out]; exact hlt
        obtain ⟨b2, o2, rfl, hb2, hc2⟩ := (HT.out.below O2.out.below).at_ k hlt
        have HG : Hid (to.getD k 0 = to[k]) := show _ = _ by simp [List.getD, hkt]
        cases hp : pickB n2 (to.getD k 0)
        · obtain ⟨i, hi, hin⟩ := pickB_no hp
          obtain ⟨b1, o1, rfl, hb1, hc1⟩ := (S2.out.below O2.out.below).at_ i hin
          have NX := Lib.hid (nameL_next (popX l q) to k i hkt (by rw [← HG.out]; exact hi))
          have HQ2 : Hid (∀ j (hj : j < to.length), j < k + 1 → pickB n2 to[j] = false) := by
            intro j hj hlt
            rcases Nat.lt_or_ge j k with h | h
            · exact HQ.out j hj h
            · obtain rfl : j = k := by omega
              rw [← HG.out]; exact hp
          have d0 : decide ((i : Int) < 0) = false := decide_eq_false (by omega)
          rw [hi] at hc2
          generalize hV : (popX l q).getD i 0 = V at *
          clear hp hi hV
          go_wp2_with (at_builtin; refine wpList_app (W := w1) rfl (.tmp 48) (.tmp 56) rfl rfl rfl (O2.out.alloc _) (stk_one _ V) (by omega) ?_; intro A5 c5 w3 o3; rw [← NX.out] at o3; have O3 := Lib.hid o3; clear o3)
          go_roundw
          case rel => exact ⟨k + 1, A5, c5, by omega, by go_num, rfl, O3.out, HQ2.out⟩
          case measure => simp [intOf]; omega
        · have HN : Hid (nameB n2 to = true) := nameB_some hkt (by rw [← HG.out]; exact hp)
          have hV := pickB_yes hp
          have HE : Hid (permE l q to most = -4) := permE_name HP.out (by rw [L2.out]; exact HN.out)
          generalize to.getD k 0 = V at *
          clear hp
          by_cases h0 : V < 0
          · have d0 : decide (V < 0) = true := decide_eq_true h0
            go_wp2
            go_ret2
            rw [permL_bad (by rw [HE.out]; decide), HE.out]
            have hB := below_then B1.out O2.out.below
            exact ⟨A, n, c, rfl, H1.out.below hB, hB⟩
          · have d0 : decide (V < 0) = false := decide_eq_false h0
            have d1 : (n2 : Int) ≤ V := by omega
            go_wp2
            go_ret2
            rw [permL_bad (by rw [HE.out]; decide), HE.out]
            have hB := below_then B1.out O2.out.below
            exact ⟨A, n, c, rfl, H1.out.below hB, hB⟩
      · obtain rfl : k = m := by omega
        have HN : Hid (nameB n2 to = false) := nameB_of fun j hj => HQ.out j hj (by rw [← HM.out]; exact hj)
        have hO := O2.out
        rw [List.take_of_length_le (by rw [HM.out]; exact Nat.le_refl _)] at hO
        have P3 := rpush_any A1 n1 c1 _ most A3 k c3 _ _ (by rw [← L1.out]; exact Nat.le_trans popL_length (by rw [HL.out]; exact hn)) hm (S1.out.below hO.below) hO.stk
        have HB := Lib.hid hO.below
        have hEE : permE l q to most = pushE ((popL l q).length + to.length) most := permE_push HP.out (by rw [L2.out]; exact HN.out)
        rw [nameL_length] at P3
        clear hO
        cases hq : pushB ((popL l q).length + to.length) most
        · rw [pushE_ok hq, pushL_ok (by rw [nameL_length]; exact hq)] at P3
          have e0 : Hid (permE l q to most = 0) := show _ = _ by rw [hEE, pushE_ok hq]
          have P4 := Lib.hid P3
          clear P3 hq hEE
          go_wp2_with (go_at_call 11; (with_reducible refine P4.out.mono ?_); rintro e w4 ⟨A5, n5, c5, rfl, s5, b5⟩; have S5 := Lib.hid s5; have B5 := Lib.hid (below_then (below_then B1.out HB.out) b5); clear s5 b5)
          go_ret2
          rw [permL_ok e0.out, e0.out]
          exact ⟨A5, n5, c5, rfl, S5.out, B5.out⟩
        · rw [pushE_over hq] at P3
          have e0 : Hid (permE l q to most = -3) := show _ = _ by rw [hEE, pushE_over hq]
          have P4 := Lib.hid P3
          clear P3 hq hEE
          go_wp2_with (go_at_call 11; (with_reducible refine P4.out.mono ?_); rintro e w4 ⟨A5, n5, c5, rfl, s5, b5⟩; have B5 := Lib.hid (below_then (below_then B1.out HB.out) b5); clear s5 b5)
          go_ret2
          rw [permL_bad (by rw [e0.out]; decide), e0.out]
          exact ⟨A, n, c, rfl, H1.out.below B5.out, B5.out⟩
  · have HP := Lib.hid hp
    rw [popE_under hp] at P1
    have HP1 := Lib.hid P1
    clear hp P1
    go_enter Try.func20, Try.ntmps20
    go_wp2_with (go_at_call 13; refine HP1.out.mono ?_; rintro e w1 ⟨A1, n1, c1, A2, n2, c2, rfl, s1, s2, b1⟩; have B1 := Lib.hid b1; clear s1 s2 b1)
    go_ret2
    have e0 : permE l q to most = -4 := permE_pop HP.out
    rw [permL_bad (by rw [e0]; decide), e0]
    exact ⟨A, n, c, rfl, H1.out.below B1.out, B1.out⟩
end Go.Proofs.Ytifpgbjfjbobkaa
