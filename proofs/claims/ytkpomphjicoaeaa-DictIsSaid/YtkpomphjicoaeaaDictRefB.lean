/-
  What the document's own Add and Code of layer 11 answer.
-/
import Derived.Test.YtkpomphjicoaeaaDictRefA
namespace Go.Proofs.Ytkpomphjicoaeaa
open Go.RowKit

theorem wpList_appE0 {T E : TypeId} (pt : ET T E) {w : World} {ops : Array Oper} {rest : List Oper} {o : Oper} {a : Act} {Q : Exit → Act → World → Prop} (hgd : o.guard = none) (s x : Operand)
    (ho : o.op = .call { callee := .builtin .append, args := #[s, x], argTypes := #[T, T] })
    {B : Option Addr} {m d : Nat} {l : List En} (hs : a.eval s = .slice (some ⟨w.heap.size, 0, none⟩) 0 0) (hx : a.eval x = .slice B m d) (hl : Ens (w.alloc (.cells #[] E)) B m d l) (hn : m ≤ 100000)
    (hk : ∀ A' c' w', OwnE E w w' A' m c' l → wpList Try.prog ops Q rest (a.put o.dst (.slice A' m c')) w') : wpList Try.prog ops Q (o :: rest) a (w.alloc (.cells #[] E)) := by
  refine wpList_appE pt (W := w) hgd s x ho hs hx (OwnE.made E w) hl (by omega) ?_
  simpa only [Nat.zero_add, List.nil_append] using hk
set_option maxHeartbeats 2000000 in
theorem radd11_any (A : Option Addr) (n c : Nat) (l : List En) (S : ByteArray) (m : Bool) (k v t p : Int) (w : World) (hn : n ≤ 90000) (hs : S.size ≤ 2000) (h : Ens w A n c l) :
    Calls Try.prog 16 #[.slice A n c, .agg #[.string S, .bool m, .int .i64 k, .int .i64 v, .int .i64 t, .int .i64 p]] w (AddPost l ⟨S, m, k, v, t, p⟩ w) := by
  obtain ⟨T, hT⟩ : ∃ T, up S = T := ⟨_, rfl⟩
  have HT := Lib.hid hT
  have hTz : T.size ≤ 2000 := by rw [← hT, up_size]; exact hs
  obtain ⟨x, hx⟩ : ∃ x, adE l ⟨S, m, k, v, t, p⟩ = x := ⟨_, rfl⟩
  obtain ⟨L, hL⟩ : ∃ L, adL l ⟨S, m, k, v, t, p⟩ = L := ⟨_, rfl⟩
  unfold AddPost
  rw [hx, hL]
  have hl := h.len
  unfold adL at hL
  rw [hx] at hL
  unfold adE aU at hx
  simp only [hT] at hx hL
  have hN1 : nmB S = nmB T := by rw [← hT, nmB_up]
  rw [hN1] at hx
  unfold aU at hL
  simp only [hT] at hL
  clear hT hN1
  have H := Lib.hid h
  have HL0 := Lib.hid hl
  have X0 := Lib.hid (Ev.new w 26 ⟨S, m, k, v, t, p⟩)
  have HB0 := Lib.hid (below_one w (.cells #[.string S, .bool m, .int .i64 k, .int .i64 v, .int .i64 t, .int .i64 p] 26))
  clear h
  cases h1 : nmB T
  · rw [if_pos h1] at hx
    subst hx
    rw [if_neg (by omega)] at hL
    subst hL
    by_cases g : T.size < 1
    · have g1 : decide (T.size < 1) = true := decide_eq_true g
      have g2 : decide ((T.size : Int) < 1) = true := by simp; omega
      clear h1 hl g
      go_enter Try.func16, Try.ntmps16
      go_wp2_with (first
        | (go_at_call 32; refine (rupS_is _ _ hs HT.out _).mono ?_; rintro e w1 ⟨rfl, hb1⟩; have HB1 := Lib.hid (below_then HB0.out hb1); have X1 := Lib.hid (X0.out.keep hb1); clear hb1; have hf := X1.out.f 0; have hlt := X1.out.lt; have c0 := X1.out.c0; have HB2 := Lib.hid (HB1.out.setCell (p := ⟨w.heap.size, 0, none⟩) (Nat.le_refl _) (.string T)); have X2 := Lib.hid (X1.out.setS T); have d1 := X2.out.c1; have d2 := X2.out.c2; have d3 := X2.out.c3; have d4 := X2.out.c4; have d5 := X2.out.c5; have hlt2 := X2.out.lt))
      go_ret2
      exact ⟨A, c, by rw [HL0.out]; rfl, by rw [HL0.out]; exact H.out.below HB2.out, HB2.out⟩
    · have g1 : decide (T.size < 1) = false := decide_eq_false g
      have g2 : decide ((T.size : Int) < 1) = false := by simp; omega
      have g3 : decide ((31 : Int) < (T.size : Int)) = true := by
        unfold nmB at h1
        simp at h1 ⊢
        omega
      clear h1 hl g
      go_enter Try.func16, Try.ntmps16
      go_wp2_with (first
        | (go_at_call 32; refine (rupS_is _ _ hs HT.out _).mono ?_; rintro e w1 ⟨rfl, hb1⟩; have HB1 := Lib.hid (below_then HB0.out hb1); have X1 := Lib.hid (X0.out.keep hb1); clear hb1; have hf := X1.out.f 0; have hlt := X1.out.lt; have c0 := X1.out.c0; have HB2 := Lib.hid (HB1.out.setCell (p := ⟨w.heap.size, 0, none⟩) (Nat.le_refl _) (.string T)); have X2 := Lib.hid (X1.out.setS T); have d1 := X2.out.c1; have d2 := X2.out.c2; have d3 := X2.out.c3; have d4 := X2.out.c4; have d5 := X2.out.c5; have hlt2 := X2.out.lt))
      go_ret2
      exact ⟨A, c, by rw [HL0.out]; rfl, by rw [HL0.out]; exact H.out.below HB2.out, HB2.out⟩
  · have hz : 1 ≤ T.size ∧ T.size ≤ 31 := by unfold nmB at h1; simpa using h1
    have g1 : decide (T.size < 1) = false := decide_eq_false (by omega)
    have g2 : decide ((T.size : Int) < 1) = false := by simp; omega
    have g3 : decide ((31 : Int) < (T.size : Int)) = false := by simp; omega
    rw [if_neg (by rw [h1]; decide)] at hx
    cases h2 : saneB ⟨T, m, k, v, t, p⟩
    · have H2 := Lib.hid h2
      rw [if_pos h2] at hx
      subst hx
      rw [if_neg (by omega)] at hL
      subst hL
      clear h1 h2 hl hz
      go_enter Try.func16, Try.ntmps16
      go_wp2_with (first
        | (go_at_call 32; refine (rupS_is _ _ hs HT.out _).mono ?_; rintro e w1 ⟨rfl, hb1⟩; have HB1 := Lib.hid (below_then HB0.out hb1); have X1 := Lib.hid (X0.out.keep hb1); clear hb1; have hf := X1.out.f 0; have hlt := X1.out.lt; have c0 := X1.out.c0; have HB2 := Lib.hid (HB1.out.setCell (p := ⟨w.heap.size, 0, none⟩) (Nat.le_refl _) (.string T)); have X2 := Lib.hid (X1.out.setS T); have d1 := X2.out.c1; have d2 := X2.out.c2; have d3 := X2.out.c3; have d4 := X2.out.c4; have d5 := X2.out.c5; have hlt2 := X2.out.lt)
        | (go_at_call 27; refine (rsane11_is _ _ _ _ _ _ _ hTz H2.out _).mono ?_; rintro e w3 ⟨rfl, hb3⟩; have HB3 := Lib.hid (below_then HB2.out hb3); have X3 := Lib.hid (X2.out.keep hb3); clear hb3 d1 d2 d3 d4 d5; have HL3 := Lib.hid (H.out.below HB3.out)))
      go_ret2
      exact ⟨A, c, by rw [HL0.out]; rfl, by rw [HL0.out]; exact HL3.out, HB3.out⟩
    · have H2 := Lib.hid h2
      rw [if_neg (by rw [h2]; decide)] at hx
      by_cases h3 : 512 ≤ l.length
      · rw [if_pos h3] at hx
        subst hx
        rw [if_neg (by omega)] at hL
        subst hL
        have g4 : decide ((512 : Int) ≤ (n : Int)) = true := by simp; omega
        clear h1 h2 hl h3 hz
        go_enter Try.func16, Try.ntmps16
        go_wp2_with (first
          | (go_at_call 32; refine (rupS_is _ _ hs HT.out _).mono ?_; rintro e w1 ⟨rfl, hb1⟩; have HB1 := Lib.hid (below_then HB0.out hb1); have X1 := Lib.hid (X0.out.keep hb1); clear hb1; have hf := X1.out.f 0; have hlt := X1.out.lt; have c0 := X1.out.c0; have HB2 := Lib.hid (HB1.out.setCell (p := ⟨w.heap.size, 0, none⟩) (Nat.le_refl _) (.string T)); have X2 := Lib.hid (X1.out.setS T); have d1 := X2.out.c1; have d2 := X2.out.c2; have d3 := X2.out.c3; have d4 := X2.out.c4; have d5 := X2.out.c5; have hlt2 := X2.out.lt)
          | (go_at_call 27; refine (rsane11_is _ _ _ _ _ _ _ hTz H2.out _).mono ?_; rintro e w3 ⟨rfl, hb3⟩; have HB3 := Lib.hid (below_then HB2.out hb3); have X3 := Lib.hid (X2.out.keep hb3); clear hb3 d1 d2 d3 d4 d5; have HL3 := Lib.hid (H.out.below HB3.out)))
        go_ret2
        exact ⟨A, c, by rw [HL0.out]; rfl, by rw [HL0.out]; exact HL3.out, HB3.out⟩
      · rw [if_neg h3] at hx
        subst hx
        rw [if_pos rfl] at hL
        subst hL
        have g4 : decide ((512 : Int) ≤ (n : Int)) = false := by simp; omega
        have hn5 : n < 512 := by omega
        have HN5 := Lib.hid hn5
        clear h1 h2 h3 hz hn5
        have HL1 : Hid ((l ++ [(⟨T, m, k, v, t, p⟩ : En)]).length = n + 1) := Lib.hid (by simp [hl])
        rw [HL1.out]
        clear hl
        go_enter Try.func16, Try.ntmps16
        go_wp2_with (first
          | (go_at_call 32; refine (rupS_is _ _ hs HT.out _).mono ?_; rintro e w1 ⟨rfl, hb1⟩; have HB1 := Lib.hid (below_then HB0.out hb1); have X1 := Lib.hid (X0.out.keep hb1); clear hb1; have hf := X1.out.f 0; have hlt := X1.out.lt; have c0 := X1.out.c0; have HB2 := Lib.hid (HB1.out.setCell (p := ⟨w.heap.size, 0, none⟩) (Nat.le_refl _) (.string T)); have X2 := Lib.hid (X1.out.setS T); have d1 := X2.out.c1; have d2 := X2.out.c2; have d3 := X2.out.c3; have d4 := X2.out.c4; have d5 := X2.out.c5; have hlt2 := X2.out.lt)
          | (go_at_call 27; refine (rsane11_is _ _ _ _ _ _ _ hTz H2.out _).mono ?_; rintro e w3 ⟨rfl, hb3⟩; have HB3 := Lib.hid (below_then HB2.out hb3); have X3 := Lib.hid (X2.out.keep hb3); clear hb3 d1 d2 d3 d4 d5; have HL3 := Lib.hid (H.out.below HB3.out))
          | (at_builtin; refine wpList_appE0 etR (w := w3) rfl (.tmp 30) (.tmp 31) rfl rfl rfl (HL3.out.alloc _) (by omega) ?_; intro A4 c4 w4 ho4; have HO4 := Lib.hid ho4; have X4 := Lib.hid (X3.out.keep ho4.below); clear ho4; have d0 := X4.out.c0; have d1 := X4.out.c1; have d2 := X4.out.c2; have d3 := X4.out.c3; have d4 := X4.out.c4; have d5 := X4.out.c5; have hlt4 := X4.out.lt)
          | (at_builtin; refine wpList_appE etR (W := w3) rfl (.tmp 33) (.tmp 35) rfl rfl rfl (HO4.out.grow (below_one _ (.cells #[.string T, .bool m, .int .i64 k, .int .i64 v, .int .i64 t, .int .i64 p] 26))) (Ens.new1 _ _ ⟨T, m, k, v, t, p⟩) (by omega) ?_; intro A5 c5 w5 ho5; have HO5 := Lib.hid ho5; clear ho5))
        go_ret2
        exact ⟨A5, c5, rfl, HO5.out.ens, below_then HB3.out HO5.out.below⟩
set_option maxHeartbeats 2000000 in
theorem rcode11_any (A : Option Addr) (n c : Nat) (l : List En) (i : Int) (w : World) (hs : ∀ e ∈ l, e.s.size ≤ 2000) (h : Ens w A n c l) :
    Calls Try.prog 18 #[.slice A n c, .int .i64 i] w (CodePost l i w) := by
  have hl := h.len
  by_cases h1 : i < 0
  · obtain ⟨r, hr⟩ : ∃ r, dCb l i = r := ⟨_, rfl⟩
    have hz := dCb_out (l := l) (i := i) (by omega)
    have hc := dC_no hz
    unfold CodePost
    rw [hc, hz]
    clear hr r hz hc h hs hl
    go_enter Try.func18, Try.ntmps18
    go_wp2
    go_ret2
    exact ⟨none, 0, rfl, Prs.nil, Below.refl _ _⟩
  · by_cases h2 : (n : Int) ≤ i
    · have hz := dCb_out (l := l) (i := i) (by omega)
      have hc := dC_no hz
      unfold CodePost
      rw [hc, hz]
      clear hz hc h hs hl
      go_enter Try.func18, Try.ntmps18
      go_wp2
      go_ret2
      exact ⟨none, 0, rfl, Prs.nil, Below.refl _ _⟩
    · obtain ⟨q, rfl⟩ : ∃ q : Nat, i = (q : Int) := ⟨i.toNat, by omega⟩
      have hq : q < n := by omega
      have hm := hs _ (getD_mem (q := q) (by omega))
      have hin := dCb_in (l := l) (q := q) (by omega)
      obtain ⟨xb, xo, rfl, hx⟩ := h.six q hq
      have hyes := dC_yes (l := l) (q := q)
      have hno := dC_no (l := l) (i := (q : Int))
      unfold CodePost
      generalize dC l (q : Int) = D at *
      generalize dCb l (q : Int) = r at *
      generalize l.getD q e0 = e at *
      clear h hs hl h1 h2
      obtain ⟨S, m, k, v, t, p⟩ := e
      have X0 := Lib.hid hx
      have f0 := hx.c0
      have f1 := hx.c1
      have f2 := hx.c2
      have f3 := hx.c3
      have f4 := hx.c4
      have f5 := hx.c5
      have hbl := hx.lt
      clear hx
      simp only at f0 f1 f2 f3 f4 f5
      have HS : Hid (saneB ⟨S, m, k, v, t, p⟩ = r) := Lib.hid hin.symm
      have HM : Hid (S.size ≤ 2000) := Lib.hid hm
      clear hm
      obtain ⟨y, hy⟩ : ∃ y, dP t p = y := ⟨_, rfl⟩
      have HY := Lib.hid hy
      cases r
      · obtain rfl := hno rfl
        clear hno hyes hin hy
        go_enter Try.func18, Try.ntmps18
        go_wp2_with (first
          | (go_at_call 27; refine (rsane11_is _ _ _ _ _ _ _ HM.out HS.out _).mono ?_; rintro e w3 ⟨rfl, hb3⟩; have HB3 := Lib.hid hb3; clear hb3))
        go_ret2
        exact ⟨none, 0, rfl, Prs.nil, HB3.out⟩
      · obtain rfl := hyes rfl
        have hk := saneB_kind hin.symm
        clear hno hyes hin hy
        simp only at hk
        have HB0 := Lib.hid (Below.refl w.heap.size w)
        rcases hk with rfl | rfl | rfl | rfl | rfl
        · go_enter Try.func18, Try.ntmps18
          go_wp2_with (first
            | (go_at_call 27; refine (rsane11_is _ _ _ _ _ _ _ HM.out HS.out _).mono ?_; rintro e w3 ⟨rfl, hb3⟩; have HB3 := Lib.hid hb3; have X3 := Lib.hid (X0.out.keep hb3); clear hb3 f0 f1 f2 f3 f4 f5; have f0 := X3.out.c0; have f1 := X3.out.c1; have f2 := X3.out.c2; have f3 := X3.out.c3; have f4 := X3.out.c4; have f5 := X3.out.c5; have hlt := X3.out.lt)
            | (go_at_call 25; refine (raddr11_is _ _ _ HY.out _).mono ?_; rintro e w4 ⟨rfl, hb4⟩; have HB4 := Lib.hid (below_then HB3.out (below_then (below_one _ _) hb4)); have X4 := Lib.hid ((Ev.new w3 26 ⟨S, m, 0, v, t, p⟩).keep hb4); clear hb4; have q0 := X4.out.c0; have q1 := X4.out.c1; have q2 := X4.out.c2; have q3 := X4.out.c3; have q4 := X4.out.c4; have q5 := X4.out.c5; have hlt4 := X4.out.lt))
          go_ret2
          exact ⟨_, _, rfl, Prs.lit1 _ _ v 0 _ _ (by simp) rfl, below_then HB4.out (two_new _ _ _)⟩
        · go_enter Try.func18, Try.ntmps18
          go_wp2_with (first
            | (go_at_call 27; refine (rsane11_is _ _ _ _ _ _ _ HM.out HS.out _).mono ?_; rintro e w3 ⟨rfl, hb3⟩; have HB3 := Lib.hid hb3; have X3 := Lib.hid (X0.out.keep hb3); clear hb3 f0 f1 f2 f3 f4 f5; have f0 := X3.out.c0; have f1 := X3.out.c1; have f2 := X3.out.c2; have f3 := X3.out.c3; have f4 := X3.out.c4; have f5 := X3.out.c5; have hlt := X3.out.lt)
            | (go_at_call 25; refine (raddr11_is _ _ _ HY.out _).mono ?_; rintro e w4 ⟨rfl, hb4⟩; have HB4 := Lib.hid (below_then HB3.out (below_then (below_one _ _) hb4)); have X4 := Lib.hid ((Ev.new w3 26 ⟨S, m, 1, v, t, p⟩).keep hb4); clear hb4; have q0 := X4.out.c0; have q1 := X4.out.c1; have q2 := X4.out.c2; have q3 := X4.out.c3; have q4 := X4.out.c4; have q5 := X4.out.c5; have hlt4 := X4.out.lt))
          go_ret2
          exact ⟨_, _, rfl, Prs.lit1 _ _ 3 y _ _ (by simp) (by rw [← HY.out]; rfl), below_then HB4.out (two_new _ _ _)⟩
        · go_enter Try.func18, Try.ntmps18
          go_wp2_with (first
            | (go_at_call 27; refine (rsane11_is _ _ _ _ _ _ _ HM.out HS.out _).mono ?_; rintro e w3 ⟨rfl, hb3⟩; have HB3 := Lib.hid hb3; have X3 := Lib.hid (X0.out.keep hb3); clear hb3 f0 f1 f2 f3 f4 f5; have f0 := X3.out.c0; have f1 := X3.out.c1; have f2 := X3.out.c2; have f3 := X3.out.c3; have f4 := X3.out.c4; have f5 := X3.out.c5; have hlt := X3.out.lt)
            | (go_at_call 25; refine (raddr11_is _ _ _ HY.out _).mono ?_; rintro e w4 ⟨rfl, hb4⟩; have HB4 := Lib.hid (below_then HB3.out (below_then (below_one _ _) hb4)); have X4 := Lib.hid ((Ev.new w3 26 ⟨S, m, 2, v, t, p⟩).keep hb4); clear hb4; have q0 := X4.out.c0; have q1 := X4.out.c1; have q2 := X4.out.c2; have q3 := X4.out.c3; have q4 := X4.out.c4; have q5 := X4.out.c5; have hlt4 := X4.out.lt))
          go_ret2
          exact ⟨_, _, rfl, Prs.lit1 _ _ 0 v _ _ (by simp) rfl, below_then HB4.out (two_new _ _ _)⟩
        · go_enter Try.func18, Try.ntmps18
          go_wp2_with (first
            | (go_at_call 27; refine (rsane11_is _ _ _ _ _ _ _ HM.out HS.out _).mono ?_; rintro e w3 ⟨rfl, hb3⟩; have HB3 := Lib.hid hb3; have X3 := Lib.hid (X0.out.keep hb3); clear hb3 f0 f1 f2 f3 f4 f5; have f0 := X3.out.c0; have f1 := X3.out.c1; have f2 := X3.out.c2; have f3 := X3.out.c3; have f4 := X3.out.c4; have f5 := X3.out.c5; have hlt := X3.out.lt)
            | (go_at_call 25; refine (raddr11_is _ _ _ HY.out _).mono ?_; rintro e w4 ⟨rfl, hb4⟩; have HB4 := Lib.hid (below_then HB3.out (below_then (below_one _ _) hb4)); have X4 := Lib.hid ((Ev.new w3 26 ⟨S, m, 3, v, t, p⟩).keep hb4); clear hb4; have q0 := X4.out.c0; have q1 := X4.out.c1; have q2 := X4.out.c2; have q3 := X4.out.c3; have q4 := X4.out.c4; have q5 := X4.out.c5; have hlt4 := X4.out.lt))
          go_ret2
          exact ⟨_, _, rfl, Prs.lit1 _ _ 0 v _ _ (by simp) rfl, below_then HB4.out (two_new _ _ _)⟩
        · go_enter Try.func18, Try.ntmps18
          go_wp2_with (first
            | (go_at_call 27; refine (rsane11_is _ _ _ _ _ _ _ HM.out HS.out _).mono ?_; rintro e w3 ⟨rfl, hb3⟩; have HB3 := Lib.hid hb3; have X3 := Lib.hid (X0.out.keep hb3); clear hb3 f0 f1 f2 f3 f4 f5; have f0 := X3.out.c0; have f1 := X3.out.c1; have f2 := X3.out.c2; have f3 := X3.out.c3; have f4 := X3.out.c4; have f5 := X3.out.c5; have hlt := X3.out.lt)
            | (go_at_call 25; refine (raddr11_is _ _ _ HY.out _).mono ?_; rintro e w4 ⟨rfl, hb4⟩; have HB4 := Lib.hid (below_then HB3.out (below_then (below_one _ _) hb4)); have X4 := Lib.hid ((Ev.new w3 26 ⟨S, m, 4, v, t, p⟩).keep hb4); clear hb4; have q0 := X4.out.c0; have q1 := X4.out.c1; have q2 := X4.out.c2; have q3 := X4.out.c3; have q4 := X4.out.c4; have q5 := X4.out.c5; have hlt4 := X4.out.lt))
          go_ret2
          exact ⟨_, _, rfl, Prs.lit2 _ _ 0 v 3 y _ _ (by simp) (by rw [← HY.out]; rfl), below_then HB4.out (two_new _ _ _)⟩
end Go.Proofs.Ytkpomphjicoaeaa
