/-
  What the words LOOP and +LOOP do to any thread that is sane: places that lead out are gathered, and resolved.
-/
import Derived.Test.YtkcpmjccggfpiaaFlowLeave
namespace Go.Proofs.Ytkcpmjccggfpiaa
open Go.RowKit

theorem row_keep {w w' : World} {B0 : Nat} {E : TypeId} {s : Nat} {v : Value} {n : Nat} {xs : List Value} (h : w.ownsRow B0 E s v n xs) (hk : ∀ g, v.ownBlock = some g → w'.heap[g]? = w.heap[g]?) : w'.ownsRow B0 E s v n xs := by
  refine ⟨h.1, ?_⟩
  rcases h.2 with h1 | ⟨g, cap, cur, hv, hb, hg, h4⟩
  · exact .inl h1
  · exact .inr ⟨g, cap, cur, hv, hb, (hk g (by rw [hv]; rfl)).trans hg, h4⟩
theorem row_alloc {w : World} {B0 : Nat} {E : TypeId} {s : Nat} {v : Value} {n : Nat} {xs : List Value} (h : w.ownsRow B0 E s v n xs) (o : Obj) : (w.alloc o).ownsRow B0 E s v n xs :=
  row_keep h fun g hg => Below.heap_alloc w o g (h.lt g hg).2
theorem row_apart {w w' : World} {B0 : Nat} {E E' : TypeId} {s s' : Nat} {v v' : Value} {n n' : Nat} {xs xs' : List Value} (h : w.ownsRow B0 E s v n xs) (h' : w.ownsRow B0 E' s' v' n' xs') (hne : E ≠ E') (hg : w.grownBy w' v'.ownBlock) : w'.ownsRow B0 E s v n xs := by
  refine row_keep h fun g hv => hg.block g (h.lt g hv).2 fun e => hne ?_
  rcases h.2 with ⟨h1, _⟩ | ⟨g1, cap1, cur1, hv1, _, hg1, _⟩
  · rw [h1] at hv; cases hv
  · rcases h'.2 with ⟨h2, _⟩ | ⟨g2, cap2, cur2, hv2, _, hg2, _⟩
    · rw [h2] at e; cases e
    · rw [hv1] at hv
      rw [hv2] at e
      simp [Value.ownBlock] at hv e
      subst hv e
      rw [hg1] at hg2
      injection hg2 with hg2
      injection hg2
/-- A row of ints of the call's own. -/
def intsOf (l : List Int) : List Value := l.map (Value.int .i64)
theorem infoI : (Try.prog.info? 3).map (fun i => (i.zero, i.size, i.bytes)) = some (some (.int .i64 0), 1, 8) := by kernel_rfl
def OwnI (W w : World) (A : Option Addr) (n c : Nat) (l : List Int) : Prop := w.ownsRow W.heap.size 3 1 (.slice A n c) n (intsOf l) ∧ Below W.heap.size W w
theorem OwnI.nil (W : World) : OwnI W W none 0 0 [] := ⟨⟨by simp [intsOf], .inl ⟨rfl, rfl⟩⟩, Below.refl _ _⟩
theorem OwnI.ints {W w : World} {A : Option Addr} {n c : Nat} {l : List Int} (h : w.ownsRow W.heap.size 3 1 (.slice A n c) n (intsOf l)) : Ints w A n l := by
  have hl : l.length = n := by have := h.1; simp [intsOf] at this; exact this
  refine ⟨hl, fun hn => ?_⟩
  obtain ⟨g, cap, hv, _, hlt⟩ := h.form hn
  injection hv with h1 _ _
  subst h1
  refine ⟨g, 0, rfl, hlt, fun j hj => ?_⟩
  have := h.cells (g := g) rfl j (.int .i64 l[j]) (by simp [intsOf, hj])
  rw [Addr.add_lit] at this
  exact this
theorem run_app1 {W w : World} {A : Option Addr} {n c : Nat} {xs : List Int} (y : Int) (ty : TypeId) (h : OwnI W w A n c xs) (hn : n ≤ 1000000) :
    ∃ A' c' w', (Builtin.append_ #[51, 51] ty #[.slice A n c, .slice (some ⟨w.heap.size, 0, none⟩) 1 1]).run Try.prog (w.alloc (.cells #[.int .i64 y] 3)) = .ok (.slice A' (n + 1) c') w' ∧ OwnI W w' A' (n + 1) c' (xs ++ [y]) ∧ (w.alloc (.cells #[.int .i64 y] 3)).grownBy w' (Value.slice A n c).ownBlock := by
  obtain ⟨i, hi, hz0, hz1, hz2⟩ := info_parts infoI
  have hb1 := h.2.alloc h.2.size (.cells #[.int .i64 y] 3)
  obtain ⟨v', w', hrun, h2, h3, _, _⟩ := run_append_own_at (P := Try.prog) (w.alloc (.cells #[.int .i64 y] 3)) W.heap.size 51 ty 3 i (.int .i64 0) 1 8 Try.underlying51 hi hz0 hz1 hz2 rfl (by decide) _ n (intsOf xs) (row_alloc h.1 _) ⟨w.heap.size, 0, none⟩ 1 1 [.int .i64 y]
    rfl (fun j u hu => by
      match j, hu with
      | 0, hu => simp at hu; subst hu; rw [Addr.add_lit]; exact cell_of_row _ _ 0 _ 3 (0, 0) (heap_alloc_new w _)) (by intro u hu; simp at hu; subst hu; rfl) (by unfold maxLen; omega) (by omega) hb1.size
  have hv : ∃ A' c', v' = .slice A' (n + 1) c' := by
    rcases h2.2 with ⟨rfl, e⟩ | ⟨g, cap, cur, rfl, _⟩
    · exact ⟨none, 0, by rw [e]⟩
    · exact ⟨_, _, rfl⟩
  obtain ⟨A', c', rfl⟩ := hv
  exact ⟨A', c', w', hrun, ⟨by simpa [intsOf] using h2, hb1.grown h3 hb1.size (fun k hk => (h.1.lt k hk).1)⟩, h3⟩
theorem wpList_app1 {W w : World} {ops : Array Oper} {rest : List Oper} {o : Oper} {a : Act} {Q : Exit → Act → World → Prop} (hgd : o.guard = none) (s x : Operand) (y : Int)
    (ho : o.op = .call { callee := .builtin .append, args := #[s, x], argTypes := #[51, 51] })
    {A : Option Addr} {n c : Nat} {xs : List Int} (hs : a.eval s = .slice A n c) (hx : a.eval x = .slice (some ⟨w.heap.size, 0, none⟩) 1 1) (h : OwnI W w A n c xs) (hn : n ≤ 1000000)
    (hk : ∀ A' c' w', OwnI W w' A' (n + 1) c' (xs ++ [y]) → (w.alloc (.cells #[.int .i64 y] 3)).grownBy w' (Value.slice A n c).ownBlock → wpList Try.prog ops Q rest (a.put o.dst (.slice A' (n + 1) c')) w') : wpList Try.prog ops Q (o :: rest) a (w.alloc (.cells #[.int .i64 y] 3)) := by
  refine wpList_plain hgd fun _ hK => ?_
  obtain ⟨A', c', w', hrun, h2, h3⟩ := run_app1 (W := W) y o.type h hn
  unfold Oper.wp execOp
  simp only [ho, resolve, invoke, builtin, Sem.run_bind, Sem.run_pure, Result.andThen_ok, List.map_toArray, List.map_cons, List.map_nil, hs, hx, hrun]
  exact hK _ _ (hk A' c' w' h2 h3)

theorem filt_next (D : Nat) (l : List (Int × Int)) (j : Nat) (hj : j < l.length) (x y : Int) (e : l.getD j (0, 0) = (x, y)) :
    placesB D (l.take (j + 1)) = placesB D (l.take j) ++ (if x == (D : Int) then [y] else []) ∧ othersB D (l.take (j + 1)) = othersB D (l.take j) ++ (if x == (D : Int) then [] else [(x, y)]) := by
  have e2 : l[j] = (x, y) := by rw [← e]; simp [List.getD, hj]
  rw [List.take_succ_eq_append_getElem hj, e2]
  unfold placesB othersB
  rw [List.filter_append, List.filter_append]
  cases h : (x == (D : Int)) <;> simp [h]
theorem back_outs (b : Bd) (q o : Int) : (backB b q o).outs = b.outs := by
  unfold backB layB takeB
  split
  · split <;> rfl
  · rfl
theorem back_len (b : Bd) (q o : Int) : b.code.length ≤ (backB b q o).code.length := by
  unfold backB
  split
  · exact lay_len (takeB b) _
  · exact Nat.le_refl _
theorem Few.back {N : Nat} {b : Bd} (h : Few N b) (q o : Int) : Few (N + 2) (backB b q o) := by
  unfold backB
  split
  · exact h.take.lay (by simp)
  · exact h.mono (by omega)
theorem sane_places (b : Bd) (hs : flSane b = true) (D : Nat) : ∀ a ∈ placesB D b.outs, flThere b.code.length a = true := by
  intro a ha
  unfold placesB at ha
  obtain ⟨m, hm, rfl⟩ := List.mem_map.1 ha
  have hm2 := (List.mem_filter.1 hm).1
  unfold flSane at hs
  simp only [Bool.and_eq_true, List.all_eq_true] at hs
  have := hs.2 _ hm2
  unfold flOut at this
  simp at this
  exact this.2

set_option maxHeartbeats 2000000 in
theorem endLoop_any (A B C : Option Addr) (n c m d k f : Nat) (b : Bd) (o : Int) (w : World) (hF : Few 30000 b) (hS : flSane b = true) (h : Bl w A n c B m d C k f b) :
    Calls Try.prog 70 #[.agg #[.slice A n c, .slice B m d, .slice C k f], .int .i64 o] w (BtPost w (endB b o) (backE b 3)) := by
  have HF := Lib.hid hF
  have HS := Lib.hid hS
  clear hS
  obtain ⟨hn, hm, hk⟩ := h.ns hF
  have LC := Lib.hid h.1.len
  have LM := Lib.hid h.2.1.len
  have LO := Lib.hid h.2.2.len
  have H := Lib.hid h
  clear h hF
  have X1 := Lib.hid ((Bx.new w 30 (.slice A n c) (.slice B m d) (.slice C k f)).alloc (.cells #[.slice none 0 0, .slice none 0 0, .slice none 0 0] 30))
  have X2 := Lib.hid (Bx.new2 w (.cells #[.slice A n c, .slice B m d, .slice C k f] 30) 30 (.slice none 0 0) (.slice none 0 0) (.slice none 0 0))
  have HB := Lib.hid (below_two w (.cells #[.slice A n c, .slice B m d, .slice C k f] 30) (.cells #[.slice none 0 0, .slice none 0 0, .slice none 0 0] 30))
  go_enter Try.func70, Try.ntmps70
  go_upto_region 1 with (fail)
  generalize (w.alloc (.cells #[.slice A n c, .slice B m d, .slice C k f] 30)).alloc (.cells #[.slice none 0 0, .slice none 0 0, .slice none 0 0] 30) = W at *
  have hg1 : w.heap.size < W.heap.size := X1.out.lt
  have hg2 : w.heap.size + 1 < W.heap.size := X2.out.lt
  have HL := Lib.hid (H.out.below HB.out)
  have a0 := X1.out.c0; have a1 := X1.out.c1; have a2 := X1.out.c2; have af0 := X1.out.f0; have af1 := X1.out.f1; have af2 := X1.out.f2
  have z0 := X2.out.c0; have z1 := X2.out.c1; have z2 := X2.out.c2; have zf0 := X2.out.f0; have zf1 := X2.out.f1; have zf2 := X2.out.f2
  have hDl : flDeep b.marks ≤ 100000 := by have := flDeep_le b.marks; have h2 := LM.out; omega
  cases hE : (backE b 3 != 0)
  · have HE := Lib.hid hE
    have hE0 : Hid (backE b 3 = 0) := Lib.hid (by simpa using hE)
    go_upto_region 3 with (first
      | (go_at_call 40; refine (deep_any _ _ _ _ _ _ _ _ _ b.marks _ (by omega) HL.out.pm).mono ?_; rintro e w0 ⟨rfl, hb0⟩; have HB0 := Lib.hid hb0; clear hb0; have K1 := Lib.hid (X1.out.keep HB0.out); have K2 := Lib.hid (X2.out.keep HB0.out); clear a0 a1 a2 af0 af1 af2 z0 z1 z2 zf0 zf1 zf2; have a0 := K1.out.c0; have a1 := K1.out.c1; have a2 := K1.out.c2; have af0 := K1.out.f0; have af1 := K1.out.f1; have af2 := K1.out.f2; have z0 := K2.out.c0; have z1 := K2.out.c1; have z2 := K2.out.c2; have zf0 := K2.out.f0; have zf1 := K2.out.f1; have zf2 := K2.out.f2)
      | (go_at_call 67; refine (back_any _ _ _ _ _ _ _ _ _ b 3 o _ (HF.out.mono (by omega)) (by decide) (HL.out.below HB0.out)).mono ?_; rintro e w1 ⟨A1, n1, c1, B1, m1, d1, C1, k1, f1, rfl, h1, hb1⟩; have HB1 := Lib.hid (hb1); have H1 := Lib.hid h1; clear h1 hb1; have Y1 := Lib.hid (K1.out.keep HB1.out); have Y2 := Lib.hid (K2.out.keep HB1.out); clear a0 a1 a2 af0 af1 af2 z0 z1 z2 zf0 zf1 zf2; have a0 := Y1.out.c0; have a1 := Y1.out.c1; have a2 := Y1.out.c2; have af0 := Y1.out.f0; have af1 := Y1.out.f1; have af2 := Y1.out.f2; have z0 := Y2.out.c0; have z1 := Y2.out.c1; have z2 := Y2.out.c2; have zf0 := Y2.out.f0; have zf1 := Y2.out.f1; have zf2 := Y2.out.f2; have hY1 := Y1.out.lt; have hY2 := Y2.out.lt))
    have Q1 := Lib.hid (Y1.out.set3 (.slice A1 n1 c1) (.slice B1 m1 d1) (.slice C1 k1 f1))
    have Q2 := Lib.hid (Y2.out.other3 (g' := w.heap.size) (by simp) (.slice A1 n1 c1) (.slice B1 m1 d1) (.slice C1 k1 f1))
    have QB := Lib.hid (below_set3 (g := w.heap.size) (below_then HB.out (below_then HB0.out HB1.out)) (Nat.le_refl _) (.slice A1 n1 c1) (.slice B1 m1 d1) (.slice C1 k1 f1))
    have HQ := Lib.hid (H1.out.set3 Y1.out (B1 := A1) (p1 := n1) (e1 := c1) (B2 := B1) (p2 := m1) (e2 := d1) (B3 := C1) (p3 := k1) (e3 := f1))
    generalize (((w1.setCell ⟨w.heap.size, 0, none⟩ (.slice A1 n1 c1)).setCell ⟨w.heap.size, 1, none⟩ (.slice B1 m1 d1)).setCell ⟨w.heap.size, 2, none⟩ (.slice C1 k1 f1)) = W1 at *
    clear a0 a1 a2 af0 af1 af2 z0 z1 z2 zf0 zf1 zf2
    have a0 := Q1.out.c0; have a1 := Q1.out.c1; have a2 := Q1.out.c2; have af0 := Q1.out.f0; have af1 := Q1.out.f1; have af2 := Q1.out.f2
    have z0 := Q2.out.c0; have z1 := Q2.out.c1; have z2 := Q2.out.c2; have zf0 := Q2.out.f0; have zf1 := Q2.out.f1; have zf2 := Q2.out.f2
    have hQ1 := Q1.out.lt; have hQ2 := Q2.out.lt
    have HO1 : Hid (Prs W1 C1 k1 f1 b.outs) := Lib.hid (by have := HQ.out.po; rw [back_outs] at this; exact this)
    have LO1 := Lib.hid HO1.out.len
    have hk1 : k1 ≤ 30000 := by rw [← LO1.out]; exact HF.out.2.2
    go_wp2
    go_loopw [8, 9, 27] (fun pv ov i wr => ∃ (j : Nat) (P : Option Addr) (np cp : Nat) (O : Option Addr) (no co : Nat), j ≤ k1 ∧ i = .int .i64 j ∧ pv = .slice P np cp ∧ ov = .slice O no co ∧ np ≤ j ∧ no ≤ j ∧ OwnI W1 wr P np cp (placesB (flDeep b.marks) (b.outs.take j)) ∧ wr.ownsRow W1.heap.size 62 2 (.slice O no co) no (prsOf (othersB (flDeep b.marks) (b.outs.take j)))) (fun _ _ i _ => ((k1 : Int) - intOf i).toNat)
    case atStart => exact ⟨0, none, 0, 0, none, 0, 0, by omega, rfl, rfl, rfl, by omega, by omega, OwnI.nil _, (OwnP.nil _ _).1⟩
    case round =>
      obtain ⟨j, P, np, cp, O, no, co, hj, rfl, rfl, rfl, hnp, hno, hP, hO⟩ := hrel
      have RP := Lib.hid hP
      have RO := Lib.hid hO
      have RB := Lib.hid hP.2
      clear hP hO
      have R1 := Lib.hid (Q1.out.keep RB.out)
      have R2 := Lib.hid (Q2.out.keep RB.out)
      by_cases hlt : j < k1
      · have hjl : j < b.outs.length := by rw [LO1.out]; exact hlt
        obtain ⟨mb, mo, rfl, hbl, e0, e1⟩ := (HO1.out.below RB.out).at_ j hlt
        have HN := Lib.hid (filt_next (flDeep b.marks) b.outs j hjl (b.outs.getD j (0, 0)).1 (b.outs.getD j (0, 0)).2 rfl)
        generalize (b.outs.getD j (0, 0)).1 = x at *
        generalize (b.outs.getD j (0, 0)).2 = y at *
        generalize flDeep b.marks = D at *
        generalize hpl : placesB D (b.outs.take j) = PL at *
        generalize hol : othersB D (b.outs.take j) = OL at *
        clear hpl hol
        have RPa := Lib.hid (show OwnI W1 (wr.alloc (.cells #[.int .i64 x, .int .i64 y] 62)) P np cp PL from ⟨row_alloc RP.out.1 _, RB.out.alloc RB.out.size _⟩)
        have ROa := Lib.hid (row_alloc RO.out (.cells #[.int .i64 x, .int .i64 y] 62))
        have PX := Lib.hid (Px.new wr 62 (.int .i64 x) (.int .i64 y))
        have RBa := Lib.hid (RB.out.alloc RB.out.size (.cells #[.int .i64 x, .int .i64 y] 62))
        go_upto_region 10 with (fail)
        generalize wr.alloc (.cells #[.int .i64 x, .int .i64 y] 62) = wr1 at *
        have px0 := PX.out.c0
        have px1 := PX.out.c1
        have hpx := PX.out.lt
        cases hx : (x == (D : Int))
        · have HX := HN.out
          rw [hx] at HX
          have HXh := Lib.hid HX
          clear HX
          go_wp2_with (at_builtin; refine wpList_app ptF (W := W1) rfl (.tmp 40) (.tmp 42) rfl rfl rfl ⟨row_alloc ROa.out _, RBa.out.alloc RBa.out.size _⟩ (Prs.new1 _ _ x y) (by omega) ?_; intro A5 c5 w5 hw5 hg5; have HW := Lib.hid hw5; have HG := Lib.hid hg5; clear hw5 hg5)
          go_roundw
          case rel =>
            refine ⟨j + 1, P, np, cp, A5, no + 1, c5, by omega, by go_num, rfl, rfl, by omega, by omega, ?_, ?_⟩
            · rw [HXh.out.1]
              simp only [Bool.false_eq_true, if_false, List.append_nil]
              exact ⟨row_apart (row_alloc RPa.out.1 _) (row_alloc ROa.out _) (by decide) HG.out, HW.out.2⟩
            · rw [HXh.out.2]
              simp only [Bool.false_eq_true, if_false]
              exact HW.out.1
          case measure => simp [intOf]; omega
        · have HX := HN.out
          rw [hx] at HX
          have HXh := Lib.hid HX
          clear HX
          go_wp2_with (at_builtin; refine wpList_app1 (W := W1) (w := wr1) rfl (.tmp 35) (.tmp 38) y rfl rfl rfl RPa.out (by omega) ?_; intro A5 c5 w5 hw5 hg5; have HW := Lib.hid hw5; have HG := Lib.hid hg5; clear hw5 hg5)
          go_roundw
          case rel =>
            refine ⟨j + 1, A5, np + 1, c5, O, no, co, by omega, by go_num, rfl, rfl, by omega, by omega, ?_, ?_⟩
            · rw [HXh.out.1]
              simp only [if_true]
              exact HW.out
            · rw [HXh.out.2]
              simp only [if_true, List.append_nil]
              exact row_apart (row_alloc ROa.out _) (row_alloc RPa.out.1 _) (by decide) HG.out
          case measure => simp [intOf]; omega
      · obtain rfl : j = k1 := by omega
        have etk : b.outs.take j = b.outs := List.take_of_length_le (by have := LO1.out; omega)
        rw [etk] at RP RO
        have a0 := R1.out.c0; have a1 := R1.out.c1; have a2 := R1.out.c2; have af0 := R1.out.f0; have af1 := R1.out.f1; have af2 := R1.out.f2
        have z0 := R2.out.c0; have z1 := R2.out.c1; have z2 := R2.out.c2; have zf0 := R2.out.f0; have zf1 := R2.out.f1; have zf2 := R2.out.f2
        have HR := Lib.hid (Bl.set_ (b := ⟨(backB b 3 o).code, (backB b 3 o).marks, othersB (flDeep b.marks) b.outs⟩) ⟨(HQ.out.below RB.out).pc, (HQ.out.below RB.out).pm, Prs.of_own RO.out⟩ R1.out 2 (.slice O no co))
        have HI := Lib.hid (OwnI.ints (W := W1) (row_keep RP.out.1 (w' := wr.setCell ⟨w.heap.size, 2, none⟩ (.slice O no co)) (fun g hg => Below.heap_setCell wr ⟨w.heap.size, 2, none⟩ _ g (by have := (RP.out.1.lt g hg).1; simp; omega))))
        have S1 := Lib.hid (R1.out.s2 (.slice O no co))
        have S2 := Lib.hid (R2.out.other (p := ⟨w.heap.size, 2, none⟩) (by simp) (.slice O no co))
        have SB := Lib.hid ((below_then QB.out RB.out).setCell (p := ⟨w.heap.size, 2, none⟩) (Nat.le_refl _) (.slice O no co))
        have SF : Hid (Few 40000 ⟨(backB b 3 o).code, (backB b 3 o).marks, othersB (flDeep b.marks) b.outs⟩) := Lib.hid ⟨by have := (HF.out.back 3 o).1; simp; omega, by have := (HF.out.back 3 o).2.1; simp; omega, by have h1 := HF.out.2.2; have h2 : (othersB (flDeep b.marks) b.outs).length ≤ b.outs.length := List.length_filter_le _ _; simp; omega⟩
        clear etk
        go_wp2_with (go_at_call 65; refine (resolve_any _ _ _ _ _ _ _ _ _ ⟨(backB b 3 o).code, (backB b 3 o).marks, othersB (flDeep b.marks) b.outs⟩ _ _ _ (placesB (flDeep b.marks) b.outs) _ (SF.out.mono (by omega)) (by omega) HR.out HI.out (fun a ha => flThere_mono (sane_places b HS.out _ a ha) (back_len b 3 o))).mono ?_; rintro e w4 ⟨A4, n4, c4, B4, m4, d4, C4, k4, f4, rfl, h4, hb4⟩; have HB4 := Lib.hid (hb4); have H4 := Lib.hid h4; clear h4 hb4; have T1 := Lib.hid (S1.out.keep HB4.out); have T2 := Lib.hid (S2.out.keep HB4.out); clear a0 a1 a2 af0 af1 af2 z0 z1 z2 zf0 zf1 zf2; have a0 := T1.out.c0; have a1 := T1.out.c1; have a2 := T1.out.c2; have af0 := T1.out.f0; have af1 := T1.out.f1; have af2 := T1.out.f2; have z0 := T2.out.c0; have z1 := T2.out.c1; have z2 := T2.out.c2; have zf0 := T2.out.f0; have zf1 := T2.out.f1; have zf2 := T2.out.f2; have hT1 := T1.out.lt; have hT2 := T2.out.lt)
        refine bodyPost_ret (v := .tuple #[.agg #[.slice A4 n4 c4, .slice B4 m4 d4, .slice C4 k4 f4], .int .i64 0]) (by simp [results, Try.results70, go_sem, z0, z1, z2] <;> rfl) rfl (bt_fin (H4.out.set3 T2.out) (below_set3 (below_then SB.out HB4.out) (by simp) _ _ _) (by unfold endB; rw [if_pos hE0.out]) hE0.out.symm)
  · have HE := Lib.hid hE
    have hE0 : Hid (backE b 3 ≠ 0) := Lib.hid (by simpa using hE)
    go_wp2_with (first
      | (go_at_call 40; refine (deep_any _ _ _ _ _ _ _ _ _ b.marks _ (by omega) HL.out.pm).mono ?_; rintro e w0 ⟨rfl, hb0⟩; have HB0 := Lib.hid hb0; clear hb0; have K1 := Lib.hid (X1.out.keep HB0.out); have K2 := Lib.hid (X2.out.keep HB0.out); clear a0 a1 a2 af0 af1 af2 z0 z1 z2 zf0 zf1 zf2; have a0 := K1.out.c0; have a1 := K1.out.c1; have a2 := K1.out.c2; have af0 := K1.out.f0; have af1 := K1.out.f1; have af2 := K1.out.f2; have z0 := K2.out.c0; have z1 := K2.out.c1; have z2 := K2.out.c2; have zf0 := K2.out.f0; have zf1 := K2.out.f1; have zf2 := K2.out.f2)
      | (go_at_call 67; refine (back_any _ _ _ _ _ _ _ _ _ b 3 o _ (HF.out.mono (by omega)) (by decide) (HL.out.below HB0.out)).mono ?_; rintro e w1 ⟨A1, n1, c1, B1, m1, d1, C1, k1, f1, rfl, h1, hb1⟩; have HB1 := Lib.hid (hb1); have H1 := Lib.hid h1; clear h1 hb1; have Y1 := Lib.hid (K1.out.keep HB1.out); have Y2 := Lib.hid (K2.out.keep HB1.out); clear a0 a1 a2 af0 af1 af2 z0 z1 z2 zf0 zf1 zf2; have a0 := Y1.out.c0; have a1 := Y1.out.c1; have a2 := Y1.out.c2; have af0 := Y1.out.f0; have af1 := Y1.out.f1; have af2 := Y1.out.f2; have z0 := Y2.out.c0; have z1 := Y2.out.c1; have z2 := Y2.out.c2; have zf0 := Y2.out.f0; have zf1 := Y2.out.f1; have zf2 := Y2.out.f2; have hY1 := Y1.out.lt; have hY2 := Y2.out.lt; have U1 := Lib.hid (Y1.out.set3 (.slice A1 n1 c1) (.slice B1 m1 d1) (.slice C1 k1 f1)); have U2 := Lib.hid (Y2.out.other3 (g' := w.heap.size) (by simp) (.slice A1 n1 c1) (.slice B1 m1 d1) (.slice C1 k1 f1)); have UB := Lib.hid (below_set3 (g := w.heap.size) (below_then HB.out (below_then HB0.out HB1.out)) (Nat.le_refl _) (.slice A1 n1 c1) (.slice B1 m1 d1) (.slice C1 k1 f1))))
    refine bodyPost_ret (v := .tuple #[.agg #[.slice A1 n1 c1, .slice B1 m1 d1, .slice C1 k1 f1], .int .i64 (backE b 3)]) (by simp [results, Try.results70, go_sem, z0, z1, z2] <;> rfl) rfl (bt_fin ((H1.out.set3 Y1.out (B1 := A1) (p1 := n1) (e1 := c1) (B2 := B1) (p2 := m1) (e2 := d1) (B3 := C1) (p3 := k1) (e3 := f1)).set3 U2.out) (below_set3 UB.out (by simp) _ _ _) (by unfold endB; rw [if_neg hE0.out]) rfl)
end Go.Proofs.Ytkcpmjccggfpiaa
