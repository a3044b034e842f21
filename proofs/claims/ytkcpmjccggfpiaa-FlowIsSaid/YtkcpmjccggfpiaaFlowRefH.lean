/-
  What the document's own calls answer: LOOP, +LOOP.
-/
import Derived.Test.YtkcpmjccggfpiaaFlowRefG
namespace Go.Proofs.Ytkcpmjccggfpiaa
open Go.RowKit

theorem wpList_appR {T E : TypeId} (pt : PT T E) {B0 : Nat} {w : World} {ops : Array Oper} {rest : List Oper} {o : Oper} {a : Act} {Q : Exit → Act → World → Prop} (hgd : o.guard = none) (s x : Operand)
    (ho : o.op = .call { callee := .builtin .append, args := #[s, x], argTypes := #[T, T] })
    {A B : Option Addr} {n c m d : Nat} {xs l : List (Int × Int)} (hs : a.eval s = .slice A n c) (hx : a.eval x = .slice B m d) (h : w.ownsRow B0 E 2 (.slice A n c) n (prsOf xs)) (hbase : B0 ≤ w.heap.size) (hl : Prs w B m d l) (hn : n + m ≤ 1000000)
    (hk : ∀ A' c' w', w'.ownsRow B0 E 2 (.slice A' (n + m) c') (n + m) (prsOf (xs ++ l)) → Below B0 w w' → wpList Try.prog ops Q rest (a.put o.dst (.slice A' (n + m) c')) w') : wpList Try.prog ops Q (o :: rest) a w := by
  obtain ⟨A', c', w', hrun, h2, h3⟩ := run_appR pt o.type h hbase hl hn
  refine wpList_plain hgd fun _ hK => ?_
  unfold Oper.wp execOp
  simp only [ho, resolve, invoke, builtin, Sem.run_bind, Sem.run_pure, Result.andThen_ok, List.map_toArray, List.map_cons, List.map_nil, hs, hx, hrun]
  exact hK _ _ (hk A' c' w' h2 h3)
theorem res_one (n : Nat) (c m o : List (Int × Int)) (l : List Int) (r : Nat) (hn : c.length = n) : resB ⟨flRes n c l, m, o⟩ [(r : Int)] = ⟨flRes n c (l ++ [(r : Int)]), m, o⟩ := by
  unfold resB
  simp only [flRes_length, hn]
  rw [flRes_snoc]
  rfl
theorem wpList_appG {T E : TypeId} (pt : PT T E) {B0 : Nat} {w : World} {ops : Array Oper} {rest : List Oper} {o : Oper} {a : Act} {Q : Exit → Act → World → Prop} (hgd : o.guard = none) (s x : Operand)
    (ho : o.op = .call { callee := .builtin .append, args := #[s, x], argTypes := #[T, T] })
    {A : Option Addr} {g n c : Nat} {xs l : List (Int × Int)} {m d : Nat} (hs : a.eval s = .slice A n c) (hx : a.eval x = .slice (some ⟨g, 0, none⟩) m d) (h : w.ownsRow B0 E 2 (.slice A n c) n (prsOf xs)) (hbase : B0 ≤ w.heap.size) (hl : Prs w (some ⟨g, 0, none⟩) m d l) (hn : n + m ≤ 1000000)
    (hk : ∀ A' c' w', w'.ownsRow B0 E 2 (.slice A' (n + m) c') (n + m) (prsOf (xs ++ l)) → w.grownBy w' (Value.slice A n c).ownBlock → wpList Try.prog ops Q rest (a.put o.dst (.slice A' (n + m) c')) w') : wpList Try.prog ops Q (o :: rest) a w := by
  obtain ⟨i, hi, hz0, hz1, hz2⟩ := info_parts pt.info
  obtain ⟨v', w', hrun, h2, h3, _, _⟩ := run_append_own_at (P := Try.prog) w B0 T o.type E i (.agg #[.int .i64 0, .int .i64 0]) 2 16 pt.under hi hz0 hz1 hz2 rfl (by decide) _ n (prsOf xs) h ⟨g, 0, none⟩ m d (prsOf l)
    (by rw [prsOf_length, hl.1]) hl.src (prsOf_one l) (by unfold maxLen; omega) (by omega) hbase
  have hv : ∃ A' c', v' = .slice A' (n + m) c' := by
    rcases h2.2 with ⟨rfl, e⟩ | ⟨g, cap, cur, rfl, _⟩
    · exact ⟨none, 0, by rw [e]⟩
    · exact ⟨_, _, rfl⟩
  obtain ⟨A', c', rfl⟩ := hv
  refine wpList_plain hgd fun _ hK => ?_
  unfold Oper.wp execOp
  simp only [ho, resolve, invoke, builtin, Sem.run_bind, Sem.run_pure, Result.andThen_ok, List.map_toArray, List.map_cons, List.map_nil, hs, hx, hrun]
  exact hK _ _ (hk A' c' w' (by rw [prsOf_append]; exact h2) h3)
/-- The thread's code while places are resolved: it lies below B0, or is a row of the call's own. -/
def Cod (B0 : Nat) (w : World) (A : Option Addr) (n c : Nat) (l : List (Int × Int)) : Prop := PrsU B0 w A n c l ∨ w.ownsRow B0 53 2 (.slice A n c) n (prsOf l)
theorem Cod.prs {B0 : Nat} {w : World} {A : Option Addr} {n c : Nat} {l : List (Int × Int)} (h : Cod B0 w A n c l) : Prs w A n c l := h.elim (·.1) Prs.of_own
theorem Cod.grown {B0 : Nat} {w w' : World} {A P : Option Addr} {n c np cp : Nat} {l xs : List (Int × Int)} (h : Cod B0 w A n c l) (h' : w.ownsRow B0 57 2 (.slice P np cp) np (prsOf xs)) (hB : B0 ≤ w.heap.size) (hg : w.grownBy w' (Value.slice P np cp).ownBlock) : Cod B0 w' A n c l :=
  h.elim (fun h => .inl (h.below ((Below.refl B0 w).grown hg hB (fun k hk => (h'.lt k hk).1)))) (fun h => .inr (row_apart h h' (by decide) hg))
theorem Cod.alloc {B0 : Nat} {w : World} {A : Option Addr} {n c : Nat} {l : List (Int × Int)} (h : Cod B0 w A n c l) (hB : B0 ≤ w.heap.size) (o : Obj) : Cod B0 (w.alloc o) A n c l := h.elim (fun h => .inl (h.below ((below_one w o).mono hB))) (fun h => .inr (row_alloc h o))
theorem Below.of_row {B0 : Nat} {w w' : World} {P : Option Addr} {np cp : Nat} {E : TypeId} {xs : List Value} (h' : w.ownsRow B0 E 2 (.slice P np cp) np xs) (hB : B0 ≤ w.heap.size) (hg : w.grownBy w' (Value.slice P np cp).ownBlock) : Below B0 w w' := (Below.refl B0 w).grown hg hB (fun k hk => (h'.lt k hk).1)

theorem fieldB (A B C : Option Addr) (n c m d k f : Nat) (w : World) : (Instr.field 25 (.agg #[.slice A n c, .slice B m d, .slice C k f]) 0).run Try.prog w = .ok (.slice A n c) w := by kernel_rfl
theorem row_mono {w : World} {B0 B1 : Nat} {E : TypeId} {s : Nat} {v : Value} {n : Nat} {xs : List Value} (h : w.ownsRow B1 E s v n xs) (hB : B0 ≤ B1) : w.ownsRow B0 E s v n xs := by
  refine ⟨h.1, ?_⟩
  rcases h.2 with h1 | ⟨g, cap, cur, hv, hb, hg, h4⟩
  · exact .inl h1
  · exact .inr ⟨g, cap, cur, hv, Nat.le_trans hB hb, hg, h4⟩
def RsPost (w : World) (B : Option Addr) (m d : Nat) (C : Option Addr) (k f n : Nat) (b : Bd) (e : Ending) (w' : World) : Prop := ∃ A c, e = .returned (.agg #[.slice A n c, .slice B m d, .slice C k f]) ∧ w'.ownsRow (w.heap.size + 2) 53 2 (.slice A n c) n (prsOf b.code) ∧ Below w.heap.size w w'
theorem rs_fin {w W' : World} {A B C : Option Addr} {n c m d k f : Nat} {b' : Bd} (h : W'.ownsRow (w.heap.size + 2) 53 2 (.slice A n c) n (prsOf b'.code)) (hB : Below w.heap.size w W') : RsPost w B m d C k f n b' (.returned (.agg #[.slice A n c, .slice B m d, .slice C k f])) W' := ⟨_, _, rfl, h, hB⟩
set_option maxHeartbeats 1000000 in
theorem rresolve_own (A B C : Option Addr) (n c m d k f : Nat) (b : Bd) (q : Nat) (w : World) (hF : Few 50000 b) (hq : q < b.code.length) (h : Bl w A n c B m d C k f b) :
    Calls Try.prog 60 #[.agg #[.slice A n c, .slice B m d, .slice C k f], .int .i64 q] w (RsPost w B m d C k f n (resB b [(q : Int)])) := by
  obtain ⟨hn, hm, hk⟩ := h.ns hF
  have LC := Lib.hid h.1.len
  have LM := Lib.hid h.2.1.len
  have LO := Lib.hid h.2.2.len
  have H := Lib.hid h
  clear h hF
  have X1 := Lib.hid ((Bx.new w 25 (.slice A n c) (.slice B m d) (.slice C k f)).alloc (.cells #[.slice none 0 0, .slice none 0 0, .slice none 0 0] 25))
  have X2 := Lib.hid (Bx.new2 w (.cells #[.slice A n c, .slice B m d, .slice C k f] 25) 25 (.slice none 0 0) (.slice none 0 0) (.slice none 0 0))
  have HB := Lib.hid (below_two w (.cells #[.slice A n c, .slice B m d, .slice C k f] 25) (.cells #[.slice none 0 0, .slice none 0 0, .slice none 0 0] 25))
  go_enter Try.func60, Try.ntmps60
  go_upto_region 1 with (fail)
  generalize (w.alloc (.cells #[.slice A n c, .slice B m d, .slice C k f] 25)).alloc (.cells #[.slice none 0 0, .slice none 0 0, .slice none 0 0] 25) = W at *
  have hg1 : w.heap.size < W.heap.size := X1.out.lt
  have hg2 : w.heap.size + 1 < W.heap.size := X2.out.lt
  have HL := Lib.hid (H.out.below HB.out)
  have a0 := X1.out.c0; have a1 := X1.out.c1; have a2 := X1.out.c2; have af0 := X1.out.f0; have af1 := X1.out.f1; have af2 := X1.out.f2
  have z0 := X2.out.c0; have z1 := X2.out.c1; have z2 := X2.out.c2; have zf0 := X2.out.f0; have zf1 := X2.out.f1; have zf2 := X2.out.f2
  have hqn : q < n := by rw [← LC.out]; exact hq
  have hq0 : (0 : Int) ≤ (q : Int) := by omega
  have hq1 : (q : Int) < (n : Int) := by omega
  go_upto_region 2 with ((at_builtin; refine wpList_app ptI (W := W) rfl (.tmp 6) (.tmp 8) rfl rfl rfl (OwnP.made _ _) (HL.out.pc.alloc _) (by omega) ?_; intro A3 c3 w3 hw3 _; have HW3 := Lib.hid (own_nil' hw3); clear hw3; have Y1 := Lib.hid (X1.out.keep HW3.out.below); have Y2 := Lib.hid (X2.out.keep HW3.out.below); clear a0 a1 a2 af0 af1 af2 z0 z1 z2 zf0 zf1 zf2; have a0 := Y1.out.c0; have a1 := Y1.out.c1; have a2 := Y1.out.c2; have af0 := Y1.out.f0; have af1 := Y1.out.f1; have af2 := Y1.out.f2; have z0 := Y2.out.c0; have z1 := Y2.out.c1; have z2 := Y2.out.c2; have zf0 := Y2.out.f0; have zf1 := Y2.out.f1; have zf2 := Y2.out.f2))
  obtain ⟨g, y, rfl, hgb, hgl, e0, e1, ef0, ef1, hO2⟩ := own_set2 HW3.out.1 q hqn (n : Int)
  have HO := Lib.hid (hO2 (b.code.getD q (0, 0)).1)
  have HQ : Hid (b.code.set q ((b.code.getD q (0, 0)).1, (n : Int)) = (resB b [(q : Int)]).code) := Lib.hid (by unfold resB flRes flSet; simp [LC.out])
  clear hO2
  generalize (b.code.getD q (0, 0)).1 = x at *
  have hne1 : ¬ g = w.heap.size := by omega
  have hne2 : ¬ g = w.heap.size + 1 := by omega
  go_upto_region 3 with (fail)
  have WB := Lib.hid ((HW3.out.below.setCell (p := ⟨g, q * 2, none⟩) hgb (.int .i64 x)).setCell (p := ⟨g, q * 2 + 1, none⟩) hgb (.int .i64 (n : Int)))
  have Z1 := Lib.hid (X1.out.keep WB.out)
  have Z2 := Lib.hid (X2.out.keep WB.out)
  have hO := HO.out
  rw [HQ.out] at hO
  have HO2 := Lib.hid hO
  clear hO HO HQ
  generalize (w3.setCell ⟨g, q * 2, none⟩ (.int .i64 x)).setCell ⟨g, q * 2 + 1, none⟩ (.int .i64 (n : Int)) = w4 at *
  clear a0 a1 a2 af0 af1 af2 z0 z1 z2 zf0 zf1 zf2
  have a0 := Z1.out.c0; have a1 := Z1.out.c1; have a2 := Z1.out.c2; have af0 := Z1.out.f0; have af1 := Z1.out.f1; have af2 := Z1.out.f2
  have z0 := Z2.out.c0; have z1 := Z2.out.c1; have z2 := Z2.out.c2; have zf0 := Z2.out.f0; have zf1 := Z2.out.f1; have zf2 := Z2.out.f2
  have hz2 := Z2.out.lt
  go_wp2
  have hl := HL.out.below WB.out
  refine bodyPost_ret (v := .agg #[.slice (some ⟨g, 0, none⟩) n c3, .slice B m d, .slice C k f]) (by simp [results, Try.results60, go_sem, z0, z1, z2] <;> rfl) rfl (rs_fin (b' := resB b [(q : Int)]) (row_set (row_set (row_set (row_mono HO2.out (by omega)) (by simp <;> omega) _) (by simp <;> omega) _) (by simp <;> omega) _) (below_set3 (below_then HB.out WB.out) (by simp) _ _ _))
theorem cell_set3 {w : World} {g b : Nat} (h : b ≠ g) (x y z : Value) (o : Nat) : (((w.setCell ⟨g, 0, none⟩ x).setCell ⟨g, 1, none⟩ y).setCell ⟨g, 2, none⟩ z).cell? ⟨b, o, none⟩ = w.cell? ⟨b, o, none⟩ := by
  have hne : ∀ i, (⟨g, i, none⟩ : Addr) ≠ ⟨b, o, none⟩ := fun i e => h (by injection e with e1 _ _; exact e1.symm)
  rw [World.cell?_setCell_other _ _ _ _ (hne _), World.cell?_setCell_other _ _ _ _ (hne _), World.cell?_setCell_other _ _ _ _ (hne _)]
set_option maxHeartbeats 4000000 in
theorem rloop__any (A B C : Option Addr) (n c m d k f : Nat) (b : Bd) (w : World) (hF : Few 1000 b) (hs : flSane b = true) (h : Bl w A n c B m d C k f b) :
    Calls Try.prog 35 #[.agg #[.slice A n c, .slice B m d, .slice C k f], .int .i64 7] w (BtPost w (wdN b .loop_) (wdE b .loop_)) := by
  have HF := Lib.hid hF
  have HS := Lib.hid hs
  clear hs
  obtain ⟨hn, hm, hk⟩ := h.ns hF
  have LC := Lib.hid h.1.len
  have LM := Lib.hid h.2.1.len
  have LO := Lib.hid h.2.2.len
  have H := Lib.hid h
  clear h hF
  have X1 := Lib.hid ((Bx.new w 25 (.slice A n c) (.slice B m d) (.slice C k f)).alloc (.cells #[.slice none 0 0, .slice none 0 0, .slice none 0 0] 25))
  have X2 := Lib.hid (Bx.new2 w (.cells #[.slice A n c, .slice B m d, .slice C k f] 25) 25 (.slice none 0 0) (.slice none 0 0) (.slice none 0 0))
  have HB := Lib.hid (below_two w (.cells #[.slice A n c, .slice B m d, .slice C k f] 25) (.cells #[.slice none 0 0, .slice none 0 0, .slice none 0 0] 25))
  go_enter Try.func35, Try.ntmps35
  go_upto_region 1 with (fail)
  generalize (w.alloc (.cells #[.slice A n c, .slice B m d, .slice C k f] 25)).alloc (.cells #[.slice none 0 0, .slice none 0 0, .slice none 0 0] 25) = W at *
  have hg1 : w.heap.size < W.heap.size := X1.out.lt
  have hg2 : w.heap.size + 1 < W.heap.size := X2.out.lt
  have HL := Lib.hid (H.out.below HB.out)
  have a0 := X1.out.c0; have a1 := X1.out.c1; have a2 := X1.out.c2; have af0 := X1.out.f0; have af1 := X1.out.f1; have af2 := X1.out.f2
  have z0 := X2.out.c0; have z1 := X2.out.c1; have z2 := X2.out.c2; have zf0 := X2.out.f0; have zf1 := X2.out.f1; have zf2 := X2.out.f2
  have HU0 := Lib.hid (Below.refl W.heap.size W)
  by_cases hk : topK b = 3
  · skip
    obtain ⟨q, hq, htk⟩ := marks_split (b := b) (by rw [hk]; decide)
    have HT := Lib.hid (rtop0_yes A B C n c m d k f b 3 W (HF.out.mono (by omega)) hk (by decide) HL.out)
    have hE0 : backE b 3 = 0 := by unfold backE; rw [if_pos hk, layE_take]; exact layE_of (by have := HF.out.1; omega)
    have HE : Hid (wdE b .loop_ = 0) := Lib.hid hE0
    have hl1 : layE (takeB b) 1 = 0 := layE_of (by have := HF.out.1; simp [takeB]; omega)
    have HN : Hid (wdN b .loop_ = ⟨flRes (n + 1) (b.code ++ [(7, topA b)]) (placesB (flDeep b.marks) b.outs), b.marks.take q, othersB (flDeep b.marks) b.outs⟩) := Lib.hid (by rw [wdN_of HE.out]; simp only [wdB, endB, if_pos hE0, backB, if_pos hk]; rw [lay1 hl1]; unfold resB takeB; simp [LC.out, htk])
    have FB := Lib.hid (HF.out.code [(7, topA b)] (by simp))
    have FC : Hid (Few 1002 ⟨b.code ++ [(7, topA b)], b.marks.take q, b.outs⟩) := Lib.hid ⟨by have := HF.out.1; simp; omega, by have := HF.out.2.1; simp; omega, by have := HF.out.2.2; simp; omega⟩
    have hplace : ∀ jj, jj < b.outs.length → ∃ r : Nat, (b.outs.getD jj (0, 0)).2 = (r : Int) ∧ r < n := by intro jj hj; have h2 := ((sane_iff b).1 HS.out).2.2 _ (show b.outs.getD jj (0, 0) ∈ b.outs by rw [show b.outs.getD jj (0, 0) = b.outs[jj] by simp [List.getD, hj]]; exact List.getElem_mem hj); unfold flOut flThere at h2; simp only [Bool.and_eq_true, decide_eq_true_eq, LC.out] at h2; exact ⟨((b.outs.getD jj (0, 0)).2).toNat, by omega, by omega⟩
    have HPl := Lib.hid hplace
    have hDl : flDeep b.marks ≤ 100000 := by have := flDeep_le b.marks; have h2 := LM.out; omega
    have KD := Lib.hid (fun w' (h : Below W.heap.size W w') => rdeep_any A B C n c m d k f b.marks w' (by omega) (HL.out.pm.below h))
    clear hk htk hl1 hE0 hplace
    go_upto_region 2 with ((go_at_call 59; refine (HT.out).mono ?_; rintro e w1 ⟨rfl, hb1⟩; have HC1 := Lib.hid (below_then hb1 (below_one w1 (.cells #[.int .i64 3, .int .i64 (topA b)] 57))); have P6 := Lib.hid (Px.new w1 57 (.int .i64 3) (.int .i64 (topA b))); have hw1 := hb1.size; clear hb1))
    generalize w1.alloc (.cells #[.int .i64 3, .int .i64 (topA b)] 57) = W1 at *
    have HU1 := Lib.hid (below_then HU0.out HC1.out)
    have Y1 := Lib.hid (X1.out.keep HC1.out)
    have Y2 := Lib.hid (X2.out.keep HC1.out)
    clear a0 a1 a2 af0 af1 af2 z0 z1 z2 zf0 zf1 zf2
    have a0 := Y1.out.c0; have a1 := Y1.out.c1; have a2 := Y1.out.c2; have af0 := Y1.out.f0; have af1 := Y1.out.f1; have af2 := Y1.out.f2
    have hY1 := Y1.out.lt
    have z0 := Y2.out.c0; have z1 := Y2.out.c1; have z2 := Y2.out.c2; have zf0 := Y2.out.f0; have zf1 := Y2.out.f1; have zf2 := Y2.out.f2
    have hY2 := Y2.out.lt
    have hP6 := P6.out.lt
    go_upto_region 5 with ((go_at_call 25; refine (KD.out _ HU1.out).mono ?_; rintro e w2 ⟨rfl, hb2⟩; have HC2 := Lib.hid hb2; clear hb2))
    have HU2 := Lib.hid (below_then HU1.out HC2.out)
    have Z1 := Lib.hid (Y1.out.keep HC2.out)
    have Z2 := Lib.hid (Y2.out.keep HC2.out)
    have Q6 := Lib.hid (P6.out.keep HC2.out)
    clear a0 a1 a2 af0 af1 af2 z0 z1 z2 zf0 zf1 zf2
    have a0 := Z1.out.c0; have a1 := Z1.out.c1; have a2 := Z1.out.c2; have af0 := Z1.out.f0; have af1 := Z1.out.f1; have af2 := Z1.out.f2
    have z0 := Z2.out.c0; have z1 := Z2.out.c1; have z2 := Z2.out.c2; have zf0 := Z2.out.f0; have zf1 := Z2.out.f1; have zf2 := Z2.out.f2
    have hZ1 := Z1.out.lt
    have hZ2 := Z2.out.lt
    have p0 := Q6.out.c0
    have p1 := Q6.out.c1
    have HL2 := Lib.hid (HL.out.below HU2.out)
    generalize topA b = a at *
    go_upto_region 6 with ((go_at_call 37; refine (rone_of _ _ _ _ _ _ _ _ _ b 7 a _ (HF.out.mono (by omega)) HS.out HL2.out).mono ?_; rintro e w3 ⟨A3, n3, c3, B3, m3, d3, C3, k3, f3, rfl, h3, hb3⟩; have hw3 := hb3.size; have HC3 := Lib.hid (below_then hb3 (below_one w3 (.cells #[.slice A3 n3 c3, .slice B3 m3 d3, .slice C3 k3 f3] 25))); have H3 := Lib.hid (h3.alloc (.cells #[.slice A3 n3 c3, .slice B3 m3 d3, .slice C3 k3 f3] 25)); have X8 := Lib.hid (Bx.new w3 25 (.slice A3 n3 c3) (.slice B3 m3 d3) (.slice C3 k3 f3)); clear h3 hb3))
    generalize w3.alloc (.cells #[.slice A3 n3 c3, .slice B3 m3 d3, .slice C3 k3 f3] 25) = W3 at *
    have HU3 := Lib.hid (below_then HU2.out HC3.out)
    have S1 := Lib.hid (Z1.out.keep HC3.out)
    have S2 := Lib.hid (Z2.out.keep HC3.out)
    clear a0 a1 a2 af0 af1 af2 z0 z1 z2 zf0 zf1 zf2
    have a0 := S1.out.c0; have a1 := S1.out.c1; have a2 := S1.out.c2; have af0 := S1.out.f0; have af1 := S1.out.f1; have af2 := S1.out.f2
    have hS1 := S1.out.lt
    have z0 := S2.out.c0; have z1 := S2.out.c1; have z2 := S2.out.c2; have zf0 := S2.out.f0; have zf1 := S2.out.f1; have zf2 := S2.out.f2
    have hS2 := S2.out.lt
    have x0 := X8.out.c0; have x1 := X8.out.c1; have x2 := X8.out.c2; have xf0 := X8.out.f0; have xf1 := X8.out.f1; have xf2 := X8.out.f2
    have hX8 := X8.out.lt
    go_upto_region 9 with ((go_at_call 61; refine (rless1 _ _ _ _ _ _ _ _ _ _ q _ (FB.out.mono (by omega)) hq H3.out).mono ?_; rintro e w4 ⟨A4, n4, c4, B4, m4, d4, C4, k4, f4, rfl, h4, hb4⟩; have HC4 := Lib.hid hb4; have H4 := Lib.hid h4; clear h4 hb4; have V1 := Lib.hid (S1.out.keep HC4.out); have V2 := Lib.hid (S2.out.keep HC4.out); have V8 := Lib.hid (X8.out.keep HC4.out); clear a0 a1 a2 af0 af1 af2 z0 z1 z2 zf0 zf1 zf2 x0 x1 x2 xf0 xf1 xf2; have a0 := V1.out.c0; have a1 := V1.out.c1; have a2 := V1.out.c2; have af0 := V1.out.f0; have af1 := V1.out.f1; have af2 := V1.out.f2; have z0 := V2.out.c0; have z1 := V2.out.c1; have z2 := V2.out.c2; have zf0 := V2.out.f0; have zf1 := V2.out.f1; have zf2 := V2.out.f2; have x0 := V8.out.c0; have x1 := V8.out.c1; have x2 := V8.out.c2; have xf0 := V8.out.f0; have xf1 := V8.out.f1; have xf2 := V8.out.f2; have hv1 := V1.out.lt; have hv2 := V2.out.lt; have hv8 := V8.out.lt))
    have hw23 : W.heap.size ≤ w3.heap.size := Nat.le_trans HU2.out.size hw3
    have hn8 : w.heap.size + 1 ≠ w3.heap.size := by omega
    have hn7 : w.heap.size ≠ w3.heap.size := by omega
    have T1 := Lib.hid (V1.out.other3 (g' := w3.heap.size) hn7 (.slice A4 n4 c4) (.slice B4 m4 d4) (.slice C4 k4 f4))
    have T2 := Lib.hid (V2.out.other3 (g' := w3.heap.size) hn8 (.slice A4 n4 c4) (.slice B4 m4 d4) (.slice C4 k4 f4))
    have T8 := Lib.hid (V8.out.set3 (.slice A4 n4 c4) (.slice B4 m4 d4) (.slice C4 k4 f4))
    have HT4 := Lib.hid (below_set3 (below_then HU3.out HC4.out) hw23 (.slice A4 n4 c4) (.slice B4 m4 d4) (.slice C4 k4 f4))
    have H4b := Lib.hid (H4.out.set3 V8.out (B1 := A4) (p1 := n4) (e1 := c4) (B2 := B4) (p2 := m4) (e2 := d4) (B3 := C4) (p3 := k4) (e3 := f4))
    generalize (((w4.setCell ⟨w3.heap.size, 0, none⟩ (.slice A4 n4 c4)).setCell ⟨w3.heap.size, 1, none⟩ (.slice B4 m4 d4)).setCell ⟨w3.heap.size, 2, none⟩ (.slice C4 k4 f4)) = W4 at *
    clear a0 a1 a2 af0 af1 af2 z0 z1 z2 zf0 zf1 zf2 x0 x1 x2 xf0 xf1 xf2 V1 V2 V8
    have ht1 := T1.out.lt
    have ht2 := T2.out.lt
    have ht8 := T8.out.lt
    have x0 := T8.out.c0; have x1 := T8.out.c1; have x2 := T8.out.c2; have xf0 := T8.out.f0; have xf1 := T8.out.f1; have xf2 := T8.out.f2
    have N4 : Hid (n + 1 = n4) := Lib.hid (by have := H4b.out.pc.len; simp at this; rw [← this, LC.out])
    have K4 : Hid (k = k4) := Lib.hid (by have := H4b.out.po.len; rw [← this]; exact LO.out.symm)
    obtain rfl := N4.out
    obtain rfl := K4.out
    generalize flDeep b.marks = D at *
    have hcl : (b.code ++ [((7 : Int), a)]).length = n + 1 := by simp [LC.out]
    go_wp2
    go_loopw [11, 12] (fun pv i wr => ∃ (j : Nat) (P : Option Addr) (np cp : Nat) (Ac : Option Addr) (cc : Nat), j ≤ k ∧ i = .int .i64 j ∧ pv = .slice P np cp ∧ np ≤ j ∧ Bx wr (w.heap.size + 1) 25 (.slice none 0 0) (.slice none 0 0) (.slice none 0 0) ∧ Bx wr w3.heap.size 25 (.slice Ac (n + 1) cc) (.slice B4 m4 d4) (.slice C4 k f4) ∧ Cod W4.heap.size wr Ac (n + 1) cc (flRes (n + 1) (b.code ++ [(7, a)]) (placesB D (b.outs.take j))) ∧ PrsU W4.heap.size wr B4 m4 d4 (b.marks.take q) ∧ PrsU W4.heap.size wr C4 k f4 b.outs ∧ wr.ownsRow W4.heap.size 57 2 (.slice P np cp) np (prsOf (othersB D (b.outs.take j))) ∧ Below W.heap.size W wr ∧ W4.heap.size ≤ wr.heap.size) (fun _ i _ => ((k : Int) - intOf i).toNat)
    case atStart => exact ⟨0, none, 0, 0, _, _, by omega, rfl, rfl, by omega, T2.out, T8.out, .inl H4b.out.pc.under, H4b.out.pm.under, H4b.out.po.under, (OwnP.nil _ _).1, HT4.out, Nat.le_refl _⟩
    case round =>
      obtain ⟨j, P, np, cp, Ac, cc, hj, rfl, rfl, hnp, h2, h8, hC, hM, hO, hP, hb, hsz⟩ := hrel
      have G2 := Lib.hid h2
      have G8 := Lib.hid h8
      have GC := Lib.hid hC
      have GM := Lib.hid hM
      have GO := Lib.hid hO
      have GP := Lib.hid hP
      have GB := Lib.hid hb
      clear h2 h8 hC hM hO hP hb x0 x1 x2 xf0 xf1 xf2
      have z0 := G2.out.c0; have z1 := G2.out.c1; have z2 := G2.out.c2; have zf0 := G2.out.f0; have zf1 := G2.out.f1; have zf2 := G2.out.f2
      have x0 := G8.out.c0; have x1 := G8.out.c1; have x2 := G8.out.c2; have xf0 := G8.out.f0; have xf1 := G8.out.f1; have xf2 := G8.out.f2
      have hg2 := G2.out.lt
      have hg8 := G8.out.lt
      by_cases hlt : j < k
      · skip
        have hjl : j < b.outs.length := by rw [LO.out]; exact hlt
        obtain ⟨r, hr, hrn⟩ := HPl.out j hjl
        obtain ⟨mb, mo, rfl, hbl, e0, e1⟩ := GO.out.1.at_ j hlt
        have HNx := Lib.hid (filt_next D b.outs j hjl (b.outs.getD j (0, 0)).1 (b.outs.getD j (0, 0)).2 rfl)
        rw [hr] at e1 HNx
        generalize (b.outs.getD j (0, 0)).1 = x at *
        clear hr
        generalize placesB D (b.outs.take j) = PL at *
        generalize othersB D (b.outs.take j) = OL at *
        cases hx : (x == (D : Int))
        · skip
          have HX := HNx.out
          rw [hx] at HX
          have HXh := Lib.hid HX
          clear HX
          have GPa := Lib.hid (row_alloc GP.out (.cells #[.int .i64 x, .int .i64 (r : Int)] 57))
          have GCa := Lib.hid (GC.out.alloc hsz (.cells #[.int .i64 x, .int .i64 (r : Int)] 57))
          have hsa : W4.heap.size ≤ (wr.alloc (.cells #[.int .i64 x, .int .i64 (r : Int)] 57)).heap.size := by simp; omega
          go_wp2_with ((at_builtin; refine wpList_appG ptM (B0 := W4.heap.size) rfl (.tmp 66) (.tmp 72) rfl rfl rfl GPa.out hsa (Prs.new1 _ _ x (r : Int)) (by omega) ?_; intro A5 c5 w5 hw5 hg5; have HW := Lib.hid hw5; have HG := Lib.hid hg5; clear hw5 hg5))
          have HB5 := Lib.hid (Below.of_row GPa.out hsa HG.out)
          go_roundw
          case rel =>
            have hbl5 : Below W4.heap.size wr w5 := ((below_one wr _).mono hsz).trans HB5.out
            refine ⟨j + 1, A5, np + 1, c5, Ac, cc, by omega, by go_num, rfl, by omega, G2.out.below hbl5 (by omega), G8.out.below hbl5 (by omega), ?_, GM.out.below hbl5, GO.out.below hbl5, ?_, GB.out.trans (hbl5.mono (by omega)), Nat.le_trans hsz hbl5.size⟩
            · rw [HXh.out.1]
              simp only [Bool.false_eq_true, if_false, List.append_nil]
              exact GCa.out.grown GPa.out hsa HG.out
            · rw [HXh.out.2]
              simp only [Bool.false_eq_true, if_false]
              exact HW.out
          case measure => simp [intOf]; omega
        · skip
          have HX := HNx.out
          rw [hx] at HX
          have HXh := Lib.hid HX
          clear HX
          have KR := Lib.hid (fun w' (h : Below wr.heap.size wr w') => rresolve_own Ac B4 (some ⟨mb, mo, none⟩) (n + 1) cc m4 d4 k f4 ⟨flRes (n + 1) (b.code ++ [(7, a)]) PL, b.marks.take q, b.outs⟩ r w' ⟨by rw [flRes_length]; have := FC.out.1; simp at this ⊢; omega, by have := FC.out.2.1; simp at this ⊢; omega, by have := FC.out.2.2; simp at this ⊢; omega⟩ (by rw [flRes_length, hcl]; omega) ⟨GC.out.prs.below h, GM.out.1.below h, GO.out.1.below h⟩)
          have qf := fieldB
          go_upto_region 14 with (fail)
          have HV : Hid (Below wr.heap.size wr wr.drew) := Lib.hid (Below.refl _ _).drew
          have hmb8 : mb ≠ w3.heap.size := GO.out.1.far G8.out rfl (by omega)
          have hHeld0 : ((fun w' => (w'.cell? ⟨w3.heap.size, 1, none⟩ = some (.slice B4 m4 d4) ∧ w'.cell? ⟨w3.heap.size, 2, none⟩ = some (.slice (some ⟨mb, mo, none⟩) k f4)) ∧ w'.cell? ⟨mb, mo + j * 2, none⟩ = some (.int .i64 x) ∧ w'.cell? ⟨mb, mo + j * 2 + 1, none⟩ = some (.int .i64 (r : Int)))) wr.drew := ⟨⟨x1, x2⟩, e0, e1⟩
          refine wp_region_held_drew (S := (fun w' => (w'.cell? ⟨w3.heap.size, 1, none⟩ = some (.slice B4 m4 d4) ∧ w'.cell? ⟨w3.heap.size, 2, none⟩ = some (.slice (some ⟨mb, mo, none⟩) k f4)) ∧ w'.cell? ⟨mb, mo + j * 2, none⟩ = some (.int .i64 x) ∧ w'.cell? ⟨mb, mo + j * 2 + 1, none⟩ = some (.int .i64 (r : Int)))) (by kernel_rfl) hHeld0 (fun hHeld => ?_)
          clear hHeld0
          refine wpAnyH_take (i := 1) (oi := { dst := some 53, op := Op.fieldAddr 25 (Operand.tmp 9) 2, type := 0, pos := "ref.go:118", after := #[], guard := none }) (v := ?_) rfl (by kernel_rfl) (by kernel_rfl) (by kernel_rfl) (fun _ _ _ h => h) (Or.inl ⟨by kernel_rfl, ?_⟩) hHeld ?_
          rotate_left
          · intro w9 hSw; (try dsimp only at hSw); go_simp; try with_reducible rfl
          simp only [Act.put, List.setIfInBounds_toArray, List.set_cons_zero, List.set_cons_succ]
          refine wpAnyH_take (i := 2) (oi := { dst := some 54, op := Op.load 23 (Operand.tmp 53), type := 23, pos := "ref.go:118", after := #[{ on := 1, ground := Ground.data }], guard := none }) (v := ?_) rfl (by kernel_rfl) (by kernel_rfl) (by kernel_rfl) (fun _ _ _ h => h) (Or.inl ⟨by kernel_rfl, ?_⟩) hHeld ?_
          rotate_left
          · intro w9 hSw; (try dsimp only at hSw); go_simp; try with_reducible rfl
          simp only [Act.put, List.setIfInBounds_toArray, List.set_cons_zero, List.set_cons_succ]
          refine wpAnyH_take (i := 3) (oi := { dst := some 55, op := Op.move (Operand.tmp 12), type := 3, pos := "ref.go:118", after := #[], guard := none }) (v := ?_) rfl (by kernel_rfl) (by kernel_rfl) (by kernel_rfl) (fun _ _ _ h => h) (Or.inl ⟨by kernel_rfl, ?_⟩) hHeld ?_
          rotate_left
          · intro w9 hSw; (try dsimp only at hSw); go_simp; try with_reducible rfl
          simp only [Act.put, List.setIfInBounds_toArray, List.set_cons_zero, List.set_cons_succ]
          refine wpAnyH_take (i := 4) (oi := { dst := some 56, op := Op.indexAddr 23 (Operand.tmp 54) (Operand.tmp 55), type := 0, pos := "ref.go:118", after := #[{ on := 2, ground := Ground.data }, { on := 3, ground := Ground.data }], guard := none }) (v := ?_) rfl (by kernel_rfl) (by kernel_rfl) (by kernel_rfl) (fun _ _ _ h => h) (Or.inl ⟨by kernel_rfl, ?_⟩) hHeld ?_
          rotate_left
          · intro w9 hSw; (try dsimp only at hSw); go_simp; try with_reducible rfl
          simp only [Act.put, List.setIfInBounds_toArray, List.set_cons_zero, List.set_cons_succ]
          refine wpAnyH_take (i := 5) (oi := { dst := some 57, op := Op.fieldAddr 57 (Operand.tmp 56) 1, type := 0, pos := "ref.go:118", after := #[{ on := 4, ground := Ground.data }], guard := none }) (v := ?_) rfl (by kernel_rfl) (by kernel_rfl) (by kernel_rfl) (fun _ _ _ h => h) (Or.inl ⟨by kernel_rfl, ?_⟩) hHeld ?_
          rotate_left
          · intro w9 hSw; (try dsimp only at hSw); go_simp; try with_reducible rfl
          simp only [Act.put, List.setIfInBounds_toArray, List.set_cons_zero, List.set_cons_succ]
          refine wpAnyH_take (i := 6) (oi := { dst := some 58, op := Op.load 3 (Operand.tmp 57), type := 3, pos := "ref.go:118", after := #[{ on := 5, ground := Ground.data }], guard := none }) (v := ?_) rfl (by kernel_rfl) (by kernel_rfl) (by kernel_rfl) (fun _ _ _ h => h) (Or.inl ⟨by kernel_rfl, ?_⟩) hHeld ?_
          rotate_left
          · intro w9 hSw; (try dsimp only at hSw); go_simp; try with_reducible rfl
          simp only [Act.put, List.setIfInBounds_toArray, List.set_cons_zero, List.set_cons_succ]
          refine wpAnyH_take (i := 9) (oi := { dst := some 61, op := Op.fieldAddr 25 (Operand.tmp 9) 1, type := 0, pos := "ref.go:118", after := #[], guard := none }) (v := ?_) rfl (by kernel_rfl) (by kernel_rfl) (by kernel_rfl) (fun _ _ _ h => h) (Or.inl ⟨by kernel_rfl, ?_⟩) hHeld ?_
          rotate_left
          · intro w9 hSw; (try dsimp only at hSw); go_simp; try with_reducible rfl
          simp only [Act.put, List.setIfInBounds_toArray, List.set_cons_zero, List.set_cons_succ]
          refine wpAnyH_take (i := 10) (oi := { dst := some 62, op := Op.load 23 (Operand.tmp 61), type := 23, pos := "ref.go:118", after := #[{ on := 9, ground := Ground.data }], guard := none }) (v := ?_) rfl (by kernel_rfl) (by kernel_rfl) (by kernel_rfl) (fun _ _ _ h => h) (Or.inl ⟨by kernel_rfl, ?_⟩) hHeld ?_
          rotate_left
          · intro w9 hSw; (try dsimp only at hSw); go_simp; try with_reducible rfl
          simp only [Act.put, List.setIfInBounds_toArray, List.set_cons_zero, List.set_cons_succ]
          refine wpAnyH_take (i := 11) (oi := { dst := some 63, op := Op.fieldAddr 25 (Operand.tmp 9) 2, type := 0, pos := "ref.go:118", after := #[], guard := none }) (v := ?_) rfl (by kernel_rfl) (by kernel_rfl) (by kernel_rfl) (fun _ _ _ h => h) (Or.inl ⟨by kernel_rfl, ?_⟩) hHeld ?_
          rotate_left
          · intro w9 hSw; (try dsimp only at hSw); go_simp; try with_reducible rfl
          simp only [Act.put, List.setIfInBounds_toArray, List.set_cons_zero, List.set_cons_succ]
          refine wpAnyH_take (i := 12) (oi := { dst := some 64, op := Op.load 23 (Operand.tmp 63), type := 23, pos := "ref.go:118", after := #[{ on := 11, ground := Ground.data }], guard := none }) (v := ?_) rfl (by kernel_rfl) (by kernel_rfl) (by kernel_rfl) (fun _ _ _ h => h) (Or.inl ⟨by kernel_rfl, ?_⟩) hHeld ?_
          rotate_left
          · intro w9 hSw; (try dsimp only at hSw); go_simp; try with_reducible rfl
          simp only [Act.put, List.setIfInBounds_toArray, List.set_cons_zero, List.set_cons_succ]
          refine wpAnyH_ready (rs := [0]) (by kernel_rfl) (by simp) ?_
          refine AllReadyH.cons (o := { dst := some 52, op := Op.load 25 (Operand.tmp 9), type := 25, pos := "ref.go:118", after := #[], guard := none }) rfl (fun K hK => ?_) AllReadyH.nil
          go_simp
          skip
          refine hK.out _ _ (hHeld) (fun hHeld => ?_)
          clear hK K
          try simp only [Act.put, List.setIfInBounds_toArray, List.set_cons_zero, List.set_cons_succ]
          refine wpAnyH_ready (rs := [7]) (by kernel_rfl) (by simp) ?_
          refine AllReadyH.cons (o := { dst := some 59, op := Op.call { callee := Callee.value (Operand.func 60), args := #[Operand.tmp 52, Operand.tmp 58], argTypes := #[25, 3] }, type := 25, pos := "ref.go:118", after := #[{ on := 0, ground := Ground.data }, { on := 6, ground := Ground.data }], guard := none }) rfl (fun K hK => ?_) AllReadyH.nil
          go_simp
          (go_at_call 60; (with_reducible refine (KR.out _ HV.out).mono ?_); rintro e w5 ⟨A5, c5, rfl, h5, hb5⟩; have HV := Lib.hid (below_then HV.out hb5); have H5 := Lib.hid h5; clear h5 hb5; have J8 := Lib.hid (G8.out.keep HV.out); have J2 := Lib.hid (G2.out.keep HV.out); clear x0 x1 x2 xf0 xf1 xf2; have x0 := J8.out.c0; have x1 := J8.out.c1; have x2 := J8.out.c2; have xf0 := J8.out.f0; have xf1 := J8.out.f1; have xf2 := J8.out.f2; have hj8 := J8.out.lt)
          refine hK.out _ _ (⟨⟨(J8.out).c1, (J8.out).c2⟩, (HV.out.cell (p := ⟨mb, _, none⟩) hbl).trans e0, (HV.out.cell (p := ⟨mb, _, none⟩) hbl).trans e1⟩) (fun hHeld => ?_)
          clear hK K
          try simp only [Act.put, List.setIfInBounds_toArray, List.set_cons_zero, List.set_cons_succ]
          refine wpAnyH_take (i := 8) (oi := { dst := some 60, op := Op.field 25 (Operand.tmp 59) 0, type := 22, pos := "ref.go:118", after := #[{ on := 7, ground := Ground.data }], guard := none }) (v := ?_) rfl (by kernel_rfl) (by kernel_rfl) (by kernel_rfl) (fun _ _ _ h => h) (Or.inl ⟨by kernel_rfl, ?_⟩) hHeld ?_
          rotate_left
          · intro w9 hSw; (try dsimp only at hSw); go_simp; try with_reducible rfl
          simp only [Act.put, List.setIfInBounds_toArray, List.set_cons_zero, List.set_cons_succ]
          refine wpAnyH_take (i := 13) (oi := { dst := some 65, op := Op.build 25 #[(0, Operand.tmp 60), (1, Operand.tmp 62), (2, Operand.tmp 64)], type := 25, pos := "ref.go:118", after := #[{ on := 8, ground := Ground.data }, { on := 10, ground := Ground.data }, { on := 12, ground := Ground.data }], guard := none }) (v := ?_) rfl (by kernel_rfl) (by kernel_rfl) (by kernel_rfl) (fun _ _ _ h => h) (Or.inl ⟨by kernel_rfl, ?_⟩) hHeld ?_
          rotate_left
          · intro w9 hSw; (try dsimp only at hSw); go_simp; try with_reducible rfl
          simp only [Act.put, List.setIfInBounds_toArray, List.set_cons_zero, List.set_cons_succ]
          refine wpAnyH_ready (rs := [14]) (by kernel_rfl) (by simp) ?_
          refine AllReadyH.cons (o := { dst := none, op := Op.store 25 (Operand.tmp 9) (Operand.tmp 65), type := 0, pos := "ref.go:118", after := #[{ on := 13, ground := Ground.data }, { on := 7, ground := Ground.chain }, { on := 0, ground := Ground.phase }, { on := 1, ground := Ground.phase }, { on := 2, ground := Ground.phase }, { on := 3, ground := Ground.phase }, { on := 4, ground := Ground.phase }, { on := 5, ground := Ground.phase }, { on := 6, ground := Ground.phase }, { on := 7, ground := Ground.phase }, { on := 8, ground := Ground.phase }, { on := 9, ground := Ground.phase }, { on := 10, ground := Ground.phase }, { on := 11, ground := Ground.phase }, { on := 12, ground := Ground.phase }, { on := 13, ground := Ground.phase }], guard := none }) rfl (fun K hK => ?_) AllReadyH.nil
          go_simp
          skip
          refine hK.out _ _ (⟨⟨(J8.out.set3 (.slice A5 (n + 1) c5) (.slice B4 m4 d4) (.slice (some ⟨mb, mo, none⟩) k f4)).c1, (J8.out.set3 (.slice A5 (n + 1) c5) (.slice B4 m4 d4) (.slice (some ⟨mb, mo, none⟩) k f4)).c2⟩, (cell_set3 hmb8 _ _ _ _).trans hHeld.2.1, (cell_set3 hmb8 _ _ _ _).trans hHeld.2.2⟩) (fun hHeld => ?_)
          clear hK K
          try simp only [Act.put, List.setIfInBounds_toArray, List.set_cons_zero, List.set_cons_succ]
          refine wpAnyH_done (by kernel_rfl) ?_ _
          go_wp2
          go_roundw
          case rel =>
            have hV4 : Below W4.heap.size wr w5 := HV.out.mono hsz
            refine ⟨j + 1, P, np, cp, A5, c5, by omega, by go_num, rfl, by omega, J2.out.other3 (by omega) _ _ _, J8.out.set3 _ _ _, .inr ?_, ?_, ?_, ?_, below_set3 (GB.out.trans (HV.out.mono GB.out.size)) (by omega) _ _ _, ?_⟩
            · rw [HXh.out.1]
              simp only [if_true]
              have h5 := H5.out
              rw [res_one (n + 1) _ _ _ PL r hcl] at h5
              exact row_set (row_set (row_set (row_mono h5 (Nat.le_trans hsz (Nat.le_add_right _ 2))) (by simp <;> omega) _) (by simp <;> omega) _) (by simp <;> omega) _
            · exact (((GM.out.below hV4).set_ J8.out 0 _).set_ (J8.out.s0 _) 1 _).set_ ((J8.out.s0 _).s1 _) 2 _
            · exact (((GO.out.below hV4).set_ J8.out 0 _).set_ (J8.out.s0 _) 1 _).set_ ((J8.out.s0 _).s1 _) 2 _
            · rw [HXh.out.2]
              simp only [if_true, List.append_nil]
              exact row_set (row_set (row_set (row_keep2 GP.out (fun g _ hg => HV.out.block g hg)) (by simp <;> omega) _) (by simp <;> omega) _) (by simp <;> omega) _
            · have := HV.out.size
              rw [size_set3]
              omega
          case measure => simp [intOf]; omega
      · skip
        obtain rfl : k = j := by omega
        have etk : b.outs.take k = b.outs := List.take_of_length_le (by rw [LO.out]; exact Nat.le_refl _)
        have hC := GC.out.prs
        have hP := Prs.of_own GP.out
        rw [etk] at hC hP
        have HC9 := Lib.hid hC
        have HP9 := Lib.hid hP
        clear hC hP
        go_wp2
        refine bodyPost_ret (v := .tuple #[.agg #[.slice Ac (n+1) cc, .slice B4 m4 d4, .slice P np cp], .int .i64 0]) (by simp [results, Try.results35, go_sem, z0, z1, z2] <;> rfl) rfl (bt_fin (b' := ⟨flRes (n + 1) (b.code ++ [(7, a)]) (placesB D b.outs), b.marks.take q, othersB D b.outs⟩) (Bl.set3 ⟨HC9.out, GM.out.1, HP9.out⟩ G2.out) (below_set3 (below_then HB.out GB.out) (by simp) _ _ _) HN.out.symm HE.out.symm)
  · skip
    have HT := Lib.hid (rtop0_no A B C n c m d k f b 3 W (HF.out.mono (by omega)) hk HL.out)
    have HE : Hid (wdE b .loop_ = -22) := Lib.hid (by show backE b 3 = -22; unfold backE; rw [if_neg hk])
    clear hk
    go_upto_region 2 with ((go_at_call 59; refine (HT.out).mono ?_; rintro e w1 ⟨rfl, hb1⟩; have HC1 := Lib.hid (below_then hb1 (below_one w1 (.cells #[.int .i64 0, .int .i64 0] 57))); have P6 := Lib.hid (Px.new w1 57 (.int .i64 0) (.int .i64 0)); have hw1 := hb1.size; clear hb1))
    generalize w1.alloc (.cells #[.int .i64 0, .int .i64 0] 57) = W1 at *
    have HU1 := Lib.hid (below_then HU0.out HC1.out)
    have Y1 := Lib.hid (X1.out.keep HC1.out)
    have Y2 := Lib.hid (X2.out.keep HC1.out)
    clear a0 a1 a2 af0 af1 af2 z0 z1 z2 zf0 zf1 zf2
    have a0 := Y1.out.c0; have a1 := Y1.out.c1; have a2 := Y1.out.c2; have af0 := Y1.out.f0; have af1 := Y1.out.f1; have af2 := Y1.out.f2
    have hY1 := Y1.out.lt
    have z0 := Y2.out.c0; have z1 := Y2.out.c1; have z2 := Y2.out.c2; have zf0 := Y2.out.f0; have zf1 := Y2.out.f1; have zf2 := Y2.out.f2
    have hY2 := Y2.out.lt
    have hP6 := P6.out.lt
    go_wp2
    refine bodyPost_ret (v := .tuple #[.agg #[.slice A n c, .slice B m d, .slice C k f], .int .i64 (-22)]) (by simp [results, Try.results35, go_sem, z0, z1, z2] <;> rfl) rfl (bt_fin (b' := b) ((HL.out.below HU1.out).set3 Y2.out) (below_set3 (below_then HB.out HU1.out) (by simp) _ _ _) (wdN_not HE.out).symm HE.out.symm)
set_option maxHeartbeats 4000000 in
theorem rplusLoop_any (A B C : Option Addr) (n c m d k f : Nat) (b : Bd) (w : World) (hF : Few 1000 b) (hs : flSane b = true) (h : Bl w A n c B m d C k f b) :
    Calls Try.prog 35 #[.agg #[.slice A n c, .slice B m d, .slice C k f], .int .i64 8] w (BtPost w (wdN b .plusLoop) (wdE b .plusLoop)) := by
  have HF := Lib.hid hF
  have HS := Lib.hid hs
  clear hs
  obtain ⟨hn, hm, hk⟩ := h.ns hF
  have LC := Lib.hid h.1.len
  have LM := Lib.hid h.2.1.len
  have LO := Lib.hid h.2.2.len
  have H := Lib.hid h
  clear h hF
  have X1 := Lib.hid ((Bx.new w 25 (.slice A n c) (.slice B m d) (.slice C k f)).alloc (.cells #[.slice none 0 0, .slice none 0 0, .slice none 0 0] 25))
  have X2 := Lib.hid (Bx.new2 w (.cells #[.slice A n c, .slice B m d, .slice C k f] 25) 25 (.slice none 0 0) (.slice none 0 0) (.slice none 0 0))
  have HB := Lib.hid (below_two w (.cells #[.slice A n c, .slice B m d, .slice C k f] 25) (.cells #[.slice none 0 0, .slice none 0 0, .slice none 0 0] 25))
  go_enter Try.func35, Try.ntmps35
  go_upto_region 1 with (fail)
  generalize (w.alloc (.cells #[.slice A n c, .slice B m d, .slice C k f] 25)).alloc (.cells #[.slice none 0 0, .slice none 0 0, .slice none 0 0] 25) = W at *
  have hg1 : w.heap.size < W.heap.size := X1.out.lt
  have hg2 : w.heap.size + 1 < W.heap.size := X2.out.lt
  have HL := Lib.hid (H.out.below HB.out)
  have a0 := X1.out.c0; have a1 := X1.out.c1; have a2 := X1.out.c2; have af0 := X1.out.f0; have af1 := X1.out.f1; have af2 := X1.out.f2
  have z0 := X2.out.c0; have z1 := X2.out.c1; have z2 := X2.out.c2; have zf0 := X2.out.f0; have zf1 := X2.out.f1; have zf2 := X2.out.f2
  have HU0 := Lib.hid (Below.refl W.heap.size W)
  by_cases hk : topK b = 3
  · skip
    obtain ⟨q, hq, htk⟩ := marks_split (b := b) (by rw [hk]; decide)
    have HT := Lib.hid (rtop0_yes A B C n c m d k f b 3 W (HF.out.mono (by omega)) hk (by decide) HL.out)
    have hE0 : backE b 3 = 0 := by unfold backE; rw [if_pos hk, layE_take]; exact layE_of (by have := HF.out.1; omega)
    have HE : Hid (wdE b .plusLoop = 0) := Lib.hid hE0
    have hl1 : layE (takeB b) 1 = 0 := layE_of (by have := HF.out.1; simp [takeB]; omega)
    have HN : Hid (wdN b .plusLoop = ⟨flRes (n + 1) (b.code ++ [(8, topA b)]) (placesB (flDeep b.marks) b.outs), b.marks.take q, othersB (flDeep b.marks) b.outs⟩) := Lib.hid (by rw [wdN_of HE.out]; simp only [wdB, endB, if_pos hE0, backB, if_pos hk]; rw [lay1 hl1]; unfold resB takeB; simp [LC.out, htk])
    have FB := Lib.hid (HF.out.code [(8, topA b)] (by simp))
    have FC : Hid (Few 1002 ⟨b.code ++ [(8, topA b)], b.marks.take q, b.outs⟩) := Lib.hid ⟨by have := HF.out.1; simp; omega, by have := HF.out.2.1; simp; omega, by have := HF.out.2.2; simp; omega⟩
    have hplace : ∀ jj, jj < b.outs.length → ∃ r : Nat, (b.outs.getD jj (0, 0)).2 = (r : Int) ∧ r < n := by intro jj hj; have h2 := ((sane_iff b).1 HS.out).2.2 _ (show b.outs.getD jj (0, 0) ∈ b.outs by rw [show b.outs.getD jj (0, 0) = b.outs[jj] by simp [List.getD, hj]]; exact List.getElem_mem hj); unfold flOut flThere at h2; simp only [Bool.and_eq_true, decide_eq_true_eq, LC.out] at h2; exact ⟨((b.outs.getD jj (0, 0)).2).toNat, by omega, by omega⟩
    have HPl := Lib.hid hplace
    have hDl : flDeep b.marks ≤ 100000 := by have := flDeep_le b.marks; have h2 := LM.out; omega
    have KD := Lib.hid (fun w' (h : Below W.heap.size W w') => rdeep_any A B C n c m d k f b.marks w' (by omega) (HL.out.pm.below h))
    clear hk htk hl1 hE0 hplace
    go_upto_region 2 with ((go_at_call 59; refine (HT.out).mono ?_; rintro e w1 ⟨rfl, hb1⟩; have HC1 := Lib.hid (below_then hb1 (below_one w1 (.cells #[.int .i64 3, .int .i64 (topA b)] 57))); have P6 := Lib.hid (Px.new w1 57 (.int .i64 3) (.int .i64 (topA b))); have hw1 := hb1.size; clear hb1))
    generalize w1.alloc (.cells #[.int .i64 3, .int .i64 (topA b)] 57) = W1 at *
    have HU1 := Lib.hid (below_then HU0.out HC1.out)
    have Y1 := Lib.hid (X1.out.keep HC1.out)
    have Y2 := Lib.hid (X2.out.keep HC1.out)
    clear a0 a1 a2 af0 af1 af2 z0 z1 z2 zf0 zf1 zf2
    have a0 := Y1.out.c0; have a1 := Y1.out.c1; have a2 := Y1.out.c2; have af0 := Y1.out.f0; have af1 := Y1.out.f1; have af2 := Y1.out.f2
    have hY1 := Y1.out.lt
    have z0 := Y2.out.c0; have z1 := Y2.out.c1; have z2 := Y2.out.c2; have zf0 := Y2.out.f0; have zf1 := Y2.out.f1; have zf2 := Y2.out.f2
    have hY2 := Y2.out.lt
    have hP6 := P6.out.lt
    go_upto_region 5 with ((go_at_call 25; refine (KD.out _ HU1.out).mono ?_; rintro e w2 ⟨rfl, hb2⟩; have HC2 := Lib.hid hb2; clear hb2))
    have HU2 := Lib.hid (below_then HU1.out HC2.out)
    have Z1 := Lib.hid (Y1.out.keep HC2.out)
    have Z2 := Lib.hid (Y2.out.keep HC2.out)
    have Q6 := Lib.hid (P6.out.keep HC2.out)
    clear a0 a1 a2 af0 af1 af2 z0 z1 z2 zf0 zf1 zf2
    have a0 := Z1.out.c0; have a1 := Z1.out.c1; have a2 := Z1.out.c2; have af0 := Z1.out.f0; have af1 := Z1.out.f1; have af2 := Z1.out.f2
    have z0 := Z2.out.c0; have z1 := Z2.out.c1; have z2 := Z2.out.c2; have zf0 := Z2.out.f0; have zf1 := Z2.out.f1; have zf2 := Z2.out.f2
    have hZ1 := Z1.out.lt
    have hZ2 := Z2.out.lt
    have p0 := Q6.out.c0
    have p1 := Q6.out.c1
    have HL2 := Lib.hid (HL.out.below HU2.out)
    generalize topA b = a at *
    go_upto_region 6 with ((go_at_call 37; refine (rone_of _ _ _ _ _ _ _ _ _ b 8 a _ (HF.out.mono (by omega)) HS.out HL2.out).mono ?_; rintro e w3 ⟨A3, n3, c3, B3, m3, d3, C3, k3, f3, rfl, h3, hb3⟩; have hw3 := hb3.size; have HC3 := Lib.hid (below_then hb3 (below_one w3 (.cells #[.slice A3 n3 c3, .slice B3 m3 d3, .slice C3 k3 f3] 25))); have H3 := Lib.hid (h3.alloc (.cells #[.slice A3 n3 c3, .slice B3 m3 d3, .slice C3 k3 f3] 25)); have X8 := Lib.hid (Bx.new w3 25 (.slice A3 n3 c3) (.slice B3 m3 d3) (.slice C3 k3 f3)); clear h3 hb3))
    generalize w3.alloc (.cells #[.slice A3 n3 c3, .slice B3 m3 d3, .slice C3 k3 f3] 25) = W3 at *
    have HU3 := Lib.hid (below_then HU2.out HC3.out)
    have S1 := Lib.hid (Z1.out.keep HC3.out)
    have S2 := Lib.hid (Z2.out.keep HC3.out)
    clear a0 a1 a2 af0 af1 af2 z0 z1 z2 zf0 zf1 zf2
    have a0 := S1.out.c0; have a1 := S1.out.c1; have a2 := S1.out.c2; have af0 := S1.out.f0; have af1 := S1.out.f1; have af2 := S1.out.f2
    have hS1 := S1.out.lt
    have z0 := S2.out.c0; have z1 := S2.out.c1; have z2 := S2.out.c2; have zf0 := S2.out.f0; have zf1 := S2.out.f1; have zf2 := S2.out.f2
    have hS2 := S2.out.lt
    have x0 := X8.out.c0; have x1 := X8.out.c1; have x2 := X8.out.c2; have xf0 := X8.out.f0; have xf1 := X8.out.f1; have xf2 := X8.out.f2
    have hX8 := X8.out.lt
    go_upto_region 9 with ((go_at_call 61; refine (rless1 _ _ _ _ _ _ _ _ _ _ q _ (FB.out.mono (by omega)) hq H3.out).mono ?_; rintro e w4 ⟨A4, n4, c4, B4, m4, d4, C4, k4, f4, rfl, h4, hb4⟩; have HC4 := Lib.hid hb4; have H4 := Lib.hid h4; clear h4 hb4; have V1 := Lib.hid (S1.out.keep HC4.out); have V2 := Lib.hid (S2.out.keep HC4.out); have V8 := Lib.hid (X8.out.keep HC4.out); clear a0 a1 a2 af0 af1 af2 z0 z1 z2 zf0 zf1 zf2 x0 x1 x2 xf0 xf1 xf2; have a0 := V1.out.c0; have a1 := V1.out.c1; have a2 := V1.out.c2; have af0 := V1.out.f0; have af1 := V1.out.f1; have af2 := V1.out.f2; have z0 := V2.out.c0; have z1 := V2.out.c1; have z2 := V2.out.c2; have zf0 := V2.out.f0; have zf1 := V2.out.f1; have zf2 := V2.out.f2; have x0 := V8.out.c0; have x1 := V8.out.c1; have x2 := V8.out.c2; have xf0 := V8.out.f0; have xf1 := V8.out.f1; have xf2 := V8.out.f2; have hv1 := V1.out.lt; have hv2 := V2.out.lt; have hv8 := V8.out.lt))
    have hw23 : W.heap.size ≤ w3.heap.size := Nat.le_trans HU2.out.size hw3
    have hn8 : w.heap.size + 1 ≠ w3.heap.size := by omega
    have hn7 : w.heap.size ≠ w3.heap.size := by omega
    have T1 := Lib.hid (V1.out.other3 (g' := w3.heap.size) hn7 (.slice A4 n4 c4) (.slice B4 m4 d4) (.slice C4 k4 f4))
    have T2 := Lib.hid (V2.out.other3 (g' := w3.heap.size) hn8 (.slice A4 n4 c4) (.slice B4 m4 d4) (.slice C4 k4 f4))
    have T8 := Lib.hid (V8.out.set3 (.slice A4 n4 c4) (.slice B4 m4 d4) (.slice C4 k4 f4))
    have HT4 := Lib.hid (below_set3 (below_then HU3.out HC4.out) hw23 (.slice A4 n4 c4) (.slice B4 m4 d4) (.slice C4 k4 f4))
    have H4b := Lib.hid (H4.out.set3 V8.out (B1 := A4) (p1 := n4) (e1 := c4) (B2 := B4) (p2 := m4) (e2 := d4) (B3 := C4) (p3 := k4) (e3 := f4))
    generalize (((w4.setCell ⟨w3.heap.size, 0, none⟩ (.slice A4 n4 c4)).setCell ⟨w3.heap.size, 1, none⟩ (.slice B4 m4 d4)).setCell ⟨w3.heap.size, 2, none⟩ (.slice C4 k4 f4)) = W4 at *
    clear a0 a1 a2 af0 af1 af2 z0 z1 z2 zf0 zf1 zf2 x0 x1 x2 xf0 xf1 xf2 V1 V2 V8
    have ht1 := T1.out.lt
    have ht2 := T2.out.lt
    have ht8 := T8.out.lt
    have x0 := T8.out.c0; have x1 := T8.out.c1; have x2 := T8.out.c2; have xf0 := T8.out.f0; have xf1 := T8.out.f1; have xf2 := T8.out.f2
    have N4 : Hid (n + 1 = n4) := Lib.hid (by have := H4b.out.pc.len; simp at this; rw [← this, LC.out])
    have K4 : Hid (k = k4) := Lib.hid (by have := H4b.out.po.len; rw [← this]; exact LO.out.symm)
    obtain rfl := N4.out
    obtain rfl := K4.out
    generalize flDeep b.marks = D at *
    have hcl : (b.code ++ [((8 : Int), a)]).length = n + 1 := by simp [LC.out]
    go_wp2
    go_loopw [11, 12] (fun pv i wr => ∃ (j : Nat) (P : Option Addr) (np cp : Nat) (Ac : Option Addr) (cc : Nat), j ≤ k ∧ i = .int .i64 j ∧ pv = .slice P np cp ∧ np ≤ j ∧ Bx wr (w.heap.size + 1) 25 (.slice none 0 0) (.slice none 0 0) (.slice none 0 0) ∧ Bx wr w3.heap.size 25 (.slice Ac (n + 1) cc) (.slice B4 m4 d4) (.slice C4 k f4) ∧ Cod W4.heap.size wr Ac (n + 1) cc (flRes (n + 1) (b.code ++ [(8, a)]) (placesB D (b.outs.take j))) ∧ PrsU W4.heap.size wr B4 m4 d4 (b.marks.take q) ∧ PrsU W4.heap.size wr C4 k f4 b.outs ∧ wr.ownsRow W4.heap.size 57 2 (.slice P np cp) np (prsOf (othersB D (b.outs.take j))) ∧ Below W.heap.size W wr ∧ W4.heap.size ≤ wr.heap.size) (fun _ i _ => ((k : Int) - intOf i).toNat)
    case atStart => exact ⟨0, none, 0, 0, _, _, by omega, rfl, rfl, by omega, T2.out, T8.out, .inl H4b.out.pc.under, H4b.out.pm.under, H4b.out.po.under, (OwnP.nil _ _).1, HT4.out, Nat.le_refl _⟩
    case round =>
      obtain ⟨j, P, np, cp, Ac, cc, hj, rfl, rfl, hnp, h2, h8, hC, hM, hO, hP, hb, hsz⟩ := hrel
      have G2 := Lib.hid h2
      have G8 := Lib.hid h8
      have GC := Lib.hid hC
      have GM := Lib.hid hM
      have GO := Lib.hid hO
      have GP := Lib.hid hP
      have GB := Lib.hid hb
      clear h2 h8 hC hM hO hP hb x0 x1 x2 xf0 xf1 xf2
      have z0 := G2.out.c0; have z1 := G2.out.c1; have z2 := G2.out.c2; have zf0 := G2.out.f0; have zf1 := G2.out.f1; have zf2 := G2.out.f2
      have x0 := G8.out.c0; have x1 := G8.out.c1; have x2 := G8.out.c2; have xf0 := G8.out.f0; have xf1 := G8.out.f1; have xf2 := G8.out.f2
      have hg2 := G2.out.lt
      have hg8 := G8.out.lt
      by_cases hlt : j < k
      · skip
        have hjl : j < b.outs.length := by rw [LO.out]; exact hlt
        obtain ⟨r, hr, hrn⟩ := HPl.out j hjl
        obtain ⟨mb, mo, rfl, hbl, e0, e1⟩ := GO.out.1.at_ j hlt
        have HNx := Lib.hid (filt_next D b.outs j hjl (b.outs.getD j (0, 0)).1 (b.outs.getD j (0, 0)).2 rfl)
        rw [hr] at e1 HNx
        generalize (b.outs.getD j (0, 0)).1 = x at *
        clear hr
        generalize placesB D (b.outs.take j) = PL at *
        generalize othersB D (b.outs.take j) = OL at *
        cases hx : (x == (D : Int))
        · skip
          have HX := HNx.out
          rw [hx] at HX
          have HXh := Lib.hid HX
          clear HX
          have GPa := Lib.hid (row_alloc GP.out (.cells #[.int .i64 x, .int .i64 (r : Int)] 57))
          have GCa := Lib.hid (GC.out.alloc hsz (.cells #[.int .i64 x, .int .i64 (r : Int)] 57))
          have hsa : W4.heap.size ≤ (wr.alloc (.cells #[.int .i64 x, .int .i64 (r : Int)] 57)).heap.size := by simp; omega
          go_wp2_with ((at_builtin; refine wpList_appG ptM (B0 := W4.heap.size) rfl (.tmp 66) (.tmp 72) rfl rfl rfl GPa.out hsa (Prs.new1 _ _ x (r : Int)) (by omega) ?_; intro A5 c5 w5 hw5 hg5; have HW := Lib.hid hw5; have HG := Lib.hid hg5; clear hw5 hg5))
          have HB5 := Lib.hid (Below.of_row GPa.out hsa HG.out)
          go_roundw
          case rel =>
            have hbl5 : Below W4.heap.size wr w5 := ((below_one wr _).mono hsz).trans HB5.out
            refine ⟨j + 1, A5, np + 1, c5, Ac, cc, by omega, by go_num, rfl, by omega, G2.out.below hbl5 (by omega), G8.out.below hbl5 (by omega), ?_, GM.out.below hbl5, GO.out.below hbl5, ?_, GB.out.trans (hbl5.mono (by omega)), Nat.le_trans hsz hbl5.size⟩
            · rw [HXh.out.1]
              simp only [Bool.false_eq_true, if_false, List.append_nil]
              exact GCa.out.grown GPa.out hsa HG.out
            · rw [HXh.out.2]
              simp only [Bool.false_eq_true, if_false]
              exact HW.out
          case measure => simp [intOf]; omega
        · skip
          have HX := HNx.out
          rw [hx] at HX
          have HXh := Lib.hid HX
          clear HX
          have KR := Lib.hid (fun w' (h : Below wr.heap.size wr w') => rresolve_own Ac B4 (some ⟨mb, mo, none⟩) (n + 1) cc m4 d4 k f4 ⟨flRes (n + 1) (b.code ++ [(8, a)]) PL, b.marks.take q, b.outs⟩ r w' ⟨by rw [flRes_length]; have := FC.out.1; simp at this ⊢; omega, by have := FC.out.2.1; simp at this ⊢; omega, by have := FC.out.2.2; simp at this ⊢; omega⟩ (by rw [flRes_length, hcl]; omega) ⟨GC.out.prs.below h, GM.out.1.below h, GO.out.1.below h⟩)
          have qf := fieldB
          go_upto_region 14 with (fail)
          have HV : Hid (Below wr.heap.size wr wr.drew) := Lib.hid (Below.refl _ _).drew
          have hmb8 : mb ≠ w3.heap.size := GO.out.1.far G8.out rfl (by omega)
          have hHeld0 : ((fun w' => (w'.cell? ⟨w3.heap.size, 1, none⟩ = some (.slice B4 m4 d4) ∧ w'.cell? ⟨w3.heap.size, 2, none⟩ = some (.slice (some ⟨mb, mo, none⟩) k f4)) ∧ w'.cell? ⟨mb, mo + j * 2, none⟩ = some (.int .i64 x) ∧ w'.cell? ⟨mb, mo + j * 2 + 1, none⟩ = some (.int .i64 (r : Int)))) wr.drew := ⟨⟨x1, x2⟩, e0, e1⟩
          refine wp_region_held_drew (S := (fun w' => (w'.cell? ⟨w3.heap.size, 1, none⟩ = some (.slice B4 m4 d4) ∧ w'.cell? ⟨w3.heap.size, 2, none⟩ = some (.slice (some ⟨mb, mo, none⟩) k f4)) ∧ w'.cell? ⟨mb, mo + j * 2, none⟩ = some (.int .i64 x) ∧ w'.cell? ⟨mb, mo + j * 2 + 1, none⟩ = some (.int .i64 (r : Int)))) (by kernel_rfl) hHeld0 (fun hHeld => ?_)
          clear hHeld0
          refine wpAnyH_take (i := 1) (oi := { dst := some 53, op := Op.fieldAddr 25 (Operand.tmp 9) 2, type := 0, pos := "ref.go:118", after := #[], guard := none }) (v := ?_) rfl (by kernel_rfl) (by kernel_rfl) (by kernel_rfl) (fun _ _ _ h => h) (Or.inl ⟨by kernel_rfl, ?_⟩) hHeld ?_
          rotate_left
          · intro w9 hSw; (try dsimp only at hSw); go_simp; try with_reducible rfl
          simp only [Act.put, List.setIfInBounds_toArray, List.set_cons_zero, List.set_cons_succ]
          refine wpAnyH_take (i := 2) (oi := { dst := some 54, op := Op.load 23 (Operand.tmp 53), type := 23, pos := "ref.go:118", after := #[{ on := 1, ground := Ground.data }], guard := none }) (v := ?_) rfl (by kernel_rfl) (by kernel_rfl) (by kernel_rfl) (fun _ _ _ h => h) (Or.inl ⟨by kernel_rfl, ?_⟩) hHeld ?_
          rotate_left
          · intro w9 hSw; (try dsimp only at hSw); go_simp; try with_reducible rfl
          simp only [Act.put, List.setIfInBounds_toArray, List.set_cons_zero, List.set_cons_succ]
          refine wpAnyH_take (i := 3) (oi := { dst := some 55, op := Op.move (Operand.tmp 12), type := 3, pos := "ref.go:118", after := #[], guard := none }) (v := ?_) rfl (by kernel_rfl) (by kernel_rfl) (by kernel_rfl) (fun _ _ _ h => h) (Or.inl ⟨by kernel_rfl, ?_⟩) hHeld ?_
          rotate_left
          · intro w9 hSw; (try dsimp only at hSw); go_simp; try with_reducible rfl
          simp only [Act.put, List.setIfInBounds_toArray, List.set_cons_zero, List.set_cons_succ]
          refine wpAnyH_take (i := 4) (oi := { dst := some 56, op := Op.indexAddr 23 (Operand.tmp 54) (Operand.tmp 55), type := 0, pos := "ref.go:118", after := #[{ on := 2, ground := Ground.data }, { on := 3, ground := Ground.data }], guard := none }) (v := ?_) rfl (by kernel_rfl) (by kernel_rfl) (by kernel_rfl) (fun _ _ _ h => h) (Or.inl ⟨by kernel_rfl, ?_⟩) hHeld ?_
          rotate_left
          · intro w9 hSw; (try dsimp only at hSw); go_simp; try with_reducible rfl
          simp only [Act.put, List.setIfInBounds_toArray, List.set_cons_zero, List.set_cons_succ]
          refine wpAnyH_take (i := 5) (oi := { dst := some 57, op := Op.fieldAddr 57 (Operand.tmp 56) 1, type := 0, pos := "ref.go:118", after := #[{ on := 4, ground := Ground.data }], guard := none }) (v := ?_) rfl (by kernel_rfl) (by kernel_rfl) (by kernel_rfl) (fun _ _ _ h => h) (Or.inl ⟨by kernel_rfl, ?_⟩) hHeld ?_
          rotate_left
          · intro w9 hSw; (try dsimp only at hSw); go_simp; try with_reducible rfl
          simp only [Act.put, List.setIfInBounds_toArray, List.set_cons_zero, List.set_cons_succ]
          refine wpAnyH_take (i := 6) (oi := { dst := some 58, op := Op.load 3 (Operand.tmp 57), type := 3, pos := "ref.go:118", after := #[{ on := 5, ground := Ground.data }], guard := none }) (v := ?_) rfl (by kernel_rfl) (by kernel_rfl) (by kernel_rfl) (fun _ _ _ h => h) (Or.inl ⟨by kernel_rfl, ?_⟩) hHeld ?_
          rotate_left
          · intro w9 hSw; (try dsimp only at hSw); go_simp; try with_reducible rfl
          simp only [Act.put, List.setIfInBounds_toArray, List.set_cons_zero, List.set_cons_succ]
          refine wpAnyH_take (i := 9) (oi := { dst := some 61, op := Op.fieldAddr 25 (Operand.tmp 9) 1, type := 0, pos := "ref.go:118", after := #[], guard := none }) (v := ?_) rfl (by kernel_rfl) (by kernel_rfl) (by kernel_rfl) (fun _ _ _ h => h) (Or.inl ⟨by kernel_rfl, ?_⟩) hHeld ?_
          rotate_left
          · intro w9 hSw; (try dsimp only at hSw); go_simp; try with_reducible rfl
          simp only [Act.put, List.setIfInBounds_toArray, List.set_cons_zero, List.set_cons_succ]
          refine wpAnyH_take (i := 10) (oi := { dst := some 62, op := Op.load 23 (Operand.tmp 61), type := 23, pos := "ref.go:118", after := #[{ on := 9, ground := Ground.data }], guard := none }) (v := ?_) rfl (by kernel_rfl) (by kernel_rfl) (by kernel_rfl) (fun _ _ _ h => h) (Or.inl ⟨by kernel_rfl, ?_⟩) hHeld ?_
          rotate_left
          · intro w9 hSw; (try dsimp only at hSw); go_simp; try with_reducible rfl
          simp only [Act.put, List.setIfInBounds_toArray, List.set_cons_zero, List.set_cons_succ]
          refine wpAnyH_take (i := 11) (oi := { dst := some 63, op := Op.fieldAddr 25 (Operand.tmp 9) 2, type := 0, pos := "ref.go:118", after := #[], guard := none }) (v := ?_) rfl (by kernel_rfl) (by kernel_rfl) (by kernel_rfl) (fun _ _ _ h => h) (Or.inl ⟨by kernel_rfl, ?_⟩) hHeld ?_
          rotate_left
          · intro w9 hSw; (try dsimp only at hSw); go_simp; try with_reducible rfl
          simp only [Act.put, List.setIfInBounds_toArray, List.set_cons_zero, List.set_cons_succ]
          refine wpAnyH_take (i := 12) (oi := { dst := some 64, op := Op.load 23 (Operand.tmp 63), type := 23, pos := "ref.go:118", after := #[{ on := 11, ground := Ground.data }], guard := none }) (v := ?_) rfl (by kernel_rfl) (by kernel_rfl) (by kernel_rfl) (fun _ _ _ h => h) (Or.inl ⟨by kernel_rfl, ?_⟩) hHeld ?_
          rotate_left
          · intro w9 hSw; (try dsimp only at hSw); go_simp; try with_reducible rfl
          simp only [Act.put, List.setIfInBounds_toArray, List.set_cons_zero, List.set_cons_succ]
          refine wpAnyH_ready (rs := [0]) (by kernel_rfl) (by simp) ?_
          refine AllReadyH.cons (o := { dst := some 52, op := Op.load 25 (Operand.tmp 9), type := 25, pos := "ref.go:118", after := #[], guard := none }) rfl (fun K hK => ?_) AllReadyH.nil
          go_simp
          skip
          refine hK.out _ _ (hHeld) (fun hHeld => ?_)
          clear hK K
          try simp only [Act.put, List.setIfInBounds_toArray, List.set_cons_zero, List.set_cons_succ]
          refine wpAnyH_ready (rs := [7]) (by kernel_rfl) (by simp) ?_
          refine AllReadyH.cons (o := { dst := some 59, op := Op.call { callee := Callee.value (Operand.func 60), args := #[Operand.tmp 52, Operand.tmp 58], argTypes := #[25, 3] }, type := 25, pos := "ref.go:118", after := #[{ on := 0, ground := Ground.data }, { on := 6, ground := Ground.data }], guard := none }) rfl (fun K hK => ?_) AllReadyH.nil
          go_simp
          (go_at_call 60; (with_reducible refine (KR.out _ HV.out).mono ?_); rintro e w5 ⟨A5, c5, rfl, h5, hb5⟩; have HV := Lib.hid (below_then HV.out hb5); have H5 := Lib.hid h5; clear h5 hb5; have J8 := Lib.hid (G8.out.keep HV.out); have J2 := Lib.hid (G2.out.keep HV.out); clear x0 x1 x2 xf0 xf1 xf2; have x0 := J8.out.c0; have x1 := J8.out.c1; have x2 := J8.out.c2; have xf0 := J8.out.f0; have xf1 := J8.out.f1; have xf2 := J8.out.f2; have hj8 := J8.out.lt)
          refine hK.out _ _ (⟨⟨(J8.out).c1, (J8.out).c2⟩, (HV.out.cell (p := ⟨mb, _, none⟩) hbl).trans e0, (HV.out.cell (p := ⟨mb, _, none⟩) hbl).trans e1⟩) (fun hHeld => ?_)
          clear hK K
          try simp only [Act.put, List.setIfInBounds_toArray, List.set_cons_zero, List.set_cons_succ]
          refine wpAnyH_take (i := 8) (oi := { dst := some 60, op := Op.field 25 (Operand.tmp 59) 0, type := 22, pos := "ref.go:118", after := #[{ on := 7, ground := Ground.data }], guard := none }) (v := ?_) rfl (by kernel_rfl) (by kernel_rfl) (by kernel_rfl) (fun _ _ _ h => h) (Or.inl ⟨by kernel_rfl, ?_⟩) hHeld ?_
          rotate_left
          · intro w9 hSw; (try dsimp only at hSw); go_simp; try with_reducible rfl
          simp only [Act.put, List.setIfInBounds_toArray, List.set_cons_zero, List.set_cons_succ]
          refine wpAnyH_take (i := 13) (oi := { dst := some 65, op := Op.build 25 #[(0, Operand.tmp 60), (1, Operand.tmp 62), (2, Operand.tmp 64)], type := 25, pos := "ref.go:118", after := #[{ on := 8, ground := Ground.data }, { on := 10, ground := Ground.data }, { on := 12, ground := Ground.data }], guard := none }) (v := ?_) rfl (by kernel_rfl) (by kernel_rfl) (by kernel_rfl) (fun _ _ _ h => h) (Or.inl ⟨by kernel_rfl, ?_⟩) hHeld ?_
          rotate_left
          · intro w9 hSw; (try dsimp only at hSw); go_simp; try with_reducible rfl
          simp only [Act.put, List.setIfInBounds_toArray, List.set_cons_zero, List.set_cons_succ]
          refine wpAnyH_ready (rs := [14]) (by kernel_rfl) (by simp) ?_
          refine AllReadyH.cons (o := { dst := none, op := Op.store 25 (Operand.tmp 9) (Operand.tmp 65), type := 0, pos := "ref.go:118", after := #[{ on := 13, ground := Ground.data }, { on := 7, ground := Ground.chain }, { on := 0, ground := Ground.phase }, { on := 1, ground := Ground.phase }, { on := 2, ground := Ground.phase }, { on := 3, ground := Ground.phase }, { on := 4, ground := Ground.phase }, { on := 5, ground := Ground.phase }, { on := 6, ground := Ground.phase }, { on := 7, ground := Ground.phase }, { on := 8, ground := Ground.phase }, { on := 9, ground := Ground.phase }, { on := 10, ground := Ground.phase }, { on := 11, ground := Ground.phase }, { on := 12, ground := Ground.phase }, { on := 13, ground := Ground.phase }], guard := none }) rfl (fun K hK => ?_) AllReadyH.nil
          go_simp
          skip
          refine hK.out _ _ (⟨⟨(J8.out.set3 (.slice A5 (n + 1) c5) (.slice B4 m4 d4) (.slice (some ⟨mb, mo, none⟩) k f4)).c1, (J8.out.set3 (.slice A5 (n + 1) c5) (.slice B4 m4 d4) (.slice (some ⟨mb, mo, none⟩) k f4)).c2⟩, (cell_set3 hmb8 _ _ _ _).trans hHeld.2.1, (cell_set3 hmb8 _ _ _ _).trans hHeld.2.2⟩) (fun hHeld => ?_)
          clear hK K
          try simp only [Act.put, List.setIfInBounds_toArray, List.set_cons_zero, List.set_cons_succ]
          refine wpAnyH_done (by kernel_rfl) ?_ _
          go_wp2
          go_roundw
          case rel =>
            have hV4 : Below W4.heap.size wr w5 := HV.out.mono hsz
            refine ⟨j + 1, P, np, cp, A5, c5, by omega, by go_num, rfl, by omega, J2.out.other3 (by omega) _ _ _, J8.out.set3 _ _ _, .inr ?_, ?_, ?_, ?_, below_set3 (GB.out.trans (HV.out.mono GB.out.size)) (by omega) _ _ _, ?_⟩
            · rw [HXh.out.1]
              simp only [if_true]
              have h5 := H5.out
              rw [res_one (n + 1) _ _ _ PL r hcl] at h5
              exact row_set (row_set (row_set (row_mono h5 (Nat.le_trans hsz (Nat.le_add_right _ 2))) (by simp <;> omega) _) (by simp <;> omega) _) (by simp <;> omega) _
            · exact (((GM.out.below hV4).set_ J8.out 0 _).set_ (J8.out.s0 _) 1 _).set_ ((J8.out.s0 _).s1 _) 2 _
            · exact (((GO.out.below hV4).set_ J8.out 0 _).set_ (J8.out.s0 _) 1 _).set_ ((J8.out.s0 _).s1 _) 2 _
            · rw [HXh.out.2]
              simp only [if_true, List.append_nil]
              exact row_set (row_set (row_set (row_keep2 GP.out (fun g _ hg => HV.out.block g hg)) (by simp <;> omega) _) (by simp <;> omega) _) (by simp <;> omega) _
            · have := HV.out.size
              rw [size_set3]
              omega
          case measure => simp [intOf]; omega
      · skip
        obtain rfl : k = j := by omega
        have etk : b.outs.take k = b.outs := List.take_of_length_le (by rw [LO.out]; exact Nat.le_refl _)
        have hC := GC.out.prs
        have hP := Prs.of_own GP.out
        rw [etk] at hC hP
        have HC9 := Lib.hid hC
        have HP9 := Lib.hid hP
        clear hC hP
        go_wp2
        refine bodyPost_ret (v := .tuple #[.agg #[.slice Ac (n+1) cc, .slice B4 m4 d4, .slice P np cp], .int .i64 0]) (by simp [results, Try.results35, go_sem, z0, z1, z2] <;> rfl) rfl (bt_fin (b' := ⟨flRes (n + 1) (b.code ++ [(8, a)]) (placesB D b.outs), b.marks.take q, othersB D b.outs⟩) (Bl.set3 ⟨HC9.out, GM.out.1, HP9.out⟩ G2.out) (below_set3 (below_then HB.out GB.out) (by simp) _ _ _) HN.out.symm HE.out.symm)
  · skip
    have HT := Lib.hid (rtop0_no A B C n c m d k f b 3 W (HF.out.mono (by omega)) hk HL.out)
    have HE : Hid (wdE b .plusLoop = -22) := Lib.hid (by show backE b 3 = -22; unfold backE; rw [if_neg hk])
    clear hk
    go_upto_region 2 with ((go_at_call 59; refine (HT.out).mono ?_; rintro e w1 ⟨rfl, hb1⟩; have HC1 := Lib.hid (below_then hb1 (below_one w1 (.cells #[.int .i64 0, .int .i64 0] 57))); have P6 := Lib.hid (Px.new w1 57 (.int .i64 0) (.int .i64 0)); have hw1 := hb1.size; clear hb1))
    generalize w1.alloc (.cells #[.int .i64 0, .int .i64 0] 57) = W1 at *
    have HU1 := Lib.hid (below_then HU0.out HC1.out)
    have Y1 := Lib.hid (X1.out.keep HC1.out)
    have Y2 := Lib.hid (X2.out.keep HC1.out)
    clear a0 a1 a2 af0 af1 af2 z0 z1 z2 zf0 zf1 zf2
    have a0 := Y1.out.c0; have a1 := Y1.out.c1; have a2 := Y1.out.c2; have af0 := Y1.out.f0; have af1 := Y1.out.f1; have af2 := Y1.out.f2
    have hY1 := Y1.out.lt
    have z0 := Y2.out.c0; have z1 := Y2.out.c1; have z2 := Y2.out.c2; have zf0 := Y2.out.f0; have zf1 := Y2.out.f1; have zf2 := Y2.out.f2
    have hY2 := Y2.out.lt
    have hP6 := P6.out.lt
    go_wp2
    refine bodyPost_ret (v := .tuple #[.agg #[.slice A n c, .slice B m d, .slice C k f], .int .i64 (-22)]) (by simp [results, Try.results35, go_sem, z0, z1, z2] <;> rfl) rfl (bt_fin (b' := b) ((HL.out.below HU1.out).set3 Y2.out) (below_set3 (below_then HB.out HU1.out) (by simp) _ _ _) (wdN_not HE.out).symm HE.out.symm)
end Go.Proofs.Ytkcpmjccggfpiaa
