/-
  What package timer answers of Due, and where the answers lie.
-/
import Derived.Test.YtpkfmbknbdlnpaaTimerEach
import Derived.Test.YtpkfmbknbdlnpaaTimerSane
import Derived.Test.YtpkfmbknbdlnpaaTimerConcat
import Derived.Test.YtpkfmbknbdlnpaaTimerRefB
namespace Go.Proofs.Ytpkfmbknbdlnpaa
open Go.RowKit Go.Shelf
attribute [local go_sem] Oper.semAt_some

theorem row_base {W : World} {base base' : Nat} {e : TypeId} {size : Nat} {v : Value} {k : Nat} {xs : List Value} (h : W.ownsRow base e size v k xs) (hb : base' ≤ base) : W.ownsRow base' e size v k xs :=
  ⟨h.1, h.2.imp id fun ⟨g, cap, cur, h1, h2, h3⟩ => ⟨g, cap, cur, h1, Nat.le_trans hb h2, h3⟩⟩
/-- An append onto a row of one's own, and the store back into the variable's box: the row lies from m on, the box b below it. -/
theorem box_app {W w1 : World} {n₀ m B : Nat} {t e : TypeId} {size : Nat} {v v' : Value} {k k' : Nat} {xs ys : List Value} {tmp : Obj}
    (hv : Boxed W B t v) (hte : t ≠ e) (hrow : W.ownsRow m e size v k xs) (hn : n₀ ≤ m) (hm : m ≤ W.heap.size) (hB : n₀ ≤ B) (hown' : w1.ownsRow m e size v' k' ys) (hgrow : (W.alloc tmp).grownBy w1 v.ownBlock) :
    Boxed w1 B t v ∧ Boxed (w1.setCell ⟨B, 0, none⟩ v') B t v' ∧ (w1.setCell ⟨B, 0, none⟩ v').ownsRow m e size v' k' ys ∧ KeepsOthers W (w1.setCell ⟨B, 0, none⟩ v') ∧ Below n₀ W (w1.setCell ⟨B, 0, none⟩ v') ∧ KB B m W (w1.setCell ⟨B, 0, none⟩ v') := by
  obtain ⟨h1, h2, _, h4, h5⟩ := hv.appended hte (row_base hrow hn) (Nat.le_trans hn hm) hB (row_base hown' hn) hgrow
  refine ⟨h1, h2, hown'.kept (grownBy_setCell' w1 B v') (.inr (h1.not_row hte hown').symm), h4, h5, ?_⟩
  refine (KB.of_below ((((Below.refl m W).alloc hm tmp).grown hgrow (by simp; omega) fun j ej => ?_))).trans (KB.set _ _ _)
  rcases hrow.2 with ⟨rfl, _⟩ | ⟨g, cap, cur, rfl, hb, _, _⟩
  · simp [Value.ownBlock] at ej
  · obtain rfl : g = j := by simpa [Value.ownBlock] using ej
    exact hb
/-- A body that ends in a return alone. -/
def RetOnly (Q : Exit → Act → World → Prop) : Exit → Act → World → Prop
  | .ret, a, w => Q .ret a w
  | _, _, _ => False
theorem wp_ret {P : Program} {c : Code} {Q : Exit → Act → World → Prop} {a : Act} {w : World} (h : c.wp P (RetOnly Q) a w) : c.wp P Q a w :=
  Code.wp_mono (fun e a w q => by cases e <;> first | exact q | exact q.elim) h
theorem Nps.put {w : World} {A : Option Addr} {n c : Nat} {l : List Np} (h : Nps w A n c l) {D : Nat} {ds : Option (List Deferred)} (o : Obj) (hD : w.heap[D]? = some (.deferred ds)) : Nps (w.putObj D o) A n c l := by
  refine ⟨h.1, h.2.1, fun h0 => ?_, h.2.2.2⟩
  obtain ⟨b, k, e, hb, hc⟩ := h.at0 h0
  have hne : b ≠ D := by
    rintro rfl
    have h1 := hc 0 (by have := h.len; omega)
    have h2 : (npsOf l)[0]? = some ((npsOf l)[0]'(by rw [npsOf_length]; have := h.len; omega)) := List.getElem?_eq_getElem _
    rw [h2] at h1
    simp [World.cell?, hD] at h1
  refine ⟨b, k, e, by simpa [World.putObj] using hb, fun j hj => ?_⟩
  rw [← hc j hj]
  exact World.cell?_of_block (w := w) (World.putObj_heap_other hne)
theorem Stk.put {w : World} {A : Option Addr} {n c : Nat} {l : List Int} (h : Stk w A n c l) {D : Nat} {ds : Option (List Deferred)} (o : Obj) (hD : w.heap[D]? = some (.deferred ds)) : Stk (w.putObj D o) A n c l := by
  refine ⟨h.1, h.2.1, fun h0 => ?_, h.2.2.2⟩
  obtain ⟨b, k, e, hb, hc⟩ := h.2.2.1 h0
  have hne : b ≠ D := by
    rintro rfl
    have h1 := hc 0 (by have := h.1; omega)
    simp [World.cell?, hD] at h1
  refine ⟨b, k, e, by simpa [World.putObj] using hb, fun j hj => ?_⟩
  rw [← hc j hj]
  exact World.cell?_of_block (w := w) (World.putObj_heap_other hne)
/-- A row from a block on lies apart of all ahead. -/
theorem own_apt {w : World} {base : Nat} {e : TypeId} {size : Nat} {A : Option Addr} {n c k : Nat} {xs : List Value} (h : w.ownsRow base e size (.slice A n c) k xs) {g : Nat} (hg : g < base) : Apt A n g := by
  intro _ b o e1
  rcases h.2 with ⟨e2, _⟩ | ⟨g', cap, cur, e2, hb, _⟩
  · injection e2 with e3; rw [e1] at e3; cases e3
  · injection e2 with e3; rw [e1] at e3; cases e3; omega
theorem below_put {w0 w : World} {n D : Nat} {o o' : Obj} (h : Below n w0 w) (hn : n ≤ D) (hD : w.heap[D]? = some o) : Below n w0 (w.putObj D o') :=
  h.trans ((Below.refl n w).grown (grownBy_putObj' w D o') (by have := (Array.getElem?_eq_some_iff.1 hD).1; omega) (fun k e => by cases e; exact hn))
theorem skU {W w9 : World} {b : Nat} {T : TypeId} {v : Value} (h : Boxed W b T v) (hb : Below W.heap.size W w9) : Below W.heap.size W w9 ∧ w9.cell? ⟨b, 0, none⟩ = some v := ⟨hb, (hb.cell (p := ⟨b, 0, none⟩) h.lt).trans h.cell⟩
theorem ownFrom_kb {β : Type} {b m B : Nat} {w₀ : World} (hm : m ≤ w₀.heap.size) (hB : m ≤ B := by omega) : OwnFrom B (fun (_ : β) W => KB b m w₀ W) := fun _ X Y row hs hg hr =>
  hs.trans ⟨hg.size, fun k hk _ => hg.block k (by have := hs.size; omega) (fun e => by have := (hr k e.symm).1; omega)⟩
set_option maxRecDepth 100000 in
set_option maxHeartbeats 2000000 in
theorem tdue_in (A : Option Addr) (n c : Nat) (l : List Np) (t : Int) (w : World) (hn : n ≤ 4611686018427387904) (h : Nps w A n c l) :
    CallsIn Fence.wide 3 Try.prog 11 #[.slice A n c, .int .i64 t] w (NIBPost A n (ovL (tnL l) t) (niL (upL (tnL l) t)) w) := by
  obtain ⟨i0, hi, hz0, hz1, hz2⟩ := info_parts infoI
  have hsn := sn_tn l
  obtain ⟨l1, hl1⟩ : ∃ x, tnL l = x := ⟨_, rfl⟩
  rw [hl1] at hsn ⊢
  have HL1 := Lib.hid hl1
  have HS := Lib.hid hsn
  have H := Lib.hid h
  clear hl1 hsn h
  refine callsIn_of_wp_marks Try.func11 rfl trivial ?_ rfl
  simp only [Try.ntmps11, List.size_toArray, List.length_cons, List.length_nil, Nat.reduceAdd, Nat.reduceSub, Array.replicate_succ, Array.replicate_zero, List.push_toArray, List.append_toArray, List.nil_append, List.cons_append]
  gi_wp2_with (first
    | (refine ⟨trivial, ?_⟩; gi_at_call 22; refine (callsIn_wide.2 (ntaken_any A n c l l1 _ hn H.out HL1.out)).mono ?_; rintro e w1 ⟨A1, n1, c1, rfl, hi1, hb1, hw1⟩; have HI := Lib.hid hi1; have HB := Lib.hid hb1; have HW := Lib.hid hw1; clear hi1 hb1 hw1)
    | (refine ⟨trivial, ?_⟩; gi_at_call 25; refine (ndue_in A1 n1 c1 t 2 _).mono ?_; rintro e w' ⟨rfl, rfl⟩))
  rename_i K9 hK9
  have HK9 := Lib.hid hK9
  clear hK9
  have hn1 : n1 ≤ 8 := by rw [← HI.out.len]; exact HS.out.1
  have hcl : (((w1.alloc (.cells #[.slice none 0 0] 30)).alloc (.cells #[.slice A1 n1 c1] 24)).alloc (.cells #[.int .i64 t] 3)).cell? ⟨w1.heap.size + 1, 0, none⟩ = some (.slice A1 n1 c1) := by simp [go_sem]
  have hct : (((w1.alloc (.cells #[.slice none 0 0] 30)).alloc (.cells #[.slice A1 n1 c1] 24)).alloc (.cells #[.int .i64 t] 3)).cell? ⟨w1.heap.size + 1 + 1, 0, none⟩ = some (.int .i64 t) := by simp [go_sem]
  have hsz : (((w1.alloc (.cells #[.slice none 0 0] 30)).alloc (.cells #[.slice A1 n1 c1] 24)).alloc (.cells #[.int .i64 t] 3)).heap.size = w1.heap.size + 3 := by simp
  have HB0 := Lib.hid (show Below w1.heap.size w1 (((w1.alloc (.cells #[.slice none 0 0] 30)).alloc (.cells #[.slice A1 n1 c1] 24)).alloc (.cells #[.int .i64 t] 3)) from (((Below.refl _ w1).alloc (Nat.le_refl _) _).alloc (by simp) _).alloc (by simp; omega) _)
  have HBX := Lib.hid (((Boxed.new w1 30 (.slice none 0 0)).alloc (.cells #[.slice A1 n1 c1] 24)).alloc (.cells #[.int .i64 t] 3))
  have HI0 := Lib.hid (HI.out.below HB0.out)
  have HAP : Hid (Apt A1 n1 w1.heap.size) := Lib.hid (nps_old HI.out (Nat.le_refl _))
  generalize ((w1.alloc (.cells #[.slice none 0 0] 30)).alloc (.cells #[.slice A1 n1 c1] 24)).alloc (.cells #[.int .i64 t] 3) = W0 at *
  refine wpIn_rangeFunc_ownG rfl (by omega) (gf := 32) (lb := #[.pointer (some ⟨w1.heap.size + 1, 0, none⟩), .pointer (some ⟨w1.heap.size + 1 + 1, 0, none⟩)]) rfl trivial (enters_of Try.func32 (by kernel_rfl) rfl)
    (ndue_stops A1 n1 c1 l1 t w1.heap.size (w1.heap.size + 1) (w1.heap.size + 1 + 1) 2 W0 hn1 HS.out.2 HI0.out HAP.out (by omega) (by omega) (by omega) (by omega) hcl hct (by omega))
    (fun h k => h.trans k) (KB.put (Nat.le_refl _)) (Below.refl _ _) (fun _ => rfl)
    (fun pre W => (∃ v, Boxed W w1.heap.size 30 v ∧ W.ownsRow W0.heap.size 3 1 v pre.length (intsOf pre) ∧ (v = .slice none 0 0 ↔ pre = [])) ∧ Below w1.heap.size w1 W ∧ KB w1.heap.size W0.heap.size W0 W)
    (fun _ _ _ => False)
    (OwnFrom.and (Own.from (holdsRow_own W0.heap.size w1.heap.size 30 3 1 (fun pre => pre.length) (fun pre => intsOf pre) (fun pre v => v = .slice none 0 0 ↔ pre = [])) _) (OwnFrom.and (ownFrom_below (Nat.le_refl _) (by omega)) (ownFrom_kb (Nat.le_refl _))))
    (fun _ _ _ _ _ hs _ _ => hs)
    ⟨⟨_, HBX.out, World.ownsRow_nil _ _ _ _, by simp⟩, HB0.out, KB.refl _ _ _⟩
    (fun x => { tmps := #[.slice A1 n1 c1, .int .i64 t, undef, undef, .slice none 0 0, .slice none 0 0, .pointer (some ⟨w1.heap.size, 0, none⟩), .int .i64 x, .slice A n c, .slice A1 n1 c1, .slice A1 n1 c1, .int .i64 t, .func (.func 32) #[] #[.pointer (some ⟨w1.heap.size + 1, 0, none⟩), .pointer (some ⟨w1.heap.size + 1 + 1, 0, none⟩)], .int .i64 x, undef, undef, undef, undef, undef, undef, undef, undef, undef, undef], defers := [] }) ?assign ?body ?done ?stop
  case assign =>
    intro l x W K hK
    gi_wp2
    exact hK
  case body =>
    rintro lp pre x W ⟨⟨v, hv, hrow, hnil⟩, hB, hKB⟩ hlt
    clear HK9
    have hc := hv.cell
    have hBs := hKB.size
    gi_wp2_with (gi_at_builtin; refine wpListIn_append_own _ rfl _ _ 30 rfl W0.heap.size 3 i0 (.int .i64 0) 1 8 Try.underlying30 hi hz0 hz1 hz2 rfl (by decide) _ _ _ rfl (hrow.alloc _) ⟨W.heap.size, 0, none⟩ 1 1 [.int .i64 x] rfl rfl (cell_one_new _ _ _) (by simp [Value.oneCell']) (by unfold maxLen; omega) (by omega) (by simp; omega) ?_; intro v' w2 hown' hgrow _; obtain ⟨g', cap', rfl⟩ := ownsRow_succ hown'; obtain ⟨hv1, hv2, hr2, hk2, hb2, hkb2⟩ := box_app hv (by decide) hrow (by omega) hBs (Nat.le_refl w1.heap.size) hown' hgrow; have hc1 := hv1.cell; have hf1 := hv1.frozen)
    exact ⟨hk2.from _, hkb2, ⟨_, hv2, by simpa [intsOf] using hr2, by simp⟩, hB.trans hb2, hKB.trans hkb2⟩
  case done =>
    rintro D ys W hD rfl ⟨⟨v, hv, hrow, hnil⟩, hB, hKB⟩ hK
    have hlt1 : w1.heap.size < W.heap.size := hv.lt
    have hlD : D < W.heap.size := (Array.getElem?_eq_some_iff.1 hK).1
    obtain ⟨m, hm⟩ : ∃ m, m = (niL (upL l1 t)).length := ⟨_, rfl⟩
    obtain ⟨Bi, di, rfl⟩ : ∃ Bi di, v = .slice Bi m di := by
      rcases hrow.2 with ⟨e1, e2⟩ | ⟨g, cap, cur, e1, _⟩
      · exact ⟨none, 0, by rw [e1, hm, e2]⟩
      · exact ⟨_, _, by rw [e1, hm]⟩
    have hmu : m = (upL l1 t).length := by rw [hm]; unfold niL; simp
    have hmn : m ≤ n1 := by rw [hmu, ← HI.out.len]; exact up_le _ _
    rw [← hm] at hrow
    have HR := Lib.hid hrow
    have HV := Lib.hid hv
    have HBW := Lib.hid hB
    have HKD := Lib.hid hK
    have HMU := Lib.hid hmu
    obtain ⟨A2, c2, s2, h2⟩ := (HI.out.below HBW.out).tail ntT m hmn
    have HC := Lib.hid h2
    clear h2 hm hmu hv hB hK hrow hKB hnil
    refine HK9.out _ _ (wpIn_wide.2 (wp_ret ?_))
    clear HK9
    dsimp only
    go_upto_region 6 with (fail)
    have hHeld0 : (fun w9 => Below W.heap.size W w9 ∧ w9.cell? ⟨w1.heap.size, 0, none⟩ = some (.slice Bi m di)) W.drew := skU HV.out (Below.refl _ _).drew
    refine wp_region_held_drew (S := fun w9 => Below W.heap.size W w9 ∧ w9.cell? ⟨w1.heap.size, 0, none⟩ = some (.slice Bi m di)) (by kernel_rfl) hHeld0 (fun hHeld => ?_)
    clear hHeld0
    refine wpAnyH_take (i := 0) (oi := { dst := some 18, op := Op.move (Operand.tmp 0), type := 24, pos := "timer.go:55", after := #[], guard := none }) (v := ?_) rfl (by kernel_rfl) (by kernel_rfl) (by kernel_rfl) (fun _ _ _ h => h) (Or.inl ⟨by kernel_rfl, ?_⟩) hHeld ?_
    rotate_left
    · intro w9 hSw; (try dsimp only at hSw); go_simp; try with_reducible rfl
    simp only [Act.put, List.setIfInBounds_toArray, List.set_cons_zero, List.set_cons_succ]
    refine wpAnyH_take (i := 1) (oi := { dst := some 19, op := Op.load 30 (Operand.tmp 6), type := 30, pos := "timer.go:55", after := #[], guard := none }) (v := ?_) rfl (by kernel_rfl) (by kernel_rfl) (by kernel_rfl) (fun _ _ _ h => h) (Or.inl ⟨by kernel_rfl, ?_⟩) hHeld ?_
    rotate_left
    · intro w9 hSw; (try dsimp only at hSw); go_simp; try with_reducible rfl
    simp only [Act.put, List.setIfInBounds_toArray, List.set_cons_zero, List.set_cons_succ]
    refine wpAnyH_take (i := 2) (oi := { dst := some 20, op := Op.call { callee := Callee.builtin Builtin.len, args := #[Operand.tmp 19], argTypes := #[30] }, type := 3, pos := "timer.go:55", after := #[{ on := 1, ground := Ground.data }], guard := none }) (v := ?_) rfl (by kernel_rfl) (by kernel_rfl) (by kernel_rfl) (fun _ _ _ h => h) (Or.inl ⟨by kernel_rfl, ?_⟩) hHeld ?_
    rotate_left
    · intro w9 hSw; (try dsimp only at hSw); go_simp; try with_reducible rfl
    simp only [Act.put, List.setIfInBounds_toArray, List.set_cons_zero, List.set_cons_succ]
    refine wpAnyH_take (i := 3) (oi := { dst := some 21, op := Op.slice 24 (Operand.tmp 18) (some (Operand.tmp 20)) none none, type := 24, pos := "timer.go:55", after := #[{ on := 0, ground := Ground.data }, { on := 2, ground := Ground.data }], guard := none }) (v := ?_) rfl (by kernel_rfl) (by kernel_rfl) (by kernel_rfl) (fun _ _ _ h => h) (Or.inl ⟨by kernel_rfl, ?_⟩) hHeld ?_
    rotate_left
    · intro w9 hSw; (try dsimp only at hSw); go_simp; try with_reducible rfl
    simp only [Act.put, List.setIfInBounds_toArray, List.set_cons_zero, List.set_cons_succ]
    refine wpAnyH_take (i := 5) (oi := { dst := some 23, op := Op.load 30 (Operand.tmp 6), type := 30, pos := "timer.go:55", after := #[{ on := 6, ground := Ground.gcOnly Departure.lateStores }], guard := none }) (v := ?_) rfl (by kernel_rfl) (by kernel_rfl) (by kernel_rfl) (fun _ _ _ h => h) (Or.inl ⟨by kernel_rfl, ?_⟩) hHeld ?_
    rotate_left
    · intro w9 hSw; (try dsimp only at hSw); go_simp; try with_reducible rfl
    simp only [Act.put, List.setIfInBounds_toArray, List.set_cons_zero, List.set_cons_succ]
    refine wpAnyH_ready (rs := [4]) (by kernel_rfl) (by simp) ?_
    refine AllReadyH.cons (o := { dst := some 22, op := Op.call { callee := Callee.value (Operand.func 29), args := #[Operand.tmp 21], argTypes := #[24] }, type := 24, pos := "timer.go:55", after := #[{ on := 3, ground := Ground.data }], guard := none }) rfl (fun K hK => ?_) AllReadyH.nil
    go_simp
    refine (cloneN_any A2 (n1 - m) c2 (l1.drop m) _ (by omega) (HC.out.below hHeld.1)).mono ?_; rintro e w3 ⟨A3, c3, rfl, ho⟩
    refine hK.out _ _ (skU HV.out (below_then hHeld.1 ho.below)) (fun hHeld => ?_)
    clear hK K
    try simp only [Act.put, List.setIfInBounds_toArray, List.set_cons_zero, List.set_cons_succ]
    refine wpAnyH_take (i := 6) (oi := { dst := some 4, op := Op.assign (Operand.tmp 22), type := 24, pos := "timer.go:55", after := #[{ on := 4, ground := Ground.data }, { on := 4, ground := Ground.chain }, { on := 0, ground := Ground.phase }, { on := 1, ground := Ground.phase }, { on := 2, ground := Ground.phase }, { on := 3, ground := Ground.phase }, { on := 4, ground := Ground.phase }, { on := 5, ground := Ground.textOnly Departure.lateStores }], guard := none }) (v := ?_) rfl (by kernel_rfl) (by kernel_rfl) (by kernel_rfl) (fun _ _ _ h => h) (Or.inl ⟨by kernel_rfl, ?_⟩) hHeld ?_
    rotate_left
    · intro w9 hSw; (try dsimp only at hSw); go_simp; try with_reducible rfl
    simp only [Act.put, List.setIfInBounds_toArray, List.set_cons_zero, List.set_cons_succ]
    refine wpAnyH_take (i := 7) (oi := { dst := some 5, op := Op.assign (Operand.tmp 23), type := 30, pos := "timer.go:55", after := #[{ on := 5, ground := Ground.data }, { on := 6, ground := Ground.chain }, { on := 0, ground := Ground.phase }, { on := 1, ground := Ground.phase }, { on := 2, ground := Ground.phase }, { on := 3, ground := Ground.phase }, { on := 4, ground := Ground.phase }, { on := 5, ground := Ground.phase }, { on := 6, ground := Ground.phase }], guard := none }) (v := ?_) rfl (by kernel_rfl) (by kernel_rfl) (by kernel_rfl) (fun _ _ _ h => h) (Or.inl ⟨by kernel_rfl, ?_⟩) hHeld ?_
    rotate_left
    · intro w9 hSw; (try dsimp only at hSw); go_simp; try with_reducible rfl
    simp only [Act.put, List.setIfInBounds_toArray, List.set_cons_zero, List.set_cons_succ]
    refine wpAnyH_done (by kernel_rfl) ?_ _
    go_wp2
    have HB3 := Lib.hid hHeld.1
    have hD3 : w3.heap[D]? = some (.deferred (some [])) := (HB3.out.block D hlD).trans HKD.out
    show bodyPostM Fence.wide 3 Try.prog Try.f11 _ Exit.ret _ _
    refine ⟨by simp, .inl ⟨_, _, rfl, run_takeDeferred hD3, ?_⟩⟩
    refine ⟨_, results_tmp2 rfl _ _ _, A3, n1 - m, c3, Bi, m, di, rfl, ?_, ?_, ?_, ?_, ?_⟩
    · refine (ho.nps.as ?_).put _ hD3
      rw [HMU.out, ov_drop HS.out.2]
    · exact ((Stk.of_own HR.out).below HB3.out).put _ hD3
    · have h1 := below_then HB.out (below_then HBW.out HB3.out)
      exact below_put h1 (by have := HB.out.size; omega) hD3
    · intro g hg _
      exact own_apt ho.1 (show g < W.heap.size by have h1 := HB.out.size; omega)
    · intro g hg
      exact own_apt HR.out (by have h1 := HB.out.size; omega)
  case stop =>
    rintro D c pre W _ _ h _
    exact h.elim
theorem tduew_is (A : Option Addr) (n c : Nat) (l : List Np) (t : Int) (w : World) (hn : n ≤ 4611686018427387904) (h : Nps w A n c l) :
    Calls Try.prog 11 #[.slice A n c, .int .i64 t] w (NIBPost A n (ovL (tnL l) t) (niL (upL (tnL l) t)) w) := callsIn_wide.1 (tdue_in A n c l t w hn h)
end Go.Proofs.Ytpkfmbknbdlnpaa
