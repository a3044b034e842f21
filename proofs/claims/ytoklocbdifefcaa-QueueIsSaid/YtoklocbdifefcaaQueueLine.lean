/-
  The statements' own line and lined: a queue from, and as, the document's: the same items, in memory of the call's own.
-/
import Derived.Test.YtoklocbdifefcaaQueueAwake
namespace Go.Proofs.Ytoklocbdifefcaa
open Go.RowKit

/-- A row of items that lies in a block from B on. -/
def OwnB (E : TypeId) (B : Nat) (w : World) (A : Option Addr) (n c : Nat) (l : List It) : Prop := w.ownsRow B E 3 (.slice A n c) n (itsOf l)
section
variable {E T : TypeId} {B : Nat} {w w2 : World} {A : Option Addr} {n c : Nat} {l : List It}
theorem OwnB.its (h : OwnB E B w A n c l) : Its w A n c l := Its.of_own h
theorem OwnB.nil (E : TypeId) (B : Nat) (w : World) : OwnB E B w none 0 0 [] := ⟨by simp [itsOf], .inl ⟨rfl, rfl⟩⟩
theorem OwnB.as {l' : List It} (h : OwnB E B w A n c l) (e : l = l') : OwnB E B w A n c l' := e ▸ h
theorem OwnB.made (E : TypeId) (B : Nat) (w : World) (hB : B ≤ w.heap.size) (g : Nat) (hg : w.heap.size = g) : OwnB E B (w.alloc (.cells #[] E)) (some ⟨g, 0, none⟩) 0 0 [] := by
  subst hg
  have := World.ownsRow_made (e := E) (size := 3) w #[] 0 (Nat.le_refl _) (Nat.zero_le _) rfl
  exact ⟨this.1, by
    rcases this.2 with h0 | ⟨g, cap, cur, h1, h2, h3⟩
    · exact .inl h0
    · exact .inr ⟨g, cap, cur, h1, by omega, h3⟩⟩
theorem OwnB.fre (h : OwnB E B w A n c l) : Fre B A n := by
  intro h0 b o e
  obtain ⟨g, cap, hv, hb, _⟩ := h.form h0
  injection hv with h1 _ _
  rw [h1] at e
  injection e with e
  injection e with e1 _
  omega
theorem OwnB.keep (h : OwnB E B w A n c l) (hb : Below w.heap.size w w2) : OwnB E B w2 A n c l := by
  refine ⟨h.1, ?_⟩
  rcases h.2 with h0 | ⟨g, cap, cur, h1, h2, h3, h4⟩
  · exact .inl h0
  · exact .inr ⟨g, cap, cur, h1, h2, (hb.block g (Array.getElem?_eq_some_iff.1 h3).1).trans h3, h4⟩
theorem OwnB.set (h : OwnB E B w A n c l) {p : Addr} (hp : p.block < B) (v : Value) : OwnB E B (w.setCell p v) A n c l := by
  refine ⟨h.1, ?_⟩
  rcases h.2 with h0 | ⟨g, cap, cur, h1, h2, h3, h4⟩
  · exact .inl h0
  · exact .inr ⟨g, cap, cur, h1, h2, (Below.heap_setCell w p v g (by omega)).trans h3, h4⟩
end
theorem run_appB {T E : TypeId} (pt : ET T E) {B : Nat} {w : World} {A C : Option Addr} {n c m d : Nat} {xs l : List It} (ty : TypeId) (hB : B ≤ w.heap.size) (h : OwnB E B w A n c xs) (hs : Its w C m d l) (hn : n + m ≤ 1000000) :
    ∃ A' c' w', (Builtin.append_ #[T, T] ty #[.slice A n c, .slice C m d]).run Try.prog w = .ok (.slice A' (n + m) c') w' ∧ OwnB E B w' A' (n + m) c' (xs ++ l) ∧ Below B w w' := by
  obtain ⟨i, hi, hz0, hz1, hz2⟩ := info_parts pt.info
  cases C with
  | none =>
    obtain ⟨rfl, rfl, rfl⟩ := hs.none_
    refine ⟨A, c, w, run_append_owned_none (P := Try.prog) (w := w) B T ty E i 3 pt.under hi _ n (itsOf xs) h, ?_, Below.refl _ _⟩
    rw [List.append_nil, Nat.add_zero]
    exact h
  | some a =>
    obtain ⟨v', w', hrun, h2, h3, _, _⟩ := run_append_own_at (P := Try.prog) w B T ty E i (.agg #[.int .i64 0, .int .i64 0, .int .i64 0]) 3 24 pt.under hi hz0 hz1 hz2 rfl (by decide) _ n (itsOf xs) h a m d (itsOf l)
      (by rw [itsOf_length, hs.1]) hs.src (itsOf_one l) (by unfold maxLen; omega) (by omega) hB
    have hv : ∃ A' c', v' = .slice A' (n + m) c' := by
      rcases h2.2 with ⟨rfl, e⟩ | ⟨g, cap, cur, rfl, _⟩
      · exact ⟨none, 0, by rw [e]⟩
      · exact ⟨_, _, rfl⟩
    obtain ⟨A', c', rfl⟩ := hv
    exact ⟨A', c', w', hrun, by unfold OwnB; rw [itsOf_append]; exact h2, (Below.refl B w).grown h3 hB (fun k hk => (h.lt k hk).1)⟩
theorem wpList_appB {T E : TypeId} (pt : ET T E) {B : Nat} {w : World} {ops : Array Oper} {rest : List Oper} {o : Oper} {a : Act} {Q : Exit → Act → World → Prop} (hgd : o.guard = none) (s x : Operand)
    (ho : o.op = .call { callee := .builtin .append, args := #[s, x], argTypes := #[T, T] })
    {A C : Option Addr} {n c m d : Nat} {xs l : List It} (hs : a.eval s = .slice A n c) (hx : a.eval x = .slice C m d) (hB : B ≤ w.heap.size) (h : OwnB E B w A n c xs) (hl : Its w C m d l) (hn : n + m ≤ 1000000)
    (hk : ∀ A' c' w', OwnB E B w' A' (n + m) c' (xs ++ l) → Below B w w' → wpList Try.prog ops Q rest (a.put o.dst (.slice A' (n + m) c')) w') : wpList Try.prog ops Q (o :: rest) a w := by
  refine wpList_plain hgd fun _ hK => ?_
  obtain ⟨A', c', w', hrun, h2, h3⟩ := run_appB pt o.type hB h hl hn
  unfold Oper.wp execOp
  simp only [ho, resolve, invoke, builtin, Sem.run_bind, Sem.run_pure, Result.andThen_ok, List.map_toArray, List.map_cons, List.map_nil, hs, hx, hrun]
  exact hK _ _ (hk A' c' w' h2 h3)
theorem Qv.keepB {w w' : World} {b B : Nat} {t : TypeId} {N : Int} {A : Option Addr} {n c : Nat} (h : Qv w b t N A n c) (hb : Below B w w') (hlt : b < B) : Qv w' b t N A n c := (hb.block b hlt).trans h
theorem Qv.set1 {w : World} {b : Nat} {t : TypeId} {N : Int} {A : Option Addr} {n c : Nat} (h : Qv w b t N A n c) (A' : Option Addr) (n' c' : Nat) : Qv (w.setCell ⟨b, 1, none⟩ (.slice A' n' c')) b t N A' n' c' := by
  unfold Qv at h ⊢
  simp [World.setCell, Array.getElem?_modify, h]
theorem new3 (w : World) (o o' o2 : Obj) : Below w.heap.size w (((w.alloc o).alloc o').alloc o2) := ((two_new w o o').alloc (two_new w o o').size o2)
theorem Its.next1 (l : List It) (j : Nat) (h : j < l.length) (x : It) (e : l.getD j i0 = x) : l.take (j + 1) = l.take j ++ [x] := by rw [take_snoc l j h, e]
/-- The same items in memory of the call's own. -/
def LPost (N : Int) (n : Nat) (l : List It) (w : World) (e : Ending) (w' : World) : Prop :=
  ∃ A' c', e = .returned (.agg #[.int .i64 N, .slice A' n c']) ∧ Its w' A' n c' l ∧ Below w.heap.size w w' ∧ Fre w.heap.size A' n

set_option maxHeartbeats 2000000 in
theorem line_is (N : Int) (A : Option Addr) (n c : Nat) (l : List It) (w : World) (hn : n ≤ 1000) (h : Its w A n c l) :
    Calls Try.prog 10 #[.agg #[.int .i64 N, .slice A n c]] w (LPost N n l w) := by
  have X0 := Lib.hid (((Qv.new w 24 N A n c).alloc (.cells #[.int .i64 0, .slice none 0 0] 28)).alloc (.cells #[.int .i64 N, .slice none 0 0] 28))
  have X1 := Lib.hid ((Qv.at_ (w.alloc (.cells #[.int .i64 N, .slice A n c] 24)) 28 0 none 0 0 (w.heap.size + 1) (by simp)).alloc (.cells #[.int .i64 N, .slice none 0 0] 28))
  have X2 := Lib.hid (Qv.at_ ((w.alloc (.cells #[.int .i64 N, .slice A n c] 24)).alloc (.cells #[.int .i64 0, .slice none 0 0] 28)) 28 N none 0 0 (w.heap.size + 1 + 1) (by simp))
  have HB := Lib.hid (new3 w (.cells #[.int .i64 N, .slice A n c] 24) (.cells #[.int .i64 0, .slice none 0 0] 28) (.cells #[.int .i64 N, .slice none 0 0] 28))
  have H0 := Lib.hid h
  have HL := Lib.hid h.len
  have hW : (((w.alloc (.cells #[.int .i64 N, .slice A n c] 24)).alloc (.cells #[.int .i64 0, .slice none 0 0] 28)).alloc (.cells #[.int .i64 N, .slice none 0 0] 28)).heap.size = w.heap.size + 3 := by simp
  clear h
  go_enter Try.func10, Try.ntmps10
  go_upto_region 3 with (fail)
  generalize (((w.alloc (.cells #[.int .i64 N, .slice A n c] 24)).alloc (.cells #[.int .i64 0, .slice none 0 0] 28)).alloc (.cells #[.int .i64 N, .slice none 0 0] 28)) = W at *
  have O0 := Lib.hid (OwnB.nil 59 (w.heap.size + 3) W)
  go_loopw [4] (fun i wr => ∃ (j : Nat) (A' : Option Addr) (c' : Nat), j ≤ n ∧ i = .int .i64 j ∧ OwnB 59 (w.heap.size + 3) wr A' j c' (l.take j) ∧ Below w.heap.size w wr ∧ w.heap.size + 3 ≤ wr.heap.size ∧
    Qv wr w.heap.size 24 N A n c ∧ Qv wr (w.heap.size + 1) 28 0 none 0 0 ∧ Qv wr (w.heap.size + 1 + 1) 28 N A' j c') (fun i _ => ((n : Int) - intOf i).toNat)
  case atStart => exact ⟨0, none, 0, by omega, rfl, O0.out, HB.out, by omega, X0.out, X1.out, X2.out⟩
  case round =>
    obtain ⟨j, A', c', hj, rfl, hO, hb, hsz, x0, x1, x2⟩ := hrel
    have HO := Lib.hid hO
    have HV := Lib.hid hb
    have X0 := Lib.hid x0
    have X1 := Lib.hid x1
    have X2 := Lib.hid x2
    clear hO hb x0 x1 x2
    have qa := X0.out.c0; have qb := X0.out.c1; have ql := X0.out.lt; have oa := X2.out.c0; have ob := X2.out.c1; have oe := X2.out.f 0; have of_ := X2.out.f 1; have ol := X2.out.lt
    by_cases hlt : j < n
    · have hjl : j < l.length := by rw [HL.out]; exact hlt
      obtain ⟨xb, xo, rfl, hbl, f0, f1, f2⟩ := (H0.out.below HV.out).at_ j hlt
      obtain ⟨x, hx⟩ : ∃ x, l.getD j i0 = x := ⟨_, rfl⟩
      have HX := Lib.hid (Its.next1 l j hjl x hx)
      rw [hx] at f0 f1 f2
      clear hx
      have B2 := Lib.hid (two_new wr (.cells #[.int .i64 x.d, .int .i64 x.p, .int .i64 x.t] 52) (.cells #[.int .i64 x.d, .int .i64 x.p, .int .i64 x.t] 59))
      have I2 := Lib.hid (Its.new1 (wr.alloc (.cells #[.int .i64 x.d, .int .i64 x.p, .int .i64 x.t] 52)) 59 x)
      go_upto_region 6 with (fail)
      go_wp2_with (at_builtin; refine wpList_appB etQ (B := w.heap.size + 3) rfl (.tmp 22) (.tmp 30) rfl rfl rfl (by simp; omega) (HO.out.keep B2.out) (show Its _ (some ⟨wr.heap.size + 1, 0, none⟩) 1 1 [x] by have := I2.out; simpa using this) (by omega) ?_; intro A3 c3 w3 hw3 hb3; have HW := Lib.hid hw3; have HB3 := Lib.hid hb3; have X0 := Lib.hid ((X0.out.keep B2.out).keepB hb3 (by omega)); have X1 := Lib.hid ((X1.out.keep B2.out).keepB hb3 (by omega)); have X2 := Lib.hid ((X2.out.keep B2.out).keepB hb3 (by omega)); have hs3 := hb3.size; clear hw3 hb3 qa qb ql oa ob oe of_ ol; have qa := X0.out.c0; have qb := X0.out.c1; have ql := X0.out.lt; have oa := X2.out.c0; have ob := X2.out.c1; have oe := X2.out.f 0; have of_ := X2.out.f 1; have ol := X2.out.lt)
      go_roundw
      case rel => exact ⟨j + 1, A3, c3, by omega, by go_num, by rw [HX.out]; exact HW.out.set (by simp) _, below_set ((below_then HV.out B2.out).trans (HB3.out.mono (by omega))) (by show w.heap.size ≤ w.heap.size + 1 + 1; omega) _, by simp [World.setCell] at hs3 ⊢; omega, X0.out.other (by show w.heap.size ≠ w.heap.size + 1 + 1; omega) _, X1.out.other (by show w.heap.size + 1 ≠ w.heap.size + 1 + 1; omega) _, X2.out.set1 _ _ _⟩
      case measure => simp [intOf]; omega
    · obtain rfl : j = n := by omega
      have y0 := X1.out.c0; have y1 := X1.out.c1; have yf0 := X1.out.f 0; have yf1 := X1.out.f 1; have yl := X1.out.lt
      have Z := Lib.hid (X1.out.set N A' j c'); have z0 := Z.out.c0; have z1 := Z.out.c1
      go_wp2
      refine bodyPost_ret (v := .agg #[.int .i64 N, .slice A' j c']) (by simp [results, Try.results10, go_sem, z0, z1]) rfl ⟨A', c', rfl, ?_, below_set (below_set HV.out (Nat.le_succ _) _) (Nat.le_succ _) _, fun h0 b o e => by have := HO.out.fre h0 b o e; omega⟩
      have hi := ((HO.out.set (p := ⟨w.heap.size + 1, 0, none⟩) (by simp) (.int .i64 N)).set (p := ⟨w.heap.size + 1, 1, none⟩) (by simp) (.slice A' j c')).its
      exact hi.as (List.take_of_length_le (by rw [HL.out]; exact Nat.le_refl _))

set_option maxHeartbeats 2000000 in
theorem lined_is (N : Int) (A : Option Addr) (n c : Nat) (l : List It) (w : World) (hn : n ≤ 1000) (h : Its w A n c l) :
    Calls Try.prog 19 #[.agg #[.int .i64 N, .slice A n c]] w (LPost N n l w) := by
  have X0 := Lib.hid (((Qv.new w 28 N A n c).alloc (.cells #[.int .i64 0, .slice none 0 0] 24)).alloc (.cells #[.int .i64 N, .slice none 0 0] 24))
  have X1 := Lib.hid ((Qv.at_ (w.alloc (.cells #[.int .i64 N, .slice A n c] 28)) 24 0 none 0 0 (w.heap.size + 1) (by simp)).alloc (.cells #[.int .i64 N, .slice none 0 0] 24))
  have X2 := Lib.hid (Qv.at_ ((w.alloc (.cells #[.int .i64 N, .slice A n c] 28)).alloc (.cells #[.int .i64 0, .slice none 0 0] 24)) 24 N none 0 0 (w.heap.size + 1 + 1) (by simp))
  have HB := Lib.hid (new3 w (.cells #[.int .i64 N, .slice A n c] 28) (.cells #[.int .i64 0, .slice none 0 0] 24) (.cells #[.int .i64 N, .slice none 0 0] 24))
  have H0 := Lib.hid h
  have HL := Lib.hid h.len
  have hW : (((w.alloc (.cells #[.int .i64 N, .slice A n c] 28)).alloc (.cells #[.int .i64 0, .slice none 0 0] 24)).alloc (.cells #[.int .i64 N, .slice none 0 0] 24)).heap.size = w.heap.size + 3 := by simp
  clear h
  go_enter Try.func19, Try.ntmps19
  go_upto_region 3 with (fail)
  generalize (((w.alloc (.cells #[.int .i64 N, .slice A n c] 28)).alloc (.cells #[.int .i64 0, .slice none 0 0] 24)).alloc (.cells #[.int .i64 N, .slice none 0 0] 24)) = W at *
  have O0 := Lib.hid (OwnB.nil 52 (w.heap.size + 3) W)
  go_loopw [4] (fun i wr => ∃ (j : Nat) (A' : Option Addr) (c' : Nat), j ≤ n ∧ i = .int .i64 j ∧ OwnB 52 (w.heap.size + 3) wr A' j c' (l.take j) ∧ Below w.heap.size w wr ∧ w.heap.size + 3 ≤ wr.heap.size ∧
    Qv wr w.heap.size 28 N A n c ∧ Qv wr (w.heap.size + 1) 24 0 none 0 0 ∧ Qv wr (w.heap.size + 1 + 1) 24 N A' j c') (fun i _ => ((n : Int) - intOf i).toNat)
  case atStart => exact ⟨0, none, 0, by omega, rfl, O0.out, HB.out, by omega, X0.out, X1.out, X2.out⟩
  case round =>
    obtain ⟨j, A', c', hj, rfl, hO, hb, hsz, x0, x1, x2⟩ := hrel
    have HO := Lib.hid hO
    have HV := Lib.hid hb
    have X0 := Lib.hid x0
    have X1 := Lib.hid x1
    have X2 := Lib.hid x2
    clear hO hb x0 x1 x2
    have qa := X0.out.c0; have qb := X0.out.c1; have ql := X0.out.lt; have oa := X2.out.c0; have ob := X2.out.c1; have oe := X2.out.f 0; have of_ := X2.out.f 1; have ol := X2.out.lt
    by_cases hlt : j < n
    · have hjl : j < l.length := by rw [HL.out]; exact hlt
      obtain ⟨xb, xo, rfl, hbl, f0, f1, f2⟩ := (H0.out.below HV.out).at_ j hlt
      obtain ⟨x, hx⟩ : ∃ x, l.getD j i0 = x := ⟨_, rfl⟩
      have HX := Lib.hid (Its.next1 l j hjl x hx)
      rw [hx] at f0 f1 f2
      clear hx
      have B2 := Lib.hid (two_new wr (.cells #[.int .i64 x.d, .int .i64 x.p, .int .i64 x.t] 59) (.cells #[.int .i64 x.d, .int .i64 x.p, .int .i64 x.t] 52))
      have I2 := Lib.hid (Its.new1 (wr.alloc (.cells #[.int .i64 x.d, .int .i64 x.p, .int .i64 x.t] 59)) 52 x)
      go_upto_region 6 with (fail)
      go_wp2_with (at_builtin; refine wpList_appB etR (B := w.heap.size + 3) rfl (.tmp 22) (.tmp 30) rfl rfl rfl (by simp; omega) (HO.out.keep B2.out) (show Its _ (some ⟨wr.heap.size + 1, 0, none⟩) 1 1 [x] by have := I2.out; simpa using this) (by omega) ?_; intro A3 c3 w3 hw3 hb3; have HW := Lib.hid hw3; have HB3 := Lib.hid hb3; have X0 := Lib.hid ((X0.out.keep B2.out).keepB hb3 (by omega)); have X1 := Lib.hid ((X1.out.keep B2.out).keepB hb3 (by omega)); have X2 := Lib.hid ((X2.out.keep B2.out).keepB hb3 (by omega)); have hs3 := hb3.size; clear hw3 hb3 qa qb ql oa ob oe of_ ol; have qa := X0.out.c0; have qb := X0.out.c1; have ql := X0.out.lt; have oa := X2.out.c0; have ob := X2.out.c1; have oe := X2.out.f 0; have of_ := X2.out.f 1; have ol := X2.out.lt)
      go_roundw
      case rel => exact ⟨j + 1, A3, c3, by omega, by go_num, by rw [HX.out]; exact HW.out.set (by simp) _, below_set ((below_then HV.out B2.out).trans (HB3.out.mono (by omega))) (by show w.heap.size ≤ w.heap.size + 1 + 1; omega) _, by simp [World.setCell] at hs3 ⊢; omega, X0.out.other (by show w.heap.size ≠ w.heap.size + 1 + 1; omega) _, X1.out.other (by show w.heap.size + 1 ≠ w.heap.size + 1 + 1; omega) _, X2.out.set1 _ _ _⟩
      case measure => simp [intOf]; omega
    · obtain rfl : j = n := by omega
      have y0 := X1.out.c0; have y1 := X1.out.c1; have yf0 := X1.out.f 0; have yf1 := X1.out.f 1; have yl := X1.out.lt
      have Z := Lib.hid (X1.out.set N A' j c'); have z0 := Z.out.c0; have z1 := Z.out.c1
      go_wp2
      refine bodyPost_ret (v := .agg #[.int .i64 N, .slice A' j c']) (by simp [results, Try.results19, go_sem, z0, z1]) rfl ⟨A', c', rfl, ?_, below_set (below_set HV.out (Nat.le_succ _) _) (Nat.le_succ _) _, fun h0 b o e => by have := HO.out.fre h0 b o e; omega⟩
      have hi := ((HO.out.set (p := ⟨w.heap.size + 1, 0, none⟩) (by simp) (.int .i64 N)).set (p := ⟨w.heap.size + 1, 1, none⟩) (by simp) (.slice A' j c')).its
      exact hi.as (List.take_of_length_le (by rw [HL.out]; exact Nat.le_refl _))

end Go.Proofs.Ytoklocbdifefcaa
