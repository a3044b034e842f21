/-
  What the document's own Put, Due, Drop and Next answer (tenterhookref17), and the statements' own naps and slept: the same naps, in memory of the call's own.
-/
import Derived.Test.YtpkfmbknbdlnpaaTimerRef
namespace Go.Proofs.Ytpkfmbknbdlnpaa
open Go.RowKit

theorem OwnS.grow {W w W2 : World} {A : Option Addr} {n c : Nat} {l : List Int} (h : Own W w A n c l) (hb : Below w.heap.size w W2) : Own W W2 A n c l := by
  refine ⟨⟨h.1.1, ?_⟩, below_then h.2 hb⟩
  rcases h.1.2 with h0 | ⟨g, cap, cur, h1, h2, h3, h4⟩
  · exact .inl h0
  · exact .inr ⟨g, cap, cur, h1, h2, (hb.block g (Array.getElem?_eq_some_iff.1 h3).1).trans h3, h4⟩
theorem stk_one (w : World) (t : TypeId) (x : Int) (g : Nat) (hg : w.heap.size = g) : Stk (w.alloc (.cells #[.int .i64 x] t)) (some ⟨g, 0, none⟩) 1 1 [x] := by
  subst hg
  refine ⟨rfl, Nat.le_refl _, fun _ => ⟨_, 0, rfl, by simp, fun j hj => ?_⟩, fun h => by cases h⟩
  rw [Nat.zero_add, cell_of_row _ _ j _ t (0, 0) (heap_alloc_new w _)]
  match j, hj with
  | 0, _ => rfl
/-- What calls hand back: naps; naps and a bool; naps and numbers. -/
def NPost (l : List Np) (w : World) (e : Ending) (w' : World) : Prop := ∃ A n c, e = .returned (.slice A n c) ∧ Nps w' A n c l ∧ Below w.heap.size w w'
def NBPost (l : List Np) (b : Bool) (w : World) (e : Ending) (w' : World) : Prop := ∃ A n c, e = .returned (.tuple #[.slice A n c, .bool b]) ∧ Nps w' A n c l ∧ Below w.heap.size w w'
def NIPost (l : List Np) (k : List Int) (w : World) (e : Ending) (w' : World) : Prop := ∃ A n c B m d, e = .returned (.tuple #[.slice A n c, .slice B m d]) ∧ Nps w' A n c l ∧ Stk w' B m d k ∧ Below w.heap.size w w'

set_option maxHeartbeats 2000000 in
theorem rnput_is (A : Option Addr) (n c : Nat) (l : List Np) (d t : Int) (w : World) (hn : n ≤ 4611686018427387904) (h : Nps w A n c l) :
    Calls Try.prog 10 #[.slice A n c, .int .i64 d, .int .i64 t] w (NBPost (pnL (tnL l) d t) (pnB (tnL l) d t) w) := by
  have hsn := sn_tn l
  obtain ⟨l1, hl1⟩ : ∃ x, tnL l = x := ⟨_, rfl⟩
  rw [hl1] at hsn ⊢
  have HL1 := Lib.hid hl1
  have HS := Lib.hid hsn
  have H := Lib.hid h
  clear hl1 hsn h
  go_enter Try.func10, Try.ntmps10
  go_upto_region 2 with (go_at_call 27; refine (rntaken_is A n c l l1 _ hn H.out HL1.out).mono ?_; rintro e w1 ⟨A1, n1, c1, rfl, hi, hb⟩; have HI := Lib.hid hi; have HB := Lib.hid hb; clear hi hb)
  have HLN := Lib.hid HI.out.len
  have hn1 : n1 ≤ 8 := by rw [← HI.out.len]; exact HS.out.1
  by_cases h1 : d < 0
  · have HP : Hid (pnB l1 d t = false) := Lib.hid (by
      have : npB ⟨d, t⟩ = false := by unfold npB; exact decide_eq_false (by simp only; omega)
      unfold pnB; rw [this]; rfl)
    go_wp2
    go_ret2
    exact ⟨A1, n1, c1, by rw [HP.out]; rfl, by unfold pnL; rw [HP.out]; exact HI.out, HB.out⟩
  by_cases h2 : 7 < d
  · have HP : Hid (pnB l1 d t = false) := Lib.hid (by
      have : npB ⟨d, t⟩ = false := by unfold npB; exact decide_eq_false (by simp only; omega)
      unfold pnB; rw [this]; rfl)
    go_wp2
    go_ret2
    exact ⟨A1, n1, c1, by rw [HP.out]; rfl, by unfold pnL; rw [HP.out]; exact HI.out, HB.out⟩
  by_cases h3 : t < 0
  · have HP : Hid (pnB l1 d t = false) := Lib.hid (by
      have : npB ⟨d, t⟩ = false := by unfold npB; exact decide_eq_false (by simp only; omega)
      unfold pnB; rw [this]; rfl)
    go_wp2
    go_ret2
    exact ⟨A1, n1, c1, by rw [HP.out]; rfl, by unfold pnL; rw [HP.out]; exact HI.out, HB.out⟩
  by_cases h4 : 1125899906842624 < t
  · have HP : Hid (pnB l1 d t = false) := Lib.hid (by
      have : npB ⟨d, t⟩ = false := by unfold npB; exact decide_eq_false (by simp only; omega)
      unfold pnB; rw [this]; rfl)
    go_wp2
    go_ret2
    exact ⟨A1, n1, c1, by rw [HP.out]; rfl, by unfold pnL; rw [HP.out]; exact HI.out, HB.out⟩
  have hnp : npB ⟨d, t⟩ = true := np_iff.2 (by simp only; omega)
  obtain ⟨b, hb0⟩ : ∃ b, hsB l1 d = b := ⟨_, rfl⟩
  have HB0 := Lib.hid hb0
  have HP : Hid (pnB l1 d t = !b) := Lib.hid (by unfold pnB; rw [hnp, hb0]; rfl)
  clear hb0 hnp
  cases b
  rotate_left
  · go_wp2_with (go_at_call 28; refine (rnhas_is A1 n1 c1 l1 d true _ (by omega) HI.out HB0.out).mono ?_; rintro e w2 ⟨rfl, rfl⟩)
    go_ret2
    exact ⟨A1, n1, c1, by rw [HP.out]; rfl, by unfold pnL; rw [HP.out]; exact HI.out, HB.out⟩
  go_upto_region 6 with (go_at_call 28; refine (rnhas_is A1 n1 c1 l1 d false _ (by omega) HI.out HB0.out).mono ?_; rintro e w2 ⟨rfl, rfl⟩)
  go_loopw [8, 9] (fun v i wr => ∃ (j m : Nat) (A' : Option Addr) (c' : Nat), j ≤ n1 ∧ i = .int .i64 j ∧ v = .slice A' m c' ∧ OwnN 57 w2 wr A' m c' (upL (l1.take j) t)) (fun _ i _ => ((n1 : Int) - intOf i).toNat)
  case atStart => exact ⟨0, 0, none, 0, by omega, rfl, rfl, OwnN.nil _ _⟩
  case round =>
    obtain ⟨j, m, A', c', hj, rfl, rfl, hO⟩ := hrel
    have HO := Lib.hid hO
    have hm : m ≤ j := by have h1 := hO.nps.len; have h2 := up_le (l1.take j) t; have h3 := List.length_take_le j l1; omega
    clear hO
    by_cases hlt : j < n1
    · have hjl : j < l1.length := by rw [HLN.out]; exact hlt
      obtain ⟨xb, xo, rfl, hbl, f0, f1⟩ := (HI.out.below HO.out.below).at_ j hlt
      have HX := Lib.hid (up_snoc l1 t j hjl)
      obtain ⟨y, hy⟩ : ∃ y, l1.getD j nz = y := ⟨_, rfl⟩
      rw [hy] at f0 f1 HX
      clear hy
      by_cases hyt : y.t ≤ t
      · go_wp2_with (at_builtin; refine wpList_appN ntR (W := w2) rfl (.tmp 46) (.tmp 51) rfl rfl rfl (HO.out.grow (below_one wr (.cells #[.int .i64 y.d, .int .i64 y.t] 57))) (Nps.new1 wr 57 y) (by omega) ?_; intro A3 c3 w3 hw3; have HW := Lib.hid hw3; clear hw3)
        go_roundw
        case rel => exact ⟨j + 1, m + 1, A3, c3, by omega, by go_num, by go_num, by rw [HX.out, if_pos hyt]; exact HW.out⟩
        case measure => simp [intOf]; omega
      · go_wp2
        go_roundw
        case rel => exact ⟨j + 1, m, A', c', by omega, by go_num, rfl, by rw [HX.out, if_neg hyt, List.append_nil]; exact HO.out⟩
        case measure => simp [intOf]; omega
    · obtain rfl : j = n1 := by omega
      have hO := HO.out
      rw [List.take_of_length_le (by rw [HLN.out]; exact Nat.le_refl _)] at hO
      have HO1 := Lib.hid hO
      clear hO HO
      go_upto_region 12 with (at_builtin; refine wpList_appN ntR (W := w2) rfl (.tmp 53) (.tmp 57) rfl rfl rfl (HO1.out.grow (below_one wr (.cells #[.int .i64 d, .int .i64 t] 57))) (Nps.new1 wr 57 ⟨d, t⟩) (by omega) ?_; intro A4 c4 w4 hw4; have HW := Lib.hid hw4; clear hw4)
      have HW0 : Hid (OwnN 57 w2 w4 A4 (m + 1) c4 (upL l1 t ++ ⟨d, t⟩ :: ovL (l1.take 0) t)) := Lib.hid HW.out
      go_loopw [8, 10] (fun v i wr => ∃ (k q : Nat) (A' : Option Addr) (c' : Nat), k ≤ j ∧ i = .int .i64 k ∧ v = .slice A' q c' ∧ OwnN 57 w2 wr A' q c' (upL l1 t ++ ⟨d, t⟩ :: ovL (l1.take k) t)) (fun _ i _ => ((j : Int) - intOf i).toNat)
      case atStart => exact ⟨0, m + 1, A4, c4, by omega, rfl, rfl, HW0.out⟩
      case round =>
        obtain ⟨k, q, A5, c5, hk, rfl, rfl, hO⟩ := hrel
        have HO := Lib.hid hO
        have hq : q ≤ 100 := by have h1 := hO.nps.len; have h2 := up_le l1 t; have h3 := ov_le (l1.take k) t; have h4 := List.length_take_le k l1; have h5 := HLN.out; rw [List.length_append, List.length_cons] at h1; omega
        clear hO
        by_cases hlt2 : k < j
        · have hkl : k < l1.length := by rw [HLN.out]; exact hlt2
          obtain ⟨xb, xo, rfl, hbl, f0, f1⟩ := (HI.out.below HO.out.below).at_ k hlt2
          have HX := Lib.hid (ov_snoc l1 t k hkl)
          obtain ⟨y, hy⟩ : ∃ y, l1.getD k nz = y := ⟨_, rfl⟩
          rw [hy] at f0 f1 HX
          clear hy
          by_cases hyt : t < y.t
          · go_wp2_with (at_builtin; refine wpList_appN ntR (W := w2) rfl (.tmp 72) (.tmp 77) rfl rfl rfl (HO.out.grow (below_one wr (.cells #[.int .i64 y.d, .int .i64 y.t] 57))) (Nps.new1 wr 57 y) (by omega) ?_; intro A3 c3 w3 hw3; have HW3 := Lib.hid hw3; clear hw3)
            go_roundw
            case rel => exact ⟨k + 1, q + 1, A3, c3, by omega, by go_num, by go_num, by rw [HX.out, if_pos hyt]; exact HW3.out.as (by simp)⟩
            case measure => simp [intOf]; omega
          · go_wp2
            go_roundw
            case rel => exact ⟨k + 1, q, A5, c5, by omega, by go_num, rfl, by rw [HX.out, if_neg hyt, List.append_nil]; exact HO.out⟩
            case measure => simp [intOf]; omega
        · obtain rfl : k = j := by omega
          have hO := HO.out
          rw [List.take_of_length_le (by rw [HLN.out]; exact Nat.le_refl _)] at hO
          have HO2 := Lib.hid hO
          clear hO HO
          go_wp2
          go_ret2
          exact ⟨A5, q, c5, by rw [HP.out]; rfl, by unfold pnL; rw [HP.out, Bool.not_false, if_pos rfl]; exact HO2.out.nps, below_then HB.out HO2.out.below⟩

theorem ni_snoc (l : List Np) (t : Int) (j : Nat) (h : j < l.length) : niL (upL (l.take (j + 1)) t) = niL (upL (l.take j) t) ++ (if (l.getD j nz).t ≤ t then [(l.getD j nz).d] else []) := by
  rw [up_snoc l t j h]
  unfold niL
  rw [List.map_append]
  split <;> rfl
theorem ni_len (l : List Np) : (niL l).length = l.length := by simp [niL]
/-- Two rows lie in two blocks. -/
def Dis (A B : Option Addr) : Prop := ∀ a b, A = some a → B = some b → a.block ≠ b.block
theorem Dis.symm {A B : Option Addr} (h : Dis A B) : Dis B A := fun a b ha hb e => h b a hb ha e.symm
theorem Dis.none_ (B : Option Addr) : Dis none B := fun _ _ h => by cases h
theorem row_grown {base : Nat} {E : TypeId} {es : Nat} {w w' : World} {B : Option Addr} {q d : Nat} {L : List Value} {row : Option Nat} (h : w.ownsRow base E es (.slice B q d) q L) (hg : w.grownBy w' row) (hd : ∀ k b, row = some k → B = some b → b.block ≠ k) : w'.ownsRow base E es (.slice B q d) q L := by
  refine ⟨h.1, ?_⟩
  rcases h.2 with h0 | ⟨g, cap, cur, h1, h2, h3, h4⟩
  · exact .inl h0
  · refine .inr ⟨g, cap, cur, h1, h2, (hg.block g (Array.getElem?_eq_some_iff.1 h3).1 (fun e => ?_)).trans h3, h4⟩
    injection h1 with h1 _ _
    exact hd g ⟨g, 0, none⟩ e.symm h1 rfl
theorem row_lt' {base : Nat} {E : TypeId} {es : Nat} {w : World} {B : Option Addr} {q d : Nat} {L : List Value} (h : w.ownsRow base E es (.slice B q d) q L) : ∀ b, B = some b → b.block < w.heap.size := by
  intro b hb
  rcases h.2 with ⟨h0, _⟩ | ⟨g, cap, cur, h1, h2, h3, h4⟩
  · injection h0 with h1 _ _; rw [hb] at h1; cases h1
  · injection h1 with h1 _ _
    rw [hb] at h1
    injection h1 with h1
    rw [h1]
    exact (Array.getElem?_eq_some_iff.1 h3).1
theorem dis_grown {A A' B : Option Addr} {n n' c c' : Nat} {w : World} (h : Dis A B) (hlt : ∀ b, B = some b → b.block < w.heap.size) (ho : (Value.slice A' n' c').ownBlock = (Value.slice A n c).ownBlock ∨ (Value.slice A' n' c').ownBlock = some w.heap.size) : Dis A' B := by
  intro a b ha hb
  subst ha
  have := hlt b hb
  rcases ho with h1 | h1
  · cases A with
    | none => cases h1
    | some a0 =>
      have e : a.block = a0.block := by simpa [Value.ownBlock] using h1
      rw [e]
      exact h a0 b rfl hb
  · have e : a.block = w.heap.size := by simpa [Value.ownBlock] using h1
    omega
/-- A row of naps and a row of numbers, both of the call's own. -/
structure Two (E : TypeId) (W w : World) (A : Option Addr) (n c : Nat) (l : List Np) (B : Option Addr) (m d : Nat) (k : List Int) : Prop where
  a : w.ownsRow W.heap.size E 2 (.slice A n c) n (npsOf l)
  b : w.ownsRow W.heap.size 3 1 (.slice B m d) m (intsOf k)
  dis : Dis A B
  below : Below W.heap.size W w
theorem Two.grow {E : TypeId} {W w w2 : World} {A : Option Addr} {n c : Nat} {l : List Np} {B : Option Addr} {m d : Nat} {k : List Int} (h : Two E W w A n c l B m d k) (hb : Below w.heap.size w w2) : Two E W w2 A n c l B m d k := by
  have h1 : OwnN E W w A n c l := ⟨h.a, h.below⟩
  have h2 : Own W w B m d k := ⟨h.b, h.below⟩
  exact ⟨(h1.grow hb).1, (OwnS.grow h2 hb).1, h.dis, (h1.grow hb).2⟩
theorem Two.as {E : TypeId} {W w : World} {A : Option Addr} {n c : Nat} {l l' : List Np} {B : Option Addr} {m d : Nat} {k k' : List Int} (h : Two E W w A n c l B m d k) (e : l = l') (e' : k = k') : Two E W w A n c l' B m d k' := e ▸ e' ▸ h
theorem wpList_appNT {T E : TypeId} (pt : NT T E) {W w : World} {ops : Array Oper} {rest : List Oper} {o : Oper} {a : Act} {Q : Exit → Act → World → Prop} (hgd : o.guard = none) (s x : Operand)
    (ho : o.op = .call { callee := .builtin .append, args := #[s, x], argTypes := #[T, T] })
    {A B : Option Addr} {b : Addr} {n c m d p f : Nat} {xs l : List Np} {k : List Int} (hs : a.eval s = .slice A n c) (hx : a.eval x = .slice (some b) p f) (h : Two E W w A n c xs B m d k) (hl : Nps w (some b) p f l) (hn : n + p ≤ 1000000)
    (hk : ∀ A' c' w', Two E W w' A' (n + p) c' (xs ++ l) B m d k → wpList Try.prog ops Q rest (a.put o.dst (.slice A' (n + p) c')) w') : wpList Try.prog ops Q (o :: rest) a w := by
  refine wpList_plain hgd fun _ hK => ?_
  obtain ⟨i, hi, hz0, hz1, hz2⟩ := info_parts pt.info
  have hbase : W.heap.size ≤ w.heap.size := h.below.size
  obtain ⟨v', w', hrun, h2, h3, _, h5⟩ := run_append_own_at (P := Try.prog) w W.heap.size T o.type E i (.agg #[.int .i64 0, .int .i64 0]) 2 16 pt.under hi hz0 hz1 hz2 rfl (by decide) _ n (npsOf xs) h.a b p f (npsOf l)
    (by rw [npsOf_length, hl.1]) hl.src (npsOf_one l) (by unfold maxLen; omega) (by omega) hbase
  have hv : ∃ A' c', v' = .slice A' (n + p) c' := by
    rcases h2.2 with ⟨rfl, e⟩ | ⟨g, cap, cur, rfl, _⟩
    · exact ⟨none, 0, by rw [e]⟩
    · exact ⟨_, _, rfl⟩
  obtain ⟨A', c', rfl⟩ := hv
  unfold Oper.wp execOp
  simp only [ho, resolve, invoke, builtin, Sem.run_bind, Sem.run_pure, Result.andThen_ok, List.map_toArray, List.map_cons, List.map_nil, hs, hx, hrun]
  refine hK _ _ (hk A' c' w' ⟨by rw [npsOf_append]; exact h2, row_grown h.b h3 (fun q b hq hb => ?_), dis_grown h.dis (row_lt' h.b) h5, h.below.grown h3 hbase (fun q hq => (h.a.lt q hq).1)⟩)
  cases A with
  | none => cases hq
  | some a0 =>
    have e : a0.block = q := by simpa [Value.ownBlock] using hq
    rw [← e]
    exact fun g => h.dis a0 b rfl hb g.symm
theorem wpList_appST {E : TypeId} {W w : World} {ops : Array Oper} {rest : List Oper} {o : Oper} {a : Act} {Q : Exit → Act → World → Prop} (hgd : o.guard = none) (s x : Operand)
    (ho : o.op = .call { callee := .builtin .append, args := #[s, x], argTypes := #[30, 30] })
    {A B : Option Addr} {b : Addr} {n c m d p f : Nat} {xs : List Np} {k l : List Int} (hs : a.eval s = .slice B m d) (hx : a.eval x = .slice (some b) p f) (h : Two E W w A n c xs B m d k) (hl : Stk w (some b) p f l) (hn : m + p ≤ 1000000)
    (hk : ∀ B' d' w', Two E W w' A n c xs B' (m + p) d' (k ++ l) → wpList Try.prog ops Q rest (a.put o.dst (.slice B' (m + p) d')) w') : wpList Try.prog ops Q (o :: rest) a w := by
  refine wpList_plain hgd fun _ hK => ?_
  obtain ⟨i, hi, hz0, hz1, hz2⟩ := info_parts infoI
  have hbase : W.heap.size ≤ w.heap.size := h.below.size
  obtain ⟨v', w', hrun, h2, h3, _, h5⟩ := run_append_own_at (P := Try.prog) w W.heap.size 30 o.type 3 i (.int .i64 0) 1 8 Try.underlying30 hi hz0 hz1 hz2 rfl (by decide) _ m (intsOf k) h.b b p f (intsOf l)
    (by rw [intsOf_length, hl.1, Nat.mul_one]) hl.src (intsOf_one l) (by unfold maxLen; omega) (by omega) hbase
  have hv : ∃ A' c', v' = .slice A' (m + p) c' := by
    rcases h2.2 with ⟨rfl, e⟩ | ⟨g, cap, cur, rfl, _⟩
    · exact ⟨none, 0, by rw [e]⟩
    · exact ⟨_, _, rfl⟩
  obtain ⟨B', d', rfl⟩ := hv
  unfold Oper.wp execOp
  simp only [ho, resolve, invoke, builtin, Sem.run_bind, Sem.run_pure, Result.andThen_ok, List.map_toArray, List.map_cons, List.map_nil, hs, hx, hrun]
  refine hK _ _ (hk B' d' w' ⟨row_grown h.a h3 (fun q a hq ha => ?_), by rw [intsOf_append]; exact h2, (dis_grown h.dis.symm (row_lt' h.a) h5).symm, h.below.grown h3 hbase (fun q hq => (h.b.lt q hq).1)⟩)
  cases B with
  | none => cases hq
  | some b0 =>
    have e : b0.block = q := by simpa [Value.ownBlock] using hq
    rw [← e]
    exact h.dis a b0 ha rfl
set_option maxHeartbeats 2000000 in
theorem rndue_is (A : Option Addr) (n c : Nat) (l : List Np) (t : Int) (w : World) (hn : n ≤ 4611686018427387904) (h : Nps w A n c l) :
    Calls Try.prog 12 #[.slice A n c, .int .i64 t] w (NIPost (ovL (tnL l) t) (niL (upL (tnL l) t)) w) := by
  have hsn := sn_tn l
  obtain ⟨l1, hl1⟩ : ∃ x, tnL l = x := ⟨_, rfl⟩
  rw [hl1] at hsn ⊢
  have HL1 := Lib.hid hl1
  have HS := Lib.hid hsn
  have H := Lib.hid h
  clear hl1 hsn h
  go_enter Try.func12, Try.ntmps12
  go_upto_region 5 with (go_at_call 27; refine (rntaken_is A n c l l1 _ hn H.out HL1.out).mono ?_; rintro e w1 ⟨A1, n1, c1, rfl, hi, hb⟩; have HI := Lib.hid hi; have HB := Lib.hid hb; clear hi hb)
  have HLN := Lib.hid HI.out.len
  have hn1 : n1 ≤ 8 := by rw [← HI.out.len]; exact HS.out.1
  go_loopw [6, 7, 8] (fun v u i wr => ∃ (j m q : Nat) (A' : Option Addr) (c' : Nat) (B' : Option Addr) (d' : Nat), j ≤ n1 ∧ m ≤ j ∧ q ≤ j ∧ i = .int .i64 j ∧ v = .slice A' m c' ∧ u = .slice B' q d' ∧ Two 57 w1 wr A' m c' (ovL (l1.take j) t) B' q d' (niL (upL (l1.take j) t))) (fun _ _ i _ => ((n1 : Int) - intOf i).toNat)
  case atStart => exact ⟨0, 0, 0, none, 0, none, 0, by omega, by omega, by omega, rfl, rfl, rfl, ⟨(OwnN.nil _ _).1, (Own.nil _).1, Dis.none_ _, Below.refl _ _⟩⟩
  case round =>
    obtain ⟨j, m, q, A', c', B', d', hj, hm, hq, rfl, rfl, rfl, hO⟩ := hrel
    have HO := Lib.hid hO
    clear hO
    by_cases hlt : j < n1
    · have hjl : j < l1.length := by rw [HLN.out]; exact hlt
      obtain ⟨xb, xo, rfl, hbl, f0, f1⟩ := (HI.out.below HO.out.below).at_ j hlt
      have HX := Lib.hid (ov_snoc l1 t j hjl)
      have HY := Lib.hid (ni_snoc l1 t j hjl)
      obtain ⟨y, hy⟩ : ∃ y, l1.getD j nz = y := ⟨_, rfl⟩
      rw [hy] at f0 f1 HX HY
      clear hy
      by_cases hyt : t < y.t
      · have hyt2 : ¬ y.t ≤ t := by omega
        go_wp2_with (at_builtin; refine wpList_appNT ntR (W := w1) (b := ⟨wr.heap.size, 0, none⟩) rfl (.tmp 24) (.tmp 29) rfl rfl rfl (HO.out.grow (below_one wr (.cells #[.int .i64 y.d, .int .i64 y.t] 57))) (Nps.new1 wr 57 y) (by omega) ?_; intro A3 c3 w3 hw3; have HW := Lib.hid hw3; clear hw3)
        go_roundw
        case rel => exact ⟨j + 1, m + 1, q, A3, c3, B', d', by omega, by omega, by omega, by go_num, by go_num, rfl, HW.out.as (by rw [HX.out, if_pos hyt]) (by rw [HY.out, if_neg hyt2, List.append_nil])⟩
        case measure => simp [intOf]; omega
      · have hyt2 : y.t ≤ t := by omega
        go_wp2_with (at_builtin; refine wpList_appST (W := w1) (b := ⟨wr.heap.size, 0, none⟩) rfl (.tmp 31) (.tmp 37) rfl rfl rfl (HO.out.grow (below_one wr (.cells #[.int .i64 y.d] 3))) (stk_one wr _ y.d _ rfl) (by omega) ?_; intro A3 c3 w3 hw3; have HW := Lib.hid hw3; clear hw3)
        go_roundw
        case rel => exact ⟨j + 1, m, q + 1, A', c', A3, c3, by omega, by omega, by omega, by go_num, rfl, by go_num, HW.out.as (by rw [HX.out, if_neg hyt, List.append_nil]) (by rw [HY.out, if_pos hyt2])⟩
        case measure => simp [intOf]; omega
    · obtain rfl : j = n1 := by omega
      have hO := HO.out
      rw [List.take_of_length_le (by rw [HLN.out]; exact Nat.le_refl _)] at hO
      have HO2 := Lib.hid hO
      clear hO HO
      go_wp2
      go_ret2
      exact ⟨A', m, c', B', q, d', rfl, Nps.of_own HO2.out.a, Stk.of_own HO2.out.b, below_then HB.out HO2.out.below⟩

set_option maxHeartbeats 2000000 in
theorem rndrop_is (A : Option Addr) (n c : Nat) (l : List Np) (d : Int) (w : World) (hn : n ≤ 4611686018427387904) (h : Nps w A n c l) :
    Calls Try.prog 14 #[.slice A n c, .int .i64 d] w (NBPost (dpL (tnL l) d) (dpB (tnL l) d) w) := by
  have hsn := sn_tn l
  obtain ⟨l1, hl1⟩ : ∃ x, tnL l = x := ⟨_, rfl⟩
  rw [hl1] at hsn ⊢
  have HL1 := Lib.hid hl1
  have HS := Lib.hid hsn
  have H := Lib.hid h
  clear hl1 hsn h
  go_enter Try.func14, Try.ntmps14
  go_upto_region 4 with (go_at_call 27; refine (rntaken_is A n c l l1 _ hn H.out HL1.out).mono ?_; rintro e w1 ⟨A1, n1, c1, rfl, hi, hb⟩; have HI := Lib.hid hi; have HB := Lib.hid hb; clear hi hb)
  have HLN := Lib.hid HI.out.len
  have hn1 : n1 ≤ 8 := by rw [← HI.out.len]; exact HS.out.1
  go_loopw [6, 7] (fun v i wr => ∃ (j m : Nat) (A' : Option Addr) (c' : Nat), j ≤ n1 ∧ i = .int .i64 j ∧ v = .slice A' m c' ∧ OwnN 57 w1 wr A' m c' (dpL (l1.take j) d)) (fun _ i _ => ((n1 : Int) - intOf i).toNat)
  case atStart => exact ⟨0, 0, none, 0, by omega, rfl, rfl, OwnN.nil _ _⟩
  case round =>
    obtain ⟨j, m, A', c', hj, rfl, rfl, hO⟩ := hrel
    have HO := Lib.hid hO
    have hm : m ≤ j := by have h1 := hO.nps.len; have h2 := dp_le (l1.take j) d; have h3 := List.length_take_le j l1; omega
    clear hO
    by_cases hlt : j < n1
    · have hjl : j < l1.length := by rw [HLN.out]; exact hlt
      obtain ⟨xb, xo, rfl, hbl, f0, f1⟩ := (HI.out.below HO.out.below).at_ j hlt
      have HX := Lib.hid (dp_snoc l1 d j hjl)
      obtain ⟨y, hy⟩ : ∃ y, l1.getD j nz = y := ⟨_, rfl⟩
      rw [hy] at f0 f1 HX
      clear hy
      by_cases hyd : y.d = d
      · have hyn : (y.d != d) = false := by simp [hyd]
        have HYD := Lib.hid hyd
        clear hyd
        go_wp2
        go_roundw
        case rel => exact ⟨j + 1, m, A', c', by omega, by go_num, rfl, by rw [HX.out, if_pos HYD.out, List.append_nil]; exact HO.out⟩
        case measure => simp [intOf]; omega
      · have hyn : (y.d != d) = true := by simpa using hyd
        go_wp2_with (at_builtin; refine wpList_appN ntR (W := w1) rfl (.tmp 23) (.tmp 28) rfl rfl rfl (HO.out.grow (below_one wr (.cells #[.int .i64 y.d, .int .i64 y.t] 57))) (Nps.new1 wr 57 y) (by omega) ?_; intro A3 c3 w3 hw3; have HW := Lib.hid hw3; clear hw3)
        go_roundw
        case rel => exact ⟨j + 1, m + 1, A3, c3, by omega, by go_num, by go_num, by rw [HX.out, if_neg hyd]; exact HW.out⟩
        case measure => simp [intOf]; omega
    · obtain rfl : j = n1 := by omega
      have hO := HO.out
      rw [List.take_of_length_le (by rw [HLN.out]; exact Nat.le_refl _)] at hO
      have HO2 := Lib.hid hO
      clear hO HO
      have hfl := dp_flag l1 d
      rw [HO2.out.nps.len, HLN.out] at hfl
      obtain ⟨b, hb0⟩ : ∃ b, dpB l1 d = b := ⟨_, rfl⟩
      rw [hb0] at hfl
      have HB0 := Lib.hid hb0
      have hfl2 : decide ((m : Int) < (j : Int)) = b := by rw [← hfl]; exact decide_eq_decide.2 (by omega)
      have HF := Lib.hid hfl2
      clear hb0 hfl hfl2
      go_wp2
      go_ret2
      exact ⟨A', m, c', by first | (rw [HB0.out, HF.out]) | (rw [HB0.out, ← HF.out]; simp) | (rw [HB0.out]; simp [← HF.out]), HO2.out.nps, below_then HB.out HO2.out.below⟩

set_option maxHeartbeats 1000000 in
theorem rnnext_is (A : Option Addr) (n c : Nat) (l : List Np) (w : World) (hn : n ≤ 4611686018427387904) (h : Nps w A n c l) :
    Calls Try.prog 16 #[.slice A n c] w fun e w' => e = .returned (.tuple #[.int .i64 (neI (tnL l)), .bool (neB (tnL l))]) ∧ Below w.heap.size w w' := by
  have hsn := sn_tn l
  obtain ⟨l1, hl1⟩ : ∃ x, tnL l = x := ⟨_, rfl⟩
  rw [hl1] at hsn ⊢
  have HL1 := Lib.hid hl1
  have HS := Lib.hid hsn
  have H := Lib.hid h
  clear hl1 hsn h
  go_enter Try.func16, Try.ntmps16
  go_upto_region 2 with (go_at_call 27; refine (rntaken_is A n c l l1 _ hn H.out HL1.out).mono ?_; rintro e w1 ⟨A1, n1, c1, rfl, hi, hb⟩; have HI := Lib.hid hi; have HB := Lib.hid hb; clear hi hb)
  have HLN := Lib.hid HI.out.len
  have hn1 : n1 ≤ 8 := by rw [← HI.out.len]; exact HS.out.1
  by_cases h0 : n1 = 0
  · subst h0
    have HE : Hid (l1 = []) := Lib.hid (List.eq_nil_of_length_eq_zero HLN.out)
    go_wp2
    go_ret2
    exact ⟨by rw [HE.out]; rfl, HB.out⟩
  · have hne : l1 ≠ [] := fun e => h0 (by rw [← HLN.out, e]; rfl)
    obtain ⟨xb, xo, rfl, hbl, f0, f1⟩ := HI.out.at_ 0 (by omega)
    obtain ⟨y, hy⟩ : ∃ y, (l1.getD 0 nz).t = y := ⟨_, rfl⟩
    have HT : Hid (neI l1 = y) := Lib.hid (by unfold neI; rw [if_neg hne, hy])
    rw [hy] at f1
    clear hy
    have HB1 : Hid (neB l1 = true) := Lib.hid (by cases l1; exact absurd rfl hne; rfl)
    simp only [Nat.zero_mul, Nat.add_zero] at f0 f1
    have hn2 : (0 : Int) < (n1 : Int) := by omega
    have hn3 : 0 < n1 := by omega
    have hn4 : ((n1 : Int) == 0) = false := by simp; omega
    clear f0 hne
    go_wp2
    go_ret2
    exact ⟨by rw [HT.out, HB1.out]; rfl, HB.out⟩

set_option maxHeartbeats 2000000 in
theorem naps_is (A : Option Addr) (n c : Nat) (l : List Np) (w : World) (hn : n ≤ 1000) (h : Nps w A n c l) :
    Calls Try.prog 9 #[.slice A n c] w fun e w' => ∃ A' c', e = .returned (.slice A' n c') ∧ Nps w' A' n c' l ∧ Below w.heap.size w w' := by
  have H := Lib.hid h
  have HL := Lib.hid h.len
  clear h
  go_enter Try.func9, Try.ntmps9
  go_upto_region 3 with (fail)
  go_loopw [3, 4] (fun v i wr => ∃ (j : Nat) (A' : Option Addr) (c' : Nat), j ≤ n ∧ i = .int .i64 j ∧ v = .slice A' j c' ∧ OwnN 49 w wr A' j c' (l.take j)) (fun _ i _ => ((n : Int) - intOf i).toNat)
  case atStart => exact ⟨0, none, 0, by omega, rfl, rfl, OwnN.nil _ _⟩
  case round =>
    obtain ⟨j, A', c', hj, rfl, rfl, hO⟩ := hrel
    have HO := Lib.hid hO
    clear hO
    by_cases hlt : j < n
    · have hjl : j < l.length := by rw [HL.out]; exact hlt
      obtain ⟨xb, xo, rfl, hbw, e0, e1⟩ := H.out.at_ j hlt
      have hbl : xb < wr.heap.size := Nat.lt_of_lt_of_le hbw HO.out.below.size
      have HX := Lib.hid (ntake_snoc l j hjl)
      obtain ⟨y, hy⟩ : ∃ y, l.getD j nz = y := ⟨_, rfl⟩
      rw [hy] at e0 e1 HX
      have f0 := (HO.out.below.cell (p := ⟨xb, xo + j * 2, none⟩) hbw).trans e0
      have f1 := (HO.out.below.cell (p := ⟨xb, xo + j * 2 + 1, none⟩) hbw).trans e1
      have hk0 : (0 : Int) ≤ (j : Int) := by omega
      have hkn : (j : Int) < (n : Int) := by omega
      clear hy
      go_upto_region 5 with (fail)
      have hHeld0 : (fun w9 => w9.cell? ⟨xb, xo + j * 2, none⟩ = some (.int .i64 y.d) ∧ w9.cell? ⟨xb, xo + j * 2 + 1, none⟩ = some (.int .i64 y.t)) wr.drew := ⟨f0, f1⟩
      refine wp_region_held_drew (S := fun w9 => w9.cell? ⟨xb, xo + j * 2, none⟩ = some (.int .i64 y.d) ∧ w9.cell? ⟨xb, xo + j * 2 + 1, none⟩ = some (.int .i64 y.t)) (by kernel_rfl) hHeld0 (fun hHeld => ?_)
      clear hHeld0
      refine wpAnyH_take (i := 0) (oi := { dst := some 11, op := Op.move (Operand.tmp 3), type := 24, pos := "law.go:14", after := #[], guard := none }) (v := ?_) rfl (by kernel_rfl) (by kernel_rfl) (by kernel_rfl) (fun _ _ _ h => h) (Or.inl ⟨by kernel_rfl, ?_⟩) hHeld ?_
      rotate_left
      · intro w9 hSw; (try dsimp only at hSw); go_simp; try with_reducible rfl
      simp only [Act.put, List.setIfInBounds_toArray, List.set_cons_zero, List.set_cons_succ]
      refine wpAnyH_take (i := 1) (oi := { dst := some 12, op := Op.move (Operand.tmp 0), type := 22, pos := "law.go:14", after := #[], guard := none }) (v := ?_) rfl (by kernel_rfl) (by kernel_rfl) (by kernel_rfl) (fun _ _ _ h => h) (Or.inl ⟨by kernel_rfl, ?_⟩) hHeld ?_
      rotate_left
      · intro w9 hSw; (try dsimp only at hSw); go_simp; try with_reducible rfl
      simp only [Act.put, List.setIfInBounds_toArray, List.set_cons_zero, List.set_cons_succ]
      refine wpAnyH_take (i := 2) (oi := { dst := some 13, op := Op.move (Operand.tmp 4), type := 3, pos := "law.go:14", after := #[], guard := none }) (v := ?_) rfl (by kernel_rfl) (by kernel_rfl) (by kernel_rfl) (fun _ _ _ h => h) (Or.inl ⟨by kernel_rfl, ?_⟩) hHeld ?_
      rotate_left
      · intro w9 hSw; (try dsimp only at hSw); go_simp; try with_reducible rfl
      simp only [Act.put, List.setIfInBounds_toArray, List.set_cons_zero, List.set_cons_succ]
      refine wpAnyH_take (i := 3) (oi := { dst := some 14, op := Op.indexAddr 22 (Operand.tmp 12) (Operand.tmp 13), type := 0, pos := "law.go:14", after := #[{ on := 1, ground := Ground.data }, { on := 2, ground := Ground.data }], guard := none }) (v := ?_) rfl (by kernel_rfl) (by kernel_rfl) (by kernel_rfl) (fun _ _ _ h => h) (Or.inl ⟨by kernel_rfl, ?_⟩) hHeld ?_
      rotate_left
      · intro w9 hSw; (try dsimp only at hSw); go_simp; try with_reducible rfl
      simp only [Act.put, List.setIfInBounds_toArray, List.set_cons_zero, List.set_cons_succ]
      refine wpAnyH_take (i := 4) (oi := { dst := some 15, op := Op.fieldAddr 57 (Operand.tmp 14) 0, type := 0, pos := "law.go:14", after := #[{ on := 3, ground := Ground.data }], guard := none }) (v := ?_) rfl (by kernel_rfl) (by kernel_rfl) (by kernel_rfl) (fun _ _ _ h => h) (Or.inl ⟨by kernel_rfl, ?_⟩) hHeld ?_
      rotate_left
      · intro w9 hSw; (try dsimp only at hSw); go_simp; try with_reducible rfl
      simp only [Act.put, List.setIfInBounds_toArray, List.set_cons_zero, List.set_cons_succ]
      refine wpAnyH_take (i := 5) (oi := { dst := some 16, op := Op.load 3 (Operand.tmp 15), type := 3, pos := "law.go:14", after := #[{ on := 4, ground := Ground.data }], guard := none }) (v := ?_) rfl (by kernel_rfl) (by kernel_rfl) (by kernel_rfl) (fun _ _ _ h => h) (Or.inl ⟨by kernel_rfl, ?_⟩) hHeld ?_
      rotate_left
      · intro w9 hSw; (try dsimp only at hSw); go_simp; try with_reducible rfl
      simp only [Act.put, List.setIfInBounds_toArray, List.set_cons_zero, List.set_cons_succ]
      refine wpAnyH_take (i := 6) (oi := { dst := some 17, op := Op.move (Operand.tmp 0), type := 22, pos := "law.go:14", after := #[], guard := none }) (v := ?_) rfl (by kernel_rfl) (by kernel_rfl) (by kernel_rfl) (fun _ _ _ h => h) (Or.inl ⟨by kernel_rfl, ?_⟩) hHeld ?_
      rotate_left
      · intro w9 hSw; (try dsimp only at hSw); go_simp; try with_reducible rfl
      simp only [Act.put, List.setIfInBounds_toArray, List.set_cons_zero, List.set_cons_succ]
      refine wpAnyH_take (i := 7) (oi := { dst := some 18, op := Op.move (Operand.tmp 4), type := 3, pos := "law.go:14", after := #[], guard := none }) (v := ?_) rfl (by kernel_rfl) (by kernel_rfl) (by kernel_rfl) (fun _ _ _ h => h) (Or.inl ⟨by kernel_rfl, ?_⟩) hHeld ?_
      rotate_left
      · intro w9 hSw; (try dsimp only at hSw); go_simp; try with_reducible rfl
      simp only [Act.put, List.setIfInBounds_toArray, List.set_cons_zero, List.set_cons_succ]
      refine wpAnyH_take (i := 8) (oi := { dst := some 19, op := Op.indexAddr 22 (Operand.tmp 17) (Operand.tmp 18), type := 0, pos := "law.go:14", after := #[{ on := 6, ground := Ground.data }, { on := 7, ground := Ground.data }], guard := none }) (v := ?_) rfl (by kernel_rfl) (by kernel_rfl) (by kernel_rfl) (fun _ _ _ h => h) (Or.inl ⟨by kernel_rfl, ?_⟩) hHeld ?_
      rotate_left
      · intro w9 hSw; (try dsimp only at hSw); go_simp; try with_reducible rfl
      simp only [Act.put, List.setIfInBounds_toArray, List.set_cons_zero, List.set_cons_succ]
      refine wpAnyH_take (i := 9) (oi := { dst := some 20, op := Op.fieldAddr 57 (Operand.tmp 19) 1, type := 0, pos := "law.go:14", after := #[{ on := 8, ground := Ground.data }], guard := none }) (v := ?_) rfl (by kernel_rfl) (by kernel_rfl) (by kernel_rfl) (fun _ _ _ h => h) (Or.inl ⟨by kernel_rfl, ?_⟩) hHeld ?_
      rotate_left
      · intro w9 hSw; (try dsimp only at hSw); go_simp; try with_reducible rfl
      simp only [Act.put, List.setIfInBounds_toArray, List.set_cons_zero, List.set_cons_succ]
      refine wpAnyH_take (i := 10) (oi := { dst := some 21, op := Op.load 3 (Operand.tmp 20), type := 3, pos := "law.go:14", after := #[{ on := 9, ground := Ground.data }], guard := none }) (v := ?_) rfl (by kernel_rfl) (by kernel_rfl) (by kernel_rfl) (fun _ _ _ h => h) (Or.inl ⟨by kernel_rfl, ?_⟩) hHeld ?_
      rotate_left
      · intro w9 hSw; (try dsimp only at hSw); go_simp; try with_reducible rfl
      simp only [Act.put, List.setIfInBounds_toArray, List.set_cons_zero, List.set_cons_succ]
      refine wpAnyH_take (i := 11) (oi := { dst := some 22, op := Op.build 49 #[(0, Operand.tmp 16), (1, Operand.tmp 21)], type := 49, pos := "law.go:14", after := #[{ on := 5, ground := Ground.data }, { on := 10, ground := Ground.data }], guard := none }) (v := ?_) rfl (by kernel_rfl) (by kernel_rfl) (by kernel_rfl) (fun _ _ _ h => h) (Or.inl ⟨by kernel_rfl, ?_⟩) hHeld ?_
      rotate_left
      · intro w9 hSw; (try dsimp only at hSw); go_simp; try with_reducible rfl
      simp only [Act.put, List.setIfInBounds_toArray, List.set_cons_zero, List.set_cons_succ]
      refine wpAnyH_ready (rs := [12]) (by kernel_rfl) (by simp) ?_
      refine AllReadyH.cons (o := { dst := some 23, op := Op.buildSlice 24 1 #[(0, Operand.tmp 22)], type := 24, pos := "law.go:14", after := #[{ on := 11, ground := Ground.data }], guard := none }) rfl (fun K hK => ?_) AllReadyH.nil
      go_simp
      skip
      refine hK.out _ _ (⟨(((below_one wr (.cells #[.int .i64 y.d, .int .i64 y.t] 49)).drew).cell (p := ⟨xb, _, none⟩) hbl).trans f0, (((below_one wr (.cells #[.int .i64 y.d, .int .i64 y.t] 49)).drew).cell (p := ⟨xb, _, none⟩) hbl).trans f1⟩) (fun hHeld => ?_)
      clear hK K
      try simp only [Act.put, List.setIfInBounds_toArray, List.set_cons_zero, List.set_cons_succ]
      refine wpAnyH_ready (rs := [13]) (by kernel_rfl) (by simp) ?_
      refine AllReadyH.cons (o := { dst := some 24, op := Op.call { callee := Callee.builtin Builtin.append, args := #[Operand.tmp 11, Operand.tmp 23], argTypes := #[24, 24] }, type := 24, pos := "law.go:14", after := #[{ on := 0, ground := Ground.data }, { on := 12, ground := Ground.data }], guard := none }) rfl (fun K hK => ?_) AllReadyH.nil
      refine step_appN ntT (W := w) rfl (.tmp 11) (.tmp 23) rfl rfl rfl ((HO.out.grow (below_one wr (.cells #[.int .i64 y.d, .int .i64 y.t] 49))).grow (Below.refl _ _).drew) ((Nps.new1 wr 49 y).drew) (by omega) ?_; intro A3 c3 w3 hw3; have HW := Lib.hid hw3; have HBW := Lib.hid (below_then HO.out.below (Below.refl wr.heap.size wr)); clear hw3
      refine hK.out _ _ (⟨(HW.out.below.cell (p := ⟨xb, _, none⟩) hbw).trans e0, (HW.out.below.cell (p := ⟨xb, _, none⟩) hbw).trans e1⟩) (fun hHeld => ?_)
      clear hK K
      try simp only [Act.put, List.setIfInBounds_toArray, List.set_cons_zero, List.set_cons_succ]
      refine wpAnyH_take (i := 14) (oi := { dst := some 3, op := Op.assign (Operand.tmp 24), type := 24, pos := "law.go:14", after := #[{ on := 13, ground := Ground.data }, { on := 13, ground := Ground.chain }, { on := 0, ground := Ground.phase }, { on := 1, ground := Ground.phase }, { on := 2, ground := Ground.phase }, { on := 3, ground := Ground.phase }, { on := 4, ground := Ground.phase }, { on := 5, ground := Ground.phase }, { on := 6, ground := Ground.phase }, { on := 7, ground := Ground.phase }, { on := 8, ground := Ground.phase }, { on := 9, ground := Ground.phase }, { on := 10, ground := Ground.phase }, { on := 11, ground := Ground.phase }, { on := 12, ground := Ground.phase }, { on := 13, ground := Ground.phase }], guard := none }) (v := ?_) rfl (by kernel_rfl) (by kernel_rfl) (by kernel_rfl) (fun _ _ _ h => h) (Or.inl ⟨by kernel_rfl, ?_⟩) hHeld ?_
      rotate_left
      · intro w9 hSw; (try dsimp only at hSw); go_simp; try with_reducible rfl
      simp only [Act.put, List.setIfInBounds_toArray, List.set_cons_zero, List.set_cons_succ]
      refine wpAnyH_done (by kernel_rfl) ?_ _
      go_wp2
      go_roundw
      case rel => exact ⟨j + 1, A3, c3, by omega, by go_num, by go_num, by rw [HX.out]; exact HW.out⟩
      case measure => simp [intOf]; omega
    · obtain rfl : j = n := by omega
      go_wp2
      go_ret
      have hO := HO.out
      rw [List.take_of_length_le (by rw [HL.out]; exact Nat.le_refl _)] at hO
      exact ⟨A', c', rfl, hO.nps, hO.below⟩

set_option maxHeartbeats 2000000 in
theorem slept_is (A : Option Addr) (n c : Nat) (l : List Np) (w : World) (hn : n ≤ 1000) (h : Nps w A n c l) :
    Calls Try.prog 18 #[.slice A n c] w fun e w' => ∃ A' c', e = .returned (.slice A' n c') ∧ Nps w' A' n c' l ∧ Below w.heap.size w w' := by
  have H := Lib.hid h
  have HL := Lib.hid h.len
  clear h
  go_enter Try.func18, Try.ntmps18
  go_upto_region 3 with (fail)
  go_loopw [3, 4] (fun v i wr => ∃ (j : Nat) (A' : Option Addr) (c' : Nat), j ≤ n ∧ i = .int .i64 j ∧ v = .slice A' j c' ∧ OwnN 57 w wr A' j c' (l.take j)) (fun _ i _ => ((n : Int) - intOf i).toNat)
  case atStart => exact ⟨0, none, 0, by omega, rfl, rfl, OwnN.nil _ _⟩
  case round =>
    obtain ⟨j, A', c', hj, rfl, rfl, hO⟩ := hrel
    have HO := Lib.hid hO
    clear hO
    by_cases hlt : j < n
    · have hjl : j < l.length := by rw [HL.out]; exact hlt
      obtain ⟨xb, xo, rfl, hbw, e0, e1⟩ := H.out.at_ j hlt
      have hbl : xb < wr.heap.size := Nat.lt_of_lt_of_le hbw HO.out.below.size
      have HX := Lib.hid (ntake_snoc l j hjl)
      obtain ⟨y, hy⟩ : ∃ y, l.getD j nz = y := ⟨_, rfl⟩
      rw [hy] at e0 e1 HX
      have f0 := (HO.out.below.cell (p := ⟨xb, xo + j * 2, none⟩) hbw).trans e0
      have f1 := (HO.out.below.cell (p := ⟨xb, xo + j * 2 + 1, none⟩) hbw).trans e1
      have hk0 : (0 : Int) ≤ (j : Int) := by omega
      have hkn : (j : Int) < (n : Int) := by omega
      clear hy
      go_upto_region 5 with (fail)
      have hHeld0 : (fun w9 => w9.cell? ⟨xb, xo + j * 2, none⟩ = some (.int .i64 y.d) ∧ w9.cell? ⟨xb, xo + j * 2 + 1, none⟩ = some (.int .i64 y.t)) wr.drew := ⟨f0, f1⟩
      refine wp_region_held_drew (S := fun w9 => w9.cell? ⟨xb, xo + j * 2, none⟩ = some (.int .i64 y.d) ∧ w9.cell? ⟨xb, xo + j * 2 + 1, none⟩ = some (.int .i64 y.t)) (by kernel_rfl) hHeld0 (fun hHeld => ?_)
      clear hHeld0
      refine wpAnyH_take (i := 0) (oi := { dst := some 11, op := Op.move (Operand.tmp 3), type := 22, pos := "law.go:22", after := #[], guard := none }) (v := ?_) rfl (by kernel_rfl) (by kernel_rfl) (by kernel_rfl) (fun _ _ _ h => h) (Or.inl ⟨by kernel_rfl, ?_⟩) hHeld ?_
      rotate_left
      · intro w9 hSw; (try dsimp only at hSw); go_simp; try with_reducible rfl
      simp only [Act.put, List.setIfInBounds_toArray, List.set_cons_zero, List.set_cons_succ]
      refine wpAnyH_take (i := 1) (oi := { dst := some 12, op := Op.move (Operand.tmp 0), type := 24, pos := "law.go:22", after := #[], guard := none }) (v := ?_) rfl (by kernel_rfl) (by kernel_rfl) (by kernel_rfl) (fun _ _ _ h => h) (Or.inl ⟨by kernel_rfl, ?_⟩) hHeld ?_
      rotate_left
      · intro w9 hSw; (try dsimp only at hSw); go_simp; try with_reducible rfl
      simp only [Act.put, List.setIfInBounds_toArray, List.set_cons_zero, List.set_cons_succ]
      refine wpAnyH_take (i := 2) (oi := { dst := some 13, op := Op.move (Operand.tmp 4), type := 3, pos := "law.go:22", after := #[], guard := none }) (v := ?_) rfl (by kernel_rfl) (by kernel_rfl) (by kernel_rfl) (fun _ _ _ h => h) (Or.inl ⟨by kernel_rfl, ?_⟩) hHeld ?_
      rotate_left
      · intro w9 hSw; (try dsimp only at hSw); go_simp; try with_reducible rfl
      simp only [Act.put, List.setIfInBounds_toArray, List.set_cons_zero, List.set_cons_succ]
      refine wpAnyH_take (i := 3) (oi := { dst := some 14, op := Op.indexAddr 24 (Operand.tmp 12) (Operand.tmp 13), type := 0, pos := "law.go:22", after := #[{ on := 1, ground := Ground.data }, { on := 2, ground := Ground.data }], guard := none }) (v := ?_) rfl (by kernel_rfl) (by kernel_rfl) (by kernel_rfl) (fun _ _ _ h => h) (Or.inl ⟨by kernel_rfl, ?_⟩) hHeld ?_
      rotate_left
      · intro w9 hSw; (try dsimp only at hSw); go_simp; try with_reducible rfl
      simp only [Act.put, List.setIfInBounds_toArray, List.set_cons_zero, List.set_cons_succ]
      refine wpAnyH_take (i := 4) (oi := { dst := some 15, op := Op.fieldAddr 49 (Operand.tmp 14) 0, type := 0, pos := "law.go:22", after := #[{ on := 3, ground := Ground.data }], guard := none }) (v := ?_) rfl (by kernel_rfl) (by kernel_rfl) (by kernel_rfl) (fun _ _ _ h => h) (Or.inl ⟨by kernel_rfl, ?_⟩) hHeld ?_
      rotate_left
      · intro w9 hSw; (try dsimp only at hSw); go_simp; try with_reducible rfl
      simp only [Act.put, List.setIfInBounds_toArray, List.set_cons_zero, List.set_cons_succ]
      refine wpAnyH_take (i := 5) (oi := { dst := some 16, op := Op.load 3 (Operand.tmp 15), type := 3, pos := "law.go:22", after := #[{ on := 4, ground := Ground.data }], guard := none }) (v := ?_) rfl (by kernel_rfl) (by kernel_rfl) (by kernel_rfl) (fun _ _ _ h => h) (Or.inl ⟨by kernel_rfl, ?_⟩) hHeld ?_
      rotate_left
      · intro w9 hSw; (try dsimp only at hSw); go_simp; try with_reducible rfl
      simp only [Act.put, List.setIfInBounds_toArray, List.set_cons_zero, List.set_cons_succ]
      refine wpAnyH_take (i := 6) (oi := { dst := some 17, op := Op.move (Operand.tmp 0), type := 24, pos := "law.go:22", after := #[], guard := none }) (v := ?_) rfl (by kernel_rfl) (by kernel_rfl) (by kernel_rfl) (fun _ _ _ h => h) (Or.inl ⟨by kernel_rfl, ?_⟩) hHeld ?_
      rotate_left
      · intro w9 hSw; (try dsimp only at hSw); go_simp; try with_reducible rfl
      simp only [Act.put, List.setIfInBounds_toArray, List.set_cons_zero, List.set_cons_succ]
      refine wpAnyH_take (i := 7) (oi := { dst := some 18, op := Op.move (Operand.tmp 4), type := 3, pos := "law.go:22", after := #[], guard := none }) (v := ?_) rfl (by kernel_rfl) (by kernel_rfl) (by kernel_rfl) (fun _ _ _ h => h) (Or.inl ⟨by kernel_rfl, ?_⟩) hHeld ?_
      rotate_left
      · intro w9 hSw; (try dsimp only at hSw); go_simp; try with_reducible rfl
      simp only [Act.put, List.setIfInBounds_toArray, List.set_cons_zero, List.set_cons_succ]
      refine wpAnyH_take (i := 8) (oi := { dst := some 19, op := Op.indexAddr 24 (Operand.tmp 17) (Operand.tmp 18), type := 0, pos := "law.go:22", after := #[{ on := 6, ground := Ground.data }, { on := 7, ground := Ground.data }], guard := none }) (v := ?_) rfl (by kernel_rfl) (by kernel_rfl) (by kernel_rfl) (fun _ _ _ h => h) (Or.inl ⟨by kernel_rfl, ?_⟩) hHeld ?_
      rotate_left
      · intro w9 hSw; (try dsimp only at hSw); go_simp; try with_reducible rfl
      simp only [Act.put, List.setIfInBounds_toArray, List.set_cons_zero, List.set_cons_succ]
      refine wpAnyH_take (i := 9) (oi := { dst := some 20, op := Op.fieldAddr 49 (Operand.tmp 19) 1, type := 0, pos := "law.go:22", after := #[{ on := 8, ground := Ground.data }], guard := none }) (v := ?_) rfl (by kernel_rfl) (by kernel_rfl) (by kernel_rfl) (fun _ _ _ h => h) (Or.inl ⟨by kernel_rfl, ?_⟩) hHeld ?_
      rotate_left
      · intro w9 hSw; (try dsimp only at hSw); go_simp; try with_reducible rfl
      simp only [Act.put, List.setIfInBounds_toArray, List.set_cons_zero, List.set_cons_succ]
      refine wpAnyH_take (i := 10) (oi := { dst := some 21, op := Op.load 3 (Operand.tmp 20), type := 3, pos := "law.go:22", after := #[{ on := 9, ground := Ground.data }], guard := none }) (v := ?_) rfl (by kernel_rfl) (by kernel_rfl) (by kernel_rfl) (fun _ _ _ h => h) (Or.inl ⟨by kernel_rfl, ?_⟩) hHeld ?_
      rotate_left
      · intro w9 hSw; (try dsimp only at hSw); go_simp; try with_reducible rfl
      simp only [Act.put, List.setIfInBounds_toArray, List.set_cons_zero, List.set_cons_succ]
      refine wpAnyH_take (i := 11) (oi := { dst := some 22, op := Op.build 57 #[(0, Operand.tmp 16), (1, Operand.tmp 21)], type := 57, pos := "law.go:22", after := #[{ on := 5, ground := Ground.data }, { on := 10, ground := Ground.data }], guard := none }) (v := ?_) rfl (by kernel_rfl) (by kernel_rfl) (by kernel_rfl) (fun _ _ _ h => h) (Or.inl ⟨by kernel_rfl, ?_⟩) hHeld ?_
      rotate_left
      · intro w9 hSw; (try dsimp only at hSw); go_simp; try with_reducible rfl
      simp only [Act.put, List.setIfInBounds_toArray, List.set_cons_zero, List.set_cons_succ]
      refine wpAnyH_ready (rs := [12]) (by kernel_rfl) (by simp) ?_
      refine AllReadyH.cons (o := { dst := some 23, op := Op.buildSlice 22 1 #[(0, Operand.tmp 22)], type := 22, pos := "law.go:22", after := #[{ on := 11, ground := Ground.data }], guard := none }) rfl (fun K hK => ?_) AllReadyH.nil
      go_simp
      skip
      refine hK.out _ _ (⟨(((below_one wr (.cells #[.int .i64 y.d, .int .i64 y.t] 57)).drew).cell (p := ⟨xb, _, none⟩) hbl).trans f0, (((below_one wr (.cells #[.int .i64 y.d, .int .i64 y.t] 57)).drew).cell (p := ⟨xb, _, none⟩) hbl).trans f1⟩) (fun hHeld => ?_)
      clear hK K
      try simp only [Act.put, List.setIfInBounds_toArray, List.set_cons_zero, List.set_cons_succ]
      refine wpAnyH_ready (rs := [13]) (by kernel_rfl) (by simp) ?_
      refine AllReadyH.cons (o := { dst := some 24, op := Op.call { callee := Callee.builtin Builtin.append, args := #[Operand.tmp 11, Operand.tmp 23], argTypes := #[22, 22] }, type := 22, pos := "law.go:22", after := #[{ on := 0, ground := Ground.data }, { on := 12, ground := Ground.data }], guard := none }) rfl (fun K hK => ?_) AllReadyH.nil
      refine step_appN ntR (W := w) rfl (.tmp 11) (.tmp 23) rfl rfl rfl ((HO.out.grow (below_one wr (.cells #[.int .i64 y.d, .int .i64 y.t] 57))).grow (Below.refl _ _).drew) ((Nps.new1 wr 57 y).drew) (by omega) ?_; intro A3 c3 w3 hw3; have HW := Lib.hid hw3; have HBW := Lib.hid (below_then HO.out.below (Below.refl wr.heap.size wr)); clear hw3
      refine hK.out _ _ (⟨(HW.out.below.cell (p := ⟨xb, _, none⟩) hbw).trans e0, (HW.out.below.cell (p := ⟨xb, _, none⟩) hbw).trans e1⟩) (fun hHeld => ?_)
      clear hK K
      try simp only [Act.put, List.setIfInBounds_toArray, List.set_cons_zero, List.set_cons_succ]
      refine wpAnyH_take (i := 14) (oi := { dst := some 3, op := Op.assign (Operand.tmp 24), type := 22, pos := "law.go:22", after := #[{ on := 13, ground := Ground.data }, { on := 13, ground := Ground.chain }, { on := 0, ground := Ground.phase }, { on := 1, ground := Ground.phase }, { on := 2, ground := Ground.phase }, { on := 3, ground := Ground.phase }, { on := 4, ground := Ground.phase }, { on := 5, ground := Ground.phase }, { on := 6, ground := Ground.phase }, { on := 7, ground := Ground.phase }, { on := 8, ground := Ground.phase }, { on := 9, ground := Ground.phase }, { on := 10, ground := Ground.phase }, { on := 11, ground := Ground.phase }, { on := 12, ground := Ground.phase }, { on := 13, ground := Ground.phase }], guard := none }) (v := ?_) rfl (by kernel_rfl) (by kernel_rfl) (by kernel_rfl) (fun _ _ _ h => h) (Or.inl ⟨by kernel_rfl, ?_⟩) hHeld ?_
      rotate_left
      · intro w9 hSw; (try dsimp only at hSw); go_simp; try with_reducible rfl
      simp only [Act.put, List.setIfInBounds_toArray, List.set_cons_zero, List.set_cons_succ]
      refine wpAnyH_done (by kernel_rfl) ?_ _
      go_wp2
      go_roundw
      case rel => exact ⟨j + 1, A3, c3, by omega, by go_num, by go_num, by rw [HX.out]; exact HW.out⟩
      case measure => simp [intOf]; omega
    · obtain rfl : j = n := by omega
      go_wp2
      go_ret
      have hO := HO.out
      rw [List.take_of_length_le (by rw [HL.out]; exact Nat.le_refl _)] at hO
      exact ⟨A', c', rfl, hO.nps, hO.below⟩

end Go.Proofs.Ytpkfmbknbdlnpaa
