/-
  What Find, Add, Code and Base answer, by package dict.
-/
import Derived.Test.YtkpomphjicoaeaaDictLoops
import Derived.Test.YtkpomphjicoaeaaDictSane
namespace Go.Proofs.Ytkpomphjicoaeaa
open Go.RowKit

theorem emp_no {S : ByteArray} (h : ¬ S.size = 0) : (S.toList == []) = false := by
  rw [toL]
  have : S.data.toList ≠ [] := fun e => h (by rw [← len_size, e]; rfl)
  simpa using this
theorem emp_yes {S : ByteArray} (h : S.size = 0) : S = ⟨#[]⟩ := by
  apply bytes_ext
  have : S.data.toList.length = 0 := by rw [len_size]; exact h
  rw [List.eq_nil_of_length_eq_zero this]
def FindPost (o : Option Nat) (w : World) (e : Ending) (w' : World) : Prop := e = .returned (.tuple #[.int .i64 (dV o), .bool o.isSome]) ∧ Below w.heap.size w w'
set_option maxHeartbeats 1000000 in
theorem find_any (A : Option Addr) (n c : Nat) (l : List En) (S : ByteArray) (o : Option Nat) (w : World) (hn : n ≤ 100000) (hs : S.size ≤ 2000) (h : Ens w A n c l) (ho : dF l S = o) :
    Calls Try.prog 11 #[.slice A n c, .string S] w (FindPost o w) := by
  unfold dF at ho
  by_cases h0 : S.size = 0
  · rw [if_pos h0] at ho
    subst ho
    obtain rfl := emp_yes h0
    clear h h0 hs
    go_enter Try.func11, Try.ntmps11
    go_wp2
    go_ret2
    exact ⟨rfl, Below.refl _ _⟩
  · rw [if_neg h0, h.len] at ho
    have g0 := emp_no h0
    have H := Lib.hid h
    obtain ⟨T, hT⟩ : ∃ T, up S = T := ⟨_, rfl⟩
    have HT := Lib.hid hT
    rw [hT] at ho
    have HO := Lib.hid ho
    clear h h0 hT ho
    go_enter Try.func11, Try.ntmps11
    go_wp2_with (go_at_call 31; refine (upperS_is _ _ hs HT.out _).mono ?_; rintro e w1 ⟨rfl, hb1⟩; have HB := Lib.hid hb1; clear hb1)
    go_loop [6] (fun i => ∃ z : Int, i = .int .i64 z ∧ -1 ≤ z ∧ z < (n : Int) ∧ dG l T (z + 1).toNat = dG l T n) (fun i => (intOf i + 1).toNat)
    case atStart => exact ⟨(n : Int) - 1, rfl, by omega, by omega, by rw [show ((n : Int) - 1 + 1).toNat = n by omega]⟩
    case round =>
      obtain ⟨z, rfl, hz, hz2, hg⟩ := hrel
      have HG := Lib.hid hg
      clear hg
      by_cases hp : 0 ≤ z
      · obtain ⟨q, rfl⟩ : ∃ q : Nat, z = (q : Int) := ⟨z.toNat, by omega⟩
        have hq : q < n := by omega
        obtain ⟨xb, xo, rfl, hbl, f0, f1, f2, f3, f4, f5⟩ := (H.out.below HB.out).at_ q hq
        have HY := Lib.hid (fun h => dG_yes (l := l) (U := T) (n := q) h)
        have HN := Lib.hid (fun h => dG_no (l := l) (U := T) (n := q) h)
        generalize l.getD q e0 = e at *
        obtain ⟨R, m, k, v, t, p⟩ := e
        simp only at f0 f1 f2 f3 f4 f5
        cases he : nEq R T
        · have g := nEq_toL he
          have HX : Hid (dG l T ((q : Int) - 1 + 1).toNat = dG l T n) := Lib.hid (by rw [show ((q : Int) - 1 + 1).toNat = q by omega, ← HG.out, show ((q : Int) + 1).toNat = q + 1 by omega, HN.out he])
          clear he
          go_wp2
          go_round
          case rel => exact ⟨(q : Int) - 1, rfl, by omega, by omega, HX.out⟩
          case measure => simp [intOf] <;> omega
        · have g := nEq_toL he
          have HX : Hid (o = some q) := Lib.hid (by rw [← HO.out, ← HG.out, show ((q : Int) + 1).toNat = q + 1 by omega, HY.out he])
          clear he
          go_wp2
          go_ret2
          exact ⟨by rw [HX.out]; rfl, HB.out⟩
      · obtain rfl : z = -1 := by omega
        have HX : Hid (o = none) := Lib.hid (by rw [← HO.out, ← HG.out]; rfl)
        go_wp2
        go_ret2
        exact ⟨by rw [HX.out]; rfl, HB.out⟩

def AddPost (l : List En) (e : En) (w : World) (x : Ending) (w' : World) : Prop :=
  ∃ A c, x = .returned (.tuple #[.slice A (adL l e).length c, .int .i64 (adE l e)]) ∧ Ens w' A (adL l e).length c (adL l e) ∧ Below w.heap.size w w'
theorem row2 (w : World) (x y : Sl) (g : Nat) (hg : w.heap.size = g) : (w.alloc (.cells #[.slice x.A x.n x.c, .slice y.A y.n y.c] 31)).heap[g]? = some (.cells (([x, y] : List Sl).map Sl.val).toArray 31 (0, 0)) := by
  subst hg
  show (w.heap.push _)[w.heap.size]? = _
  rw [Array.getElem?_push, if_pos rfl]
  rfl
theorem concat2_any (A : Option Addr) (n c : Nat) (l : List En) (e : En) (w : World) (hn : n ≤ 90000) (h : Ens w A n c l) :
    Calls Try.prog 34 #[.slice (some ⟨w.heap.size + 1, 0, none⟩) 2 2]
      ((w.alloc (.cells #[.string e.s, .bool e.m, .int .i64 e.k, .int .i64 e.v, .int .i64 e.t, .int .i64 e.p] 37)).alloc (.cells #[.slice A n c, .slice (some ⟨w.heap.size, 0, none⟩) 1 1] 31))
      fun x w' => ∃ A' c', x = .returned (.slice A' (n + 1) c') ∧ Ens w' A' (n + 1) c' (l ++ [e]) ∧ Below w.heap.size w w' := by
  have hr := row2 (w.alloc (.cells #[.string e.s, .bool e.m, .int .i64 e.k, .int .i64 e.v, .int .i64 e.t, .int .i64 e.p] 37)) ⟨A, n, c, l⟩ ⟨some ⟨w.heap.size, 0, none⟩, 1, 1, [e]⟩ (w.heap.size + 1) (by simp)
  have h1 := Ens.new1 w 37 e
  have hb : Below w.heap.size w ((w.alloc (.cells #[.string e.s, .bool e.m, .int .i64 e.k, .int .i64 e.v, .int .i64 e.t, .int .i64 e.p] 37)).alloc (.cells #[.slice A n c, .slice (some ⟨w.heap.size, 0, none⟩) 1 1] 31)) := two_new _ _ _
  refine (concatE_any (w.heap.size + 1) [⟨A, n, c, l⟩, ⟨some ⟨w.heap.size, 0, none⟩, 1, 1, [e]⟩] 2 _ rfl hr ?_ (by simp [tot]; omega) (by omega)).mono ?_
  · intro k hk
    match k, hk with
    | 0, _ => exact (h.alloc _).alloc _
    | 1, _ => exact h1.alloc _
  · rintro x w' ⟨A', c', rfl, ho⟩
    have e1 : tot [⟨A, n, c, l⟩, ⟨some ⟨w.heap.size, 0, none⟩, 1, 1, [e]⟩] = n + 1 := by simp [tot]
    have e2 : allL [⟨A, n, c, l⟩, ⟨some ⟨w.heap.size, 0, none⟩, 1, 1, [e]⟩] = l ++ [e] := by simp [allL]
    rw [e1, e2] at ho
    exact ⟨A', c', by rw [e1], ho.ens, below_then hb ho.below⟩
set_option maxHeartbeats 2000000 in
theorem add_any (A : Option Addr) (n c : Nat) (l : List En) (S : ByteArray) (m : Bool) (k v t p : Int) (w : World) (hn : n ≤ 90000) (hs : S.size ≤ 2000) (h : Ens w A n c l) :
    Calls Try.prog 14 #[.slice A n c, .agg #[.string S, .bool m, .int .i64 k, .int .i64 v, .int .i64 t, .int .i64 p]] w (AddPost l ⟨S, m, k, v, t, p⟩ w) := by
  obtain ⟨T, hT⟩ : ∃ T, up S = T := ⟨_, rfl⟩
  have HT := Lib.hid hT
  have hTz : T.size ≤ 2000 := by rw [← hT, up_size]; exact hs
  obtain ⟨x, hx⟩ : ∃ x, adE l ⟨S, m, k, v, t, p⟩ = x := ⟨_, rfl⟩
  obtain ⟨L, hL⟩ : ∃ L, adL l ⟨S, m, k, v, t, p⟩ = L := ⟨_, rfl⟩
  unfold AddPost
  rw [hx, hL]
  have hx2 := hx
  have hl := h.len
  unfold adL at hL
  rw [hx] at hL
  unfold adE aU at hx
  simp only [hT] at hx hL
  have hN1 : nmB S = nmB T := by rw [← hT, nmB_up]
  rw [hN1] at hx
  unfold aU at hL
  simp only [hT] at hL
  clear hT hx2 hN1
  have H := Lib.hid h
  have HL0 := Lib.hid hl
  have X0 := Lib.hid (Ev.new w 37 ⟨S, m, k, v, t, p⟩)
  have HB0 := Lib.hid (below_one w (.cells #[.string S, .bool m, .int .i64 k, .int .i64 v, .int .i64 t, .int .i64 p] 37))
  clear h
  cases h1 : nmB T
  · have H1 := Lib.hid h1
    rw [if_pos h1] at hx
    subst hx
    rw [if_neg (by omega)] at hL
    subst hL
    clear h1 hl
    go_enter Try.func14, Try.ntmps14
    go_wp2_with (first
      | (go_at_call 31; refine (upperS_is _ _ hs HT.out _).mono ?_; rintro e w1 ⟨rfl, hb1⟩; have HB := Lib.hid (below_then HB0.out hb1); have X1 := Lib.hid (X0.out.keep hb1); clear hb1; have hf := X1.out.f 0; have hlt := X1.out.lt; have c0 := X1.out.c0)
      | (go_at_call 33; refine (mayName_is _ _ H1.out _).mono ?_; rintro e w2 ⟨rfl, rfl⟩))
    go_ret2
    exact ⟨A, c, by rw [HL0.out]; rfl, by rw [HL0.out]; exact H.out.below (HB.out.setCell (Nat.le_refl _) _), HB.out.setCell (Nat.le_refl _) _⟩
  · have H1 := Lib.hid h1
    rw [if_neg (by rw [h1]; decide)] at hx
    cases h2 : saneB ⟨T, m, k, v, t, p⟩
    · have H2 := Lib.hid h2
      rw [if_pos h2] at hx
      subst hx
      rw [if_neg (by omega)] at hL
      subst hL
      clear h1 h2 hl
      go_enter Try.func14, Try.ntmps14
      go_wp2_with (first
        | (go_at_call 31; refine (upperS_is _ _ hs HT.out _).mono ?_; rintro e w1 ⟨rfl, hb1⟩; have HB := Lib.hid (below_then HB0.out hb1); have X1 := Lib.hid (X0.out.keep hb1); clear hb1; have hf := X1.out.f 0; have hlt := X1.out.lt; have c0 := X1.out.c0)
        | (go_at_call 33; refine (mayName_is _ _ H1.out _).mono ?_; rintro e w2 ⟨rfl, rfl⟩; have X2 := Lib.hid (X1.out.setS T); have d0 := X2.out.c0; have d1 := X2.out.c1; have d2 := X2.out.c2; have d3 := X2.out.c3; have d4 := X2.out.c4; have d5 := X2.out.c5; have hlt2 := X2.out.lt; have HB2 := Lib.hid (HB.out.setCell (p := ⟨w.heap.size, 0, none⟩) (Nat.le_refl _) (.string T)))
        | (go_at_call 26; refine (sane_is _ _ _ _ _ _ _ hTz H2.out _).mono ?_; rintro e w3 ⟨rfl, hb3⟩; have HB3 := Lib.hid (below_then HB2.out hb3); clear hb3))
      go_ret2
      exact ⟨A, c, by rw [HL0.out]; rfl, by rw [HL0.out]; exact H.out.below HB3.out, HB3.out⟩
    · have H2 := Lib.hid h2
      rw [if_neg (by rw [h2]; decide)] at hx
      by_cases h3 : 512 ≤ l.length
      · rw [if_pos h3] at hx
        subst hx
        rw [if_neg (by omega)] at hL
        subst hL
        have g3 : decide ((512 : Int) ≤ (n : Int)) = true := by simp; omega
        clear h1 h2 hl h3
        go_enter Try.func14, Try.ntmps14
        go_wp2_with (first
          | (go_at_call 31; refine (upperS_is _ _ hs HT.out _).mono ?_; rintro e w1 ⟨rfl, hb1⟩; have HB := Lib.hid (below_then HB0.out hb1); have X1 := Lib.hid (X0.out.keep hb1); clear hb1; have hf := X1.out.f 0; have hlt := X1.out.lt; have c0 := X1.out.c0)
          | (go_at_call 33; refine (mayName_is _ _ H1.out _).mono ?_; rintro e w2 ⟨rfl, rfl⟩; have X2 := Lib.hid (X1.out.setS T); have d0 := X2.out.c0; have d1 := X2.out.c1; have d2 := X2.out.c2; have d3 := X2.out.c3; have d4 := X2.out.c4; have d5 := X2.out.c5; have hlt2 := X2.out.lt; have HB2 := Lib.hid (HB.out.setCell (p := ⟨w.heap.size, 0, none⟩) (Nat.le_refl _) (.string T)))
          | (go_at_call 26; refine (sane_is _ _ _ _ _ _ _ hTz H2.out _).mono ?_; rintro e w3 ⟨rfl, hb3⟩; have HB3 := Lib.hid (below_then HB2.out hb3); clear hb3))
        go_ret2
        exact ⟨A, c, by rw [HL0.out]; rfl, by rw [HL0.out]; exact H.out.below HB3.out, HB3.out⟩
      · rw [if_neg h3] at hx
        subst hx
        rw [if_pos rfl] at hL
        subst hL
        have g3 : decide ((512 : Int) ≤ (n : Int)) = false := by simp; omega
        clear h1 h2 h3
        have HL1 : Hid ((l ++ [(⟨T, m, k, v, t, p⟩ : En)]).length = n + 1) := Lib.hid (by simp [hl])
        rw [HL1.out]
        clear hl
        go_enter Try.func14, Try.ntmps14
        go_wp2_with (first
          | (go_at_call 31; refine (upperS_is _ _ hs HT.out _).mono ?_; rintro e w1 ⟨rfl, hb1⟩; have HB := Lib.hid (below_then HB0.out hb1); have X1 := Lib.hid (X0.out.keep hb1); clear hb1; have hf := X1.out.f 0; have hlt := X1.out.lt; have c0 := X1.out.c0)
          | (go_at_call 33; refine (mayName_is _ _ H1.out _).mono ?_; rintro e w2 ⟨rfl, rfl⟩; have X2 := Lib.hid (X1.out.setS T); have d0 := X2.out.c0; have d1 := X2.out.c1; have d2 := X2.out.c2; have d3 := X2.out.c3; have d4 := X2.out.c4; have d5 := X2.out.c5; have hlt2 := X2.out.lt; have HB2 := Lib.hid (HB.out.setCell (p := ⟨w.heap.size, 0, none⟩) (Nat.le_refl _) (.string T)))
          | (go_at_call 26; refine (sane_is _ _ _ _ _ _ _ hTz H2.out _).mono ?_; rintro e w3 ⟨rfl, hb3⟩; have HB3 := Lib.hid (below_then HB2.out hb3); have X3 := Lib.hid (X2.out.keep hb3); clear hb3 d0 d1 d2 d3 d4 d5; have d0 := X3.out.c0; have d1 := X3.out.c1; have d2 := X3.out.c2; have d3 := X3.out.c3; have d4 := X3.out.c4; have d5 := X3.out.c5; have hlt3 := X3.out.lt; have HL3 := Lib.hid (H.out.below HB3.out))
          | (go_at_call 34; refine (concat2_any A n c l ⟨T, m, k, v, t, p⟩ w3 hn HL3.out).mono ?_; rintro e w4 ⟨A4, c4, rfl, hl4, hb4⟩; have HL4 := Lib.hid hl4; have HB4 := Lib.hid (below_then HB3.out hb4); clear hl4 hb4))
        go_ret2
        exact ⟨A4, c4, rfl, HL4.out, HB4.out⟩
end Go.Proofs.Ytkpomphjicoaeaa
