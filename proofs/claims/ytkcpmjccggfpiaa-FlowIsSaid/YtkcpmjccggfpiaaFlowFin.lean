/-
  What package flow's calls answer at any thread that is built: End, Whole. Two pairs are one, or not, as Go compares structs; two lists of pairs; two threads.
-/
import Derived.Test.YtkcpmjccggfpiaaFlowDoes
import Derived.Laws.StructEq
namespace Go.Proofs.Ytkcpmjccggfpiaa
open Go.RowKit

theorem eqPI (w : World) (a b c d : Int) : (binOp .eql 53 (.agg #[.int .i64 a, .int .i64 b]) (.agg #[.int .i64 c, .int .i64 d])).run Try.prog w = .ok (.bool (a == c && b == d)) w := by
  have u3 := Try.underlying3
  have a3 := Try.isAgg3
  have z3 := Try.sizeOf3
  have hS : Try.prog.underlying 53 = some (.struct (Try.prog.fieldsOf 53)) := by kernel_rfl
  have hp : Try.prog.stoodInHeld 53 = false := by kernel_rfl
  rw [run_eql_struct, show (10000 : Nat) = 9999 + 1 from rfl, run_equalIn_agg w 9999 53 _ _ hS hp]
  simp only [Program.fieldsOf, Try.underlying53]
  go_simp
  by_cases h1 : a = c <;> by_cases h2 : b = d <;> simp [h1, h2]
theorem nePI (w : World) (a b c d : Int) : (binOp .neq 53 (.agg #[.int .i64 a, .int .i64 b]) (.agg #[.int .i64 c, .int .i64 d])).run Try.prog w = .ok (.bool (!(a == c && b == d))) w := by
  have u3 := Try.underlying3
  have a3 := Try.isAgg3
  have z3 := Try.sizeOf3
  have hS : Try.prog.underlying 53 = some (.struct (Try.prog.fieldsOf 53)) := by kernel_rfl
  have hp : Try.prog.stoodInHeld 53 = false := by kernel_rfl
  rw [run_neq_struct, show (10000 : Nat) = 9999 + 1 from rfl, run_equalIn_agg w 9999 53 _ _ hS hp]
  simp only [Program.fieldsOf, Try.underlying53]
  go_simp
  by_cases h1 : a = c <;> by_cases h2 : b = d <;> simp [h1, h2]
theorem nePM (w : World) (a b c d : Int) : (binOp .neq 57 (.agg #[.int .i64 a, .int .i64 b]) (.agg #[.int .i64 c, .int .i64 d])).run Try.prog w = .ok (.bool (!(a == c && b == d))) w := by
  have u3 := Try.underlying3
  have a3 := Try.isAgg3
  have z3 := Try.sizeOf3
  have hS : Try.prog.underlying 57 = some (.struct (Try.prog.fieldsOf 57)) := by kernel_rfl
  have hp : Try.prog.stoodInHeld 57 = false := by kernel_rfl
  rw [run_neq_struct, show (10000 : Nat) = 9999 + 1 from rfl, run_equalIn_agg w 9999 57 _ _ hS hp]
  simp only [Program.fieldsOf, Try.underlying57]
  go_simp
  by_cases h1 : a = c <;> by_cases h2 : b = d <;> simp [h1, h2]

/-- A thread's instructions, and a throw. -/
def EnPost (w : World) (l : List (Int × Int)) (t : Int) (e : Ending) (w' : World) : Prop := ∃ A n c, e = .returned (.tuple #[.slice A n c, .int .i64 t]) ∧ Prs w' A n c l ∧ Below w.heap.size w w'
theorem snd_sane' (b : Bd) : flSane (flSnd b) = true := by
  unfold flSnd
  cases h : flSane b
  · rfl
  · exact h
theorem Few.snd' {N : Nat} {b : Bd} (h : Few N b) : Few N (flSnd b) := by
  unfold flSnd
  split
  · exact h
  · exact ⟨by simp, by simp, by simp⟩
theorem sane_code {b : Bd} (h : flSane b = true) : b.code.length ≤ 4096 := by
  unfold flSane at h
  simp at h
  exact h.1.1
set_option maxHeartbeats 1000000 in
theorem end_any (A B C : Option Addr) (n c m d k f : Nat) (b : Bd) (w : World) (hF : Few 20000 b) (h : Bl w A n c B m d C k f b) :
    Calls Try.prog 16 #[.agg #[.slice A n c, .slice B m d, .slice C k f]] w (EnPost w (finL (flSnd b)) (finE (flSnd b))) := by
  have HF := Lib.hid hF
  obtain ⟨hn, hm, hk⟩ := h.ns hF
  have LC := Lib.hid h.1.len
  have LM := Lib.hid h.2.1.len
  have LO := Lib.hid h.2.2.len
  have H := Lib.hid h
  clear h hF
  have X1 := Lib.hid (Bx.new w 30 (.slice A n c) (.slice B m d) (.slice C k f))
  have HB := Lib.hid (below_one w (.cells #[.slice A n c, .slice B m d, .slice C k f] 30))
  go_enter Try.func16, Try.ntmps16
  go_upto_region 1 with (fail)
  generalize w.alloc (.cells #[.slice A n c, .slice B m d, .slice C k f] 30) = W at *
  have hg1 : w.heap.size < W.heap.size := X1.out.lt
  have HL := Lib.hid (H.out.below HB.out)
  have a0 := X1.out.c0; have a1 := X1.out.c1; have a2 := X1.out.c2; have af0 := X1.out.f0; have af1 := X1.out.f1; have af2 := X1.out.f2
  go_upto_region 2 with (go_at_call 26; refine (sound_any _ _ _ _ _ _ _ _ _ b _ (HF.out.mono (by omega)) HL.out).mono ?_; rintro e w1 ⟨A1, n1, c1, B1, m1, d1, C1, k1, f1, rfl, h1, hb1⟩; have HB1 := Lib.hid (hb1); have H1 := Lib.hid h1; clear h1 hb1; have Y1 := Lib.hid (X1.out.keep HB1.out); clear a0 a1 a2 af0 af1 af2; have a0 := Y1.out.c0; have a1 := Y1.out.c1; have a2 := Y1.out.c2; have af0 := Y1.out.f0; have af1 := Y1.out.f1; have af2 := Y1.out.f2; have hY1 := Y1.out.lt)
  have Q1 := Lib.hid (Y1.out.set3 (.slice A1 n1 c1) (.slice B1 m1 d1) (.slice C1 k1 f1))
  have QB := Lib.hid (below_set3 (g := w.heap.size) (below_then HB.out HB1.out) (Nat.le_refl _) (.slice A1 n1 c1) (.slice B1 m1 d1) (.slice C1 k1 f1))
  have HQ := Lib.hid (H1.out.set3 Y1.out (B1 := A1) (p1 := n1) (e1 := c1) (B2 := B1) (p2 := m1) (e2 := d1) (B3 := C1) (p3 := k1) (e3 := f1))
  generalize (((w1.setCell ⟨w.heap.size, 0, none⟩ (.slice A1 n1 c1)).setCell ⟨w.heap.size, 1, none⟩ (.slice B1 m1 d1)).setCell ⟨w.heap.size, 2, none⟩ (.slice C1 k1 f1)) = W1 at *
  have hQ1 := Q1.out.lt
  clear a0 a1 a2 af0 af1 af2
  have a0 := Q1.out.c0; have a1 := Q1.out.c1; have a2 := Q1.out.c2; have af0 := Q1.out.f0; have af1 := Q1.out.f1; have af2 := Q1.out.f2
  have HM := Lib.hid HQ.out.pm.len
  have HFs := Lib.hid HF.out.snd'
  generalize flSnd b = b' at *
  have hm1 : m1 ≤ 20000 := by rw [← HM.out]; exact HFs.out.2.1
  by_cases hm : 0 < m1
  · have ht : (0 : Int) < (m1 : Int) := by omega
    have HE : Hid (finE b' = -22) := Lib.hid (by unfold finE; rw [HM.out, if_pos hm])
    go_wp2
    refine bodyPost_ret (v := .tuple #[.slice none 0 0, .int .i64 (-22)]) (by simp [results, Try.results16, go_sem] <;> rfl) rfl ⟨none, 0, 0, by rw [HE.out], by unfold finL; rw [HE.out]; exact Prs.nil, QB.out⟩
  · obtain rfl : m1 = 0 := by omega
    have HE : Hid (finE b' = layE b' 1) := Lib.hid (by unfold finE; rw [HM.out]; rfl)
    cases hE : (layE b' 1 != 0)
    · have hE0 : layE b' 1 = 0 := by simpa using hE
      have HE0 := Lib.hid hE0
      clear hE0
      go_wp2_with (go_at_call 27; refine (lay_any _ _ _ _ _ _ _ _ _ b' _ _ _ [(4, 0)] _ (HFs.out.mono (by omega)) (by omega) (HQ.out.alloc _) (Prs.new1 _ _ 4 0)).mono ?_; rintro e w2 ⟨A2, n2, c2, B2, m2, d2, C2, k2, f2, rfl, h2, hb2⟩; have HB2 := Lib.hid (below_new hb2); have H2 := Lib.hid h2; clear h2 hb2; have Z1 := Lib.hid (Q1.out.keep HB2.out); clear a0 a1 a2 af0 af1 af2; have a0 := Z1.out.c0; have a1 := Z1.out.c1; have a2 := Z1.out.c2; have af0 := Z1.out.f0; have af1 := Z1.out.f1; have af2 := Z1.out.f2; have hZ1 := Z1.out.lt)
      refine bodyPost_ret (v := .tuple #[.slice A2 n2 c2, .int .i64 0]) (by simp [results, Try.results16, go_sem] <;> rfl) rfl ⟨A2, n2, c2, by rw [HE.out, HE0.out], ?_, below_set3 (below_then QB.out HB2.out) (Nat.le_refl _) _ _ _⟩
      have h2 := (H2.out.set3 Z1.out (B1 := A2) (p1 := n2) (e1 := c2) (B2 := B2) (p2 := m2) (e2 := d2) (B3 := C2) (p3 := k2) (e3 := f2)).pc
      unfold finL
      rw [HE.out, HE0.out]
      unfold layB at h2
      unfold layE at HE0
      have hx := HE0.out
      split at h2
      · rename_i hlt
        simp at hlt
        rw [if_pos hlt] at hx
        cases hx
      · exact h2
    · have HE0 : Hid (layE b' 1 ≠ 0) := Lib.hid (by simpa using hE)
      go_wp2_with (go_at_call 27; refine (lay_any _ _ _ _ _ _ _ _ _ b' _ _ _ [(4, 0)] _ (HFs.out.mono (by omega)) (by omega) (HQ.out.alloc _) (Prs.new1 _ _ 4 0)).mono ?_; rintro e w2 ⟨A2, n2, c2, B2, m2, d2, C2, k2, f2, rfl, h2, hb2⟩; have HB2 := Lib.hid (below_new hb2); have H2 := Lib.hid h2; clear h2 hb2; have Z1 := Lib.hid (Q1.out.keep HB2.out); clear a0 a1 a2 af0 af1 af2; have a0 := Z1.out.c0; have a1 := Z1.out.c1; have a2 := Z1.out.c2; have af0 := Z1.out.f0; have af1 := Z1.out.f1; have af2 := Z1.out.f2; have hZ1 := Z1.out.lt)
      refine bodyPost_ret (v := .tuple #[.slice none 0 0, .int .i64 (layE b' 1)]) (by simp [results, Try.results16, go_sem] <;> rfl) rfl ⟨none, 0, 0, by rw [HE.out], by unfold finL; rw [HE.out, if_neg HE0.out]; exact Prs.nil, below_set3 (below_then QB.out HB2.out) (Nat.le_refl _) _ _ _⟩
theorem ends_get (l : List (Int × Int)) (j : Nat) (h : l.length = j + 1) : flEnds l = ((l.getD j (0, 0)).1 == 4) := by
  cases l with
  | nil => simp at h
  | cons x l =>
    show (((x :: l).getLast (by simp)).1 == 4) = _
    rw [List.getLast_eq_getElem]
    have e : (x :: l).length - 1 = j := by omega
    have hj : j < (x :: l).length := by omega
    have : (x :: l).getD j (0, 0) = (x :: l)[j] := by rw [List.getD_eq_getElem?_getD, List.getElem?_eq_getElem hj]; rfl
    rw [this]
    simp only [e]
set_option maxHeartbeats 1000000 in
theorem whole_any (A : Option Addr) (n c : Nat) (l : List (Int × Int)) (r : Bool) (w : World) (hn : n ≤ 100000) (h : Prs w A n c l) (hr : flWhole l = r) :
    Calls Try.prog 23 #[.slice A n c] w fun e w' => e = .returned (.bool r) ∧ Below w.heap.size w w' := by
  have HL := Lib.hid h.len
  have H := Lib.hid h
  have HR := Lib.hid hr
  clear h hr
  rcases Nat.eq_zero_or_pos n with h0 | h0
  · subst h0
    obtain rfl : false = r := by rw [← HR.out, List.eq_nil_of_length_eq_zero HL.out]; rfl
    go_enter Try.func23, Try.ntmps23
    go_wp2
    go_ret
    exact ⟨rfl, Below.refl _ _⟩
  · obtain ⟨q, rfl⟩ : ∃ q, n = q + 1 := ⟨n - 1, by omega⟩
    have hz0 : (((q : Int) + 1) == 0) = false := by simp; omega
    obtain ⟨xb, xo, rfl, hbl, e0, e1⟩ := H.out.at_ q (by omega)
    have HX := Lib.hid (ends_get l q HL.out)
    cases hx : ((l.getD q (0, 0)).1 != 4)
    · have hE : flEnds l = true := by rw [HX.out]; simpa using hx
      have HE := Lib.hid hE
      clear hE HX
      generalize (l.getD q (0, 0)).1 = x at *
      generalize (l.getD q (0, 0)).2 = y at *
      have hR := HR.out
      unfold flWhole at hR
      rw [HE.out, HL.out, Bool.true_and] at hR
      have HW := Lib.hid hR
      clear hR HR
      go_enter Try.func23, Try.ntmps23
      go_wp2
      go_loopw [20] (fun i wr => ∃ j : Nat, j ≤ q + 1 ∧ i = .int .i64 j ∧ (l.take j).all (flLed (q + 1)) = true ∧ Below w.heap.size w wr) (fun i _ => ((q : Int) + 1 - intOf i).toNat)
      case atStart => exact ⟨0, by omega, rfl, rfl, Below.refl _ _⟩
      case round =>
        obtain ⟨j, hj, rfl, ha, hb⟩ := hrel
        have HV := Lib.hid hb
        have HA := Lib.hid ha
        clear hb ha
        by_cases hlt : j < q + 1
        · have hjl : j < l.length := by have := HL.out; omega
          have hlt2 : decide ((j : Int) < (q : Int) + 1) = true := decide_eq_true (by omega)
          obtain ⟨yb, yo, hye, hbl2, g0, g1⟩ := (H.out.below HV.out).at_ j hlt
          cases hye
          have HN := Lib.hid (all_next (flLed (q + 1)) l j hjl)
          have HF := Lib.hid (all_not (flLed (q + 1)) l j hjl)
          generalize l.getD j (0, 0) = p at *
          obtain ⟨u, v⟩ := p
          cases hu : flLeads u
          · have HU := Lib.hid hu
            have HG : Hid ((l.take (j + 1)).all (flLed (q + 1)) = true) := Lib.hid (by rw [HN.out, HA.out]; unfold flLed; rw [hu]; rfl)
            clear hu
            go_wp2_with (go_at_call 42; refine (leads_is _ _ HU.out _).mono ?_; rintro e w3 ⟨rfl, rfl⟩)
            go_roundw
            case rel => exact ⟨j + 1, by omega, by go_num, HG.out, below_then HV.out (below_one _ _)⟩
            case measure => simp [intOf]; omega
          · have HU := Lib.hid hu
            cases hv : flThere (q + 1) v
            · have HT := Lib.hid hv
              have HG : Hid (r = false) := Lib.hid (by rw [← HW.out, HF.out (by unfold flLed; rw [hu, hv]; rfl)])
              clear hu hv
              go_wp2_with (first | (go_at_call 42; refine (leads_is _ _ HU.out _).mono ?_; rintro e w3 ⟨rfl, rfl⟩) | (go_at_call 41; refine (there_is _ _ _ _ _ HT.out _).mono ?_; rintro e w3 ⟨rfl, rfl⟩))
              go_ret
              exact ⟨by rw [HG.out]; rfl, below_then HV.out (below_one _ _)⟩
            · have HT := Lib.hid hv
              have HG : Hid ((l.take (j + 1)).all (flLed (q + 1)) = true) := Lib.hid (by rw [HN.out, HA.out]; unfold flLed; rw [hu, hv]; rfl)
              clear hu hv
              go_wp2_with (first | (go_at_call 42; refine (leads_is _ _ HU.out _).mono ?_; rintro e w3 ⟨rfl, rfl⟩) | (go_at_call 41; refine (there_is _ _ _ _ _ HT.out _).mono ?_; rintro e w3 ⟨rfl, rfl⟩))
              go_roundw
              case rel => exact ⟨j + 1, by omega, by go_num, HG.out, below_then HV.out (below_one _ _)⟩
              case measure => simp [intOf]; omega
        · obtain rfl : j = q + 1 := by omega
          have HG : Hid (r = true) := Lib.hid (by rw [← HW.out, ← HA.out, List.take_of_length_le (by have := HL.out; omega)])
          have hlt2 : decide ((((q + 1 : Nat) : Int)) < (q : Int) + 1) = false := decide_eq_false (by omega)
          have hlt3 : decide ((q : Int) + 1 < (q : Int) + 1) = false := decide_eq_false (by omega)
          go_wp2
          go_ret
          exact ⟨by rw [HG.out]; rfl, HV.out⟩
    · have hE : flEnds l = false := by rw [HX.out]; simpa using hx
      obtain rfl : false = r := by rw [← HR.out]; unfold flWhole; rw [hE]; rfl
      clear hE HX HR
      generalize (l.getD q (0, 0)).1 = x at *
      generalize (l.getD q (0, 0)).2 = y at *
      go_enter Try.func23, Try.ntmps23
      go_wp2
      go_ret
      exact ⟨rfl, Below.refl _ _⟩

theorem take_eq_next (l l' : List (Int × Int)) (j : Nat) (h1 : j < l.length) (h2 : j < l'.length) : (l.take (j + 1) = l'.take (j + 1)) ↔ (l.take j = l'.take j ∧ l.getD j (0, 0) = l'.getD j (0, 0)) := by
  rw [List.take_succ_eq_append_getElem h1, List.take_succ_eq_append_getElem h2]
  have e1 : l.getD j (0, 0) = l[j] := by simp [List.getD, h1]
  have e2 : l'.getD j (0, 0) = l'[j] := by simp [List.getD, h2]
  rw [e1, e2]
  constructor
  · intro h
    have := List.append_inj' h rfl
    exact ⟨this.1, by simpa using this.2⟩
  · rintro ⟨h3, h4⟩
    rw [h3, h4]
set_option maxHeartbeats 1000000 in
theorem code_any (A B : Option Addr) (n c m d : Nat) (l l' : List (Int × Int)) (r : Bool) (w : World) (hn : n ≤ 100000) (hm : m ≤ 100000) (h : Prs w A n c l) (h' : Prs w B m d l') (hr : decide (l = l') = r) :
    Calls Try.prog 20 #[.slice A n c, .slice B m d] w fun e w' => e = .returned (.bool r) ∧ Below w.heap.size w w' := by
  have HL := Lib.hid h.len
  have HL' := Lib.hid h'.len
  have H := Lib.hid h
  have H' := Lib.hid h'
  have HR := Lib.hid hr
  have q := nePI
  have q2 := nePM
  clear h h' hr
  by_cases hnm : n = m
  · subst hnm
    go_enter Try.func20, Try.ntmps20
    go_wp2
    go_loopw [5] (fun i wr => ∃ j : Nat, j ≤ n ∧ i = .int .i64 j ∧ l.take j = l'.take j ∧ Below w.heap.size w wr) (fun i _ => ((n : Int) - intOf i).toNat)
    case atStart => exact ⟨0, by omega, rfl, rfl, Below.refl _ _⟩
    case round =>
      obtain ⟨j, hj, rfl, ha, hb⟩ := hrel
      have HA := Lib.hid ha
      have HV := Lib.hid hb
      clear ha hb
      by_cases hlt : j < n
      · have hjl : j < l.length := by have := HL.out; omega
        have hjl' : j < l'.length := by have := HL'.out; omega
        obtain ⟨xb, xo, rfl, hbl, e0, e1⟩ := (H.out.below HV.out).at_ j hlt
        obtain ⟨yb, yo, rfl, hbl', f0, f1⟩ := (H'.out.below HV.out).at_ j hlt
        have HN := Lib.hid (take_eq_next l l' j hjl hjl')
        generalize l.getD j (0, 0) = p at *
        generalize l'.getD j (0, 0) = p' at *
        obtain ⟨x, y⟩ := p
        obtain ⟨x', y'⟩ := p'
        cases hxy : (x == x' && y == y')
        · have HG : Hid (r = false) := Lib.hid (by
            rw [← HR.out]
            refine decide_eq_false fun h => ?_
            have h2 := (HN.out.1 (by rw [h])).2
            injection h2 with h3 h4
            subst h3 h4
            simp at hxy)
          go_wp2
          go_quiet (fail)
          go_wp2
          go_ret
          exact ⟨by rw [HG.out]; rfl, below_drewN HV.out _⟩
        · have HG : Hid (l.take (j + 1) = l'.take (j + 1)) := Lib.hid (HN.out.2 ⟨HA.out, by simp at hxy; rw [hxy.1, hxy.2]⟩)
          go_wp2
          go_quiet (fail)
          go_wp2
          go_roundw
          case rel => exact ⟨j + 1, by omega, by go_num, HG.out, below_drewN HV.out _⟩
          case measure => simp [intOf]; omega
      · obtain rfl : j = n := by omega
        have HG : Hid (r = true) := Lib.hid (by
          rw [← HR.out]
          have := HA.out
          rw [List.take_of_length_le (by have := HL.out; omega), List.take_of_length_le (by have := HL'.out; omega)] at this
          exact decide_eq_true this)
        go_wp2
        go_ret
        exact ⟨by rw [HG.out]; rfl, HV.out⟩
  · have hne : ((n : Int) != (m : Int)) = true := by simp; omega
    obtain rfl : false = r := by
      rw [← HR.out]
      refine (decide_eq_false fun h => hnm ?_).symm
      rw [← HL.out, ← HL'.out, h]
    go_enter Try.func20, Try.ntmps20
    go_wp2
    go_ret
    exact ⟨rfl, Below.refl _ _⟩
set_option maxHeartbeats 1000000 in
theorem marks_any (A B : Option Addr) (n c m d : Nat) (l l' : List (Int × Int)) (r : Bool) (w : World) (hn : n ≤ 100000) (hm : m ≤ 100000) (h : Prs w A n c l) (h' : Prs w B m d l') (hr : decide (l = l') = r) :
    Calls Try.prog 38 #[.slice A n c, .slice B m d] w fun e w' => e = .returned (.bool r) ∧ Below w.heap.size w w' := by
  have HL := Lib.hid h.len
  have HL' := Lib.hid h'.len
  have H := Lib.hid h
  have H' := Lib.hid h'
  have HR := Lib.hid hr
  have q := nePI
  have q2 := nePM
  clear h h' hr
  by_cases hnm : n = m
  · subst hnm
    go_enter Try.func38, Try.ntmps38
    go_wp2
    go_loopw [5] (fun i wr => ∃ j : Nat, j ≤ n ∧ i = .int .i64 j ∧ l.take j = l'.take j ∧ Below w.heap.size w wr) (fun i _ => ((n : Int) - intOf i).toNat)
    case atStart => exact ⟨0, by omega, rfl, rfl, Below.refl _ _⟩
    case round =>
      obtain ⟨j, hj, rfl, ha, hb⟩ := hrel
      have HA := Lib.hid ha
      have HV := Lib.hid hb
      clear ha hb
      by_cases hlt : j < n
      · have hjl : j < l.length := by have := HL.out; omega
        have hjl' : j < l'.length := by have := HL'.out; omega
        obtain ⟨xb, xo, rfl, hbl, e0, e1⟩ := (H.out.below HV.out).at_ j hlt
        obtain ⟨yb, yo, rfl, hbl', f0, f1⟩ := (H'.out.below HV.out).at_ j hlt
        have HN := Lib.hid (take_eq_next l l' j hjl hjl')
        generalize l.getD j (0, 0) = p at *
        generalize l'.getD j (0, 0) = p' at *
        obtain ⟨x, y⟩ := p
        obtain ⟨x', y'⟩ := p'
        cases hxy : (x == x' && y == y')
        · have HG : Hid (r = false) := Lib.hid (by
            rw [← HR.out]
            refine decide_eq_false fun h => ?_
            have h2 := (HN.out.1 (by rw [h])).2
            injection h2 with h3 h4
            subst h3 h4
            simp at hxy)
          go_wp2
          go_quiet (fail)
          go_wp2
          go_ret
          exact ⟨by rw [HG.out]; rfl, below_drewN HV.out _⟩
        · have HG : Hid (l.take (j + 1) = l'.take (j + 1)) := Lib.hid (HN.out.2 ⟨HA.out, by simp at hxy; rw [hxy.1, hxy.2]⟩)
          go_wp2
          go_quiet (fail)
          go_wp2
          go_roundw
          case rel => exact ⟨j + 1, by omega, by go_num, HG.out, below_drewN HV.out _⟩
          case measure => simp [intOf]; omega
      · obtain rfl : j = n := by omega
        have HG : Hid (r = true) := Lib.hid (by
          rw [← HR.out]
          have := HA.out
          rw [List.take_of_length_le (by have := HL.out; omega), List.take_of_length_le (by have := HL'.out; omega)] at this
          exact decide_eq_true this)
        go_wp2
        go_ret
        exact ⟨by rw [HG.out]; rfl, HV.out⟩
  · have hne : ((n : Int) != (m : Int)) = true := by simp; omega
    obtain rfl : false = r := by
      rw [← HR.out]
      refine (decide_eq_false fun h => hnm ?_).symm
      rw [← HL.out, ← HL'.out, h]
    go_enter Try.func38, Try.ntmps38
    go_wp2
    go_ret
    exact ⟨rfl, Below.refl _ _⟩
end Go.Proofs.Ytkcpmjccggfpiaa
