/-
  The loops over dictionaries: the document's words as the program's, and back; whether they are few, whether two are the same.
-/
import Derived.Test.YtkpomphjicoaeaaDictEq
namespace Go.Proofs.Ytkpomphjicoaeaa
open Go.RowKit

theorem take_nextE (l : List En) (j : Nat) (h : j < l.length) : l.take (j + 1) = l.take j ++ [l.getD j e0] := by
  rw [List.take_succ_eq_append_getElem h]
  congr 2
  simp [List.getD, h]
theorem entry_is (S : ByteArray) (m : Bool) (k v t p : Int) (w : World) :
    Calls Try.prog 15 #[.agg #[.string S, .bool m, .int .i64 k, .int .i64 v, .int .i64 t, .int .i64 p]] w fun e w' => e = .returned (.agg #[.string S, .bool m, .int .i64 k, .int .i64 v, .int .i64 t, .int .i64 p]) ∧ Below w.heap.size w w' := by
  go_enter Try.func15, Try.ntmps15
  go_wp2
  refine bodyPost_ret (v := .agg #[.string S, .bool m, .int .i64 k, .int .i64 v, .int .i64 t, .int .i64 p]) (by simp [results, Try.results15, go_sem]) rfl ⟨rfl, ?_⟩
  exact two_new _ _ _
def EnsPost (E : TypeId) (w : World) (n : Nat) (l : List En) (e : Ending) (w' : World) : Prop := ∃ A c, e = .returned (.slice A n c) ∧ OwnE E w w' A n c l
set_option maxHeartbeats 1000000 in
theorem entries_any (A : Option Addr) (n c : Nat) (l : List En) (w : World) (hn : n ≤ 100000) (h : Ens w A n c l) :
    Calls Try.prog 12 #[.slice A n c] w (EnsPost 37 w n l) := by
  have HL := Lib.hid h.len
  have H := Lib.hid h
  clear h
  go_enter Try.func12, Try.ntmps12
  go_wp2
  go_loopw [3, 4] (fun v i wr => ∃ (j : Nat) (A' : Option Addr) (c' : Nat), j ≤ n ∧ i = .int .i64 j ∧ v = .slice A' j c' ∧ OwnE 37 w wr A' j c' (l.take j)) (fun _ i _ => ((n : Int) - intOf i).toNat)
  case atStart => exact ⟨0, none, 0, by omega, rfl, rfl, OwnE.nil _ _⟩
  case round =>
    obtain ⟨j, A', c', hj, rfl, rfl, hO⟩ := hrel
    have HO := Lib.hid hO
    clear hO
    by_cases hlt : j < n
    · have HX := Lib.hid (take_nextE l j (by rw [HL.out]; exact hlt))
      obtain ⟨xb, xo, rfl, hbl, f0, f1, f2, f3, f4, f5⟩ := (H.out.below HO.out.below).at_ j hlt
      generalize l.getD j e0 = e at *
      obtain ⟨S, m, k, v, t, p⟩ := e
      simp only at f0 f1 f2 f3 f4 f5
      go_wp2_with (first
        | (go_at_call 15; refine (entry_is _ _ _ _ _ _ _).mono ?_; rintro e w1 ⟨rfl, hb1⟩; have HO1 := Lib.hid ((HO.out.grow hb1).grow (below_one _ (.cells #[.string S, .bool m, .int .i64 k, .int .i64 v, .int .i64 t, .int .i64 p] 37))); clear hb1)
        | (at_builtin; refine wpList_appE etD (W := w) rfl (.tmp 11) (.tmp 17) rfl rfl rfl HO1.out (Ens.new1 _ _ ⟨S, m, k, v, t, p⟩) (by omega) ?_; intro A3 c3 w3 hw3; have HW := Lib.hid hw3; clear hw3))
      go_roundw
      case rel => exact ⟨j + 1, A3, c3, by omega, by go_num, rfl, by rw [HX.out]; exact HW.out⟩
      case measure => simp [intOf]; omega
    · obtain rfl : j = n := by omega
      go_wp2
      go_ret
      exact ⟨A', c', rfl, HO.out.as (List.take_of_length_le (by rw [HL.out]; exact Nat.le_refl _))⟩
set_option maxHeartbeats 1000000 in
theorem words_any (A : Option Addr) (n c : Nat) (l : List En) (w : World) (hn : n ≤ 100000) (h : Ens w A n c l) :
    Calls Try.prog 22 #[.slice A n c] w (EnsPost 26 w n l) := by
  have HL := Lib.hid h.len
  have H := Lib.hid h
  clear h
  go_enter Try.func22, Try.ntmps22
  go_wp2
  go_loopw [3, 4] (fun v i wr => ∃ (j : Nat) (A' : Option Addr) (c' : Nat), j ≤ n ∧ i = .int .i64 j ∧ v = .slice A' j c' ∧ OwnE 26 w wr A' j c' (l.take j)) (fun _ i _ => ((n : Int) - intOf i).toNat)
  case atStart => exact ⟨0, none, 0, by omega, rfl, rfl, OwnE.nil _ _⟩
  case round =>
    obtain ⟨j, A', c', hj, rfl, rfl, hO⟩ := hrel
    have HO := Lib.hid hO
    clear hO
    by_cases hlt : j < n
    · have HX := Lib.hid (take_nextE l j (by rw [HL.out]; exact hlt))
      obtain ⟨xb, xo, rfl, hbl, f0, f1, f2, f3, f4, f5⟩ := (H.out.below HO.out.below).at_ j hlt
      generalize l.getD j e0 = e at *
      obtain ⟨S, m, k, v, t, p⟩ := e
      simp only at f0 f1 f2 f3 f4 f5
      have HO1 := Lib.hid ((HO.out.grow (below_one _ (.cells #[.string S, .bool m, .int .i64 k, .int .i64 v, .int .i64 t, .int .i64 p] 37))).grow (below_one _ (.cells #[.string S, .bool m, .int .i64 k, .int .i64 v, .int .i64 t, .int .i64 p] 26)))
      have HE : Hid (Ens ((wr.alloc (.cells #[.string S, .bool m, .int .i64 k, .int .i64 v, .int .i64 t, .int .i64 p] 37)).alloc (.cells #[.string S, .bool m, .int .i64 k, .int .i64 v, .int .i64 t, .int .i64 p] 26)) (some ⟨wr.heap.size + 1, 0, none⟩) 1 1 [⟨S, m, k, v, t, p⟩]) := Lib.hid (by
        have h := Ens.new1 (wr.alloc (.cells #[.string S, .bool m, .int .i64 k, .int .i64 v, .int .i64 t, .int .i64 p] 37)) 26 ⟨S, m, k, v, t, p⟩
        rw [World.size_alloc] at h
        exact h)
      go_wp2_with (at_builtin; refine wpList_appE etR (W := w) rfl (.tmp 16) (.tmp 28) rfl rfl rfl HO1.out HE.out (by omega) ?_; intro A3 c3 w3 hw3; have HW := Lib.hid hw3; clear hw3)
      go_roundw
      case rel => exact ⟨j + 1, A3, c3, by omega, by go_num, rfl, by rw [HX.out]; exact HW.out⟩
      case measure => simp [intOf]; omega
    · obtain rfl : j = n := by omega
      go_wp2
      go_ret
      exact ⟨A', c', rfl, HO.out.as (List.take_of_length_le (by rw [HL.out]; exact Nat.le_refl _))⟩
/-- Are they few? -/
def fewB (l : List En) : Bool := (l.all fun e => decide (e.s.size ≤ 100)) && decide (l.length ≤ 600)
theorem all_nextE (f : En → Bool) (l : List En) (j : Nat) (h : j < l.length) : (l.take (j + 1)).all f = ((l.take j).all f && f (l.getD j e0)) := by
  rw [take_nextE l j h, List.all_append]
  simp
theorem all_notE (f : En → Bool) (l : List En) (j : Nat) (h : j < l.length) (hf : f (l.getD j e0) = false) : l.all f = false := by
  rw [List.all_eq_false]
  refine ⟨l[j], List.getElem_mem h, ?_⟩
  have e : l.getD j e0 = l[j] := by simp [List.getD, h]
  rw [e] at hf
  rw [hf]
  decide
set_option maxHeartbeats 1000000 in
theorem few_any (A : Option Addr) (n c : Nat) (l : List En) (b : Bool) (w : World) (hm : n ≤ 9223372036854775807) (h : Ens w A n c l) (hb : fewB l = b) :
    Calls Try.prog 10 #[.slice A n c] w fun e w' => e = .returned (.bool b) ∧ w = w' := by
  have HL := Lib.hid h.len
  have H := Lib.hid h
  have HF := Lib.hid hb
  clear h hb
  go_enter Try.func10, Try.ntmps10
  go_wp2
  go_loop [3] (fun i => ∃ j : Nat, j ≤ n ∧ i = .int .i64 j ∧ ((l.take j).all fun e => decide (e.s.size ≤ 100)) = true) (fun i => ((n : Int) - intOf i).toNat)
  case atStart => exact ⟨0, by omega, rfl, rfl⟩
  case round =>
    obtain ⟨j, hj, rfl, ha⟩ := hrel
    have HA := Lib.hid ha
    clear ha
    by_cases hlt : j < n
    · have hjl : j < l.length := by rw [HL.out]; exact hlt
      have HX := Lib.hid (all_nextE (fun e => decide (e.s.size ≤ 100)) l j hjl)
      have HY := Lib.hid (all_notE (fun e => decide (e.s.size ≤ 100)) l j hjl)
      obtain ⟨xb, xo, rfl, hbl, f0, f1, f2, f3, f4, f5⟩ := H.out.at_ j hlt
      generalize l.getD j e0 = e at *
      obtain ⟨S, m, k, v, t, p⟩ := e
      simp only at f0 f1 f2 f3 f4 f5
      by_cases hs : S.size ≤ 100
      · have hs2 : ¬ (100 : Int) < (S.size : Int) := by omega
        go_wp2
        go_round
        case rel => exact ⟨j + 1, by omega, by go_num, by rw [HX.out, HA.out]; simpa using hs⟩
        case measure => simp [intOf]; omega
      · have hs2 : (100 : Int) < (S.size : Int) := by omega
        have hz : false = b := by rw [← HF.out]; unfold fewB; rw [HY.out (by simpa using hs)]; rfl
        subst hz
        go_wp2
        go_ret
        exact ⟨rfl, rfl⟩
    · obtain rfl : j = n := by omega
      have hz : decide ((j : Int) ≤ 600) = b := by
        rw [← HF.out]; unfold fewB
        have := HA.out
        rw [List.take_of_length_le (by rw [HL.out]; exact Nat.le_refl _)] at this
        rw [this, HL.out, Bool.true_and, Bool.eq_iff_iff]; simp; omega
      cases b
      all_goals
        go_wp2
        go_ret
        exact ⟨rfl, rfl⟩
set_option maxHeartbeats 1000000 in
theorem sameE_any (A B : Option Addr) (n c m d : Nat) (l l' : List En) (r : Bool) (w : World) (hn : n ≤ 100000) (hm : m ≤ 100000) (h : Ens w A n c l) (h' : Ens w B m d l') (hr : r = true ↔ l = l') :
    Calls Try.prog 21 #[.slice A n c, .slice B m d] w fun e w' => e = .returned (.bool r) ∧ Below w.heap.size w w' := by
  have HL := Lib.hid h.len
  have HL' := Lib.hid h'.len
  have H := Lib.hid h
  have H' := Lib.hid h'
  have HR := Lib.hid hr
  have q := neE
  clear h h' hr
  by_cases hnm : n = m
  · subst hnm
    go_enter Try.func21, Try.ntmps21
    go_wp2
    go_loopw [5] (fun i wr => ∃ j : Nat, j ≤ n ∧ i = .int .i64 j ∧ l.take j = l'.take j ∧ Below w.heap.size w wr) (fun i _ => ((n : Int) - intOf i).toNat)
    case atStart => exact ⟨0, by omega, rfl, rfl, Below.refl _ _⟩
    case round =>
      obtain ⟨j, hj, rfl, ha, hb⟩ := hrel
      have HA := Lib.hid ha
      have HV := Lib.hid hb
      clear ha hb
      by_cases hlt : j < n
      · have hjl : j < l.length := by have := HL.out; omega
        have hjl' : j < l'.length := by have := HL'.out; omega
        obtain ⟨xb, xo, rfl, hbl, f0, f1, f2, f3, f4, f5⟩ := (H.out.below HV.out).at_ j hlt
        obtain ⟨yb, yo, rfl, hbl', g0, g1, g2, g3, g4, g5⟩ := (H'.out.below HV.out).at_ j hlt
        have HN := Lib.hid (take_eq_nextE l l' j hjl hjl')
        generalize l.getD j e0 = e at *
        generalize l'.getD j e0 = e' at *
        obtain ⟨S, m, k, v, t, p⟩ := e
        obtain ⟨S', m', k', v', t', p'⟩ := e'
        simp only at f0 f1 f2 f3 f4 f5 g0 g1 g2 g3 g4 g5
        cases hxy : eEq ⟨S, m, k, v, t, p⟩ ⟨S', m', k', v', t', p'⟩
        · have HG : Hid (r = false) := Lib.hid (by
            rw [← Bool.not_eq_true]
            intro h
            have h2 := eEq_iff.2 (HN.out.1 (by rw [HR.out.1 h])).2
            rw [h2] at hxy
            cases hxy)
          have q2 := fun W => neE W S m k v t p S' m' k' v' t' p' false hxy
          clear q hxy
          go_wp2
          go_quiet (fail)
          go_wp2
          go_ret
          exact ⟨by rw [HG.out]; rfl, below_drewN HV.out _⟩
        · have HG : Hid (l.take (j + 1) = l'.take (j + 1)) := Lib.hid (HN.out.2 ⟨HA.out, eEq_iff.1 hxy⟩)
          have q2 := fun W => neE W S m k v t p S' m' k' v' t' p' true hxy
          clear q hxy
          go_wp2
          go_quiet (fail)
          go_wp2
          go_roundw
          case rel => exact ⟨j + 1, by omega, by go_num, HG.out, below_drewN HV.out _⟩
          case measure => simp [intOf]; omega
      · obtain rfl : j = n := by omega
        have HG : Hid (r = true) := Lib.hid (by
          rw [HR.out]
          have := HA.out
          rwa [List.take_of_length_le (by have := HL.out; omega), List.take_of_length_le (by have := HL'.out; omega)] at this)
        go_wp2
        go_ret
        exact ⟨by rw [HG.out]; rfl, HV.out⟩
  · have hne : ((n : Int) != (m : Int)) = true := by simp; omega
    obtain rfl : r = false := by
      rw [← Bool.not_eq_true]
      intro h
      apply hnm
      rw [← HL.out, ← HL'.out, HR.out.1 h]
    go_enter Try.func21, Try.ntmps21
    go_wp2
    go_ret
    exact ⟨rfl, Below.refl _ _⟩
end Go.Proofs.Ytkpomphjicoaeaa
