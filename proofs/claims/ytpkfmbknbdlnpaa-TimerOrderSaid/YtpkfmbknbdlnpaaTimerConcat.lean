/-
  What the library's calls that package timer makes answer at slices of naps: Grow of nothing, Concat of slices that lie in a row: all of them, one behind the other, in memory of the call's own.
-/
import Derived.Test.YtpkfmbknbdlnpaaTimerHeld
namespace Go.Proofs.Ytpkfmbknbdlnpaa
open Go.RowKit

def OwnPostN (w : World) (n : Nat) (l : List Np) (e : Ending) (w' : World) : Prop := ∃ A c, e = .returned (.slice A n c) ∧ OwnN 49 w w' A n c l
set_option maxHeartbeats 400000 in
theorem growN_any (n : Nat) (w : World) (hn : n ≤ 100000) :
    Calls Try.prog 33 #[.slice none 0 0, .int .i64 (n : Int)] w (OwnPostN w 0 []) := by
  rcases Nat.eq_zero_or_pos n with h0 | h0
  · subst h0
    go_enter Try.func33, Try.ntmps33
    go_wp2
    go_ret
    exact ⟨_, _, rfl, OwnN.nil _ _⟩
  · obtain ⟨i, hi, hz0, hz1, hz2⟩ := info_parts ntT.info
    have hr := fun ty => Lib.run_append_nil_zeros (P := Try.prog) w 24 3 ty 49 i (.agg #[.int .i64 0, .int .i64 0]) .i64 .i64 Try.underlying24 Try.underlying3 hi hz0 n h0 (by omega) (by omega) (by rw [hz2]; omega)
    have hge := grownCap_ge w n 0 49
    have hle := grownCap_le_maxLen w n 0 49 (by unfold maxLen; omega)
    have hsl : ∀ W : World, ∀ g cap : Nat, (Instr.slice 24 (.slice (some ⟨g, 0, none⟩) n cap) none (some (.int .i64 0)) none).run Try.prog W = .ok (.slice (some ⟨g, 0, none⟩) 0 cap) W := by
      intro W g cap
      rw [run_slice_h (P := Try.prog) W 24 _ n cap ntT.underE .i64 0 (by omega) (by omega), ntT.elem, ntT.sizeP]
      show Result.ok (sliced (some ⟨g, 0, none⟩) 0 (0 : Int).toNat cap 2) W = _
      unfold sliced
      simp [Addr.add]
    have HO : Hid (OwnN 49 w (w.drew.alloc (.cells (Builtin.zeroCells (Value.agg #[.int .i64 0, .int .i64 0]).cells n ++ Builtin.zeroCells (Value.agg #[.int .i64 0, .int .i64 0]).cells (grownCap w n 0 49 - n)) 49)) (some ⟨w.heap.size, 0, none⟩) 0 (grownCap w n 0 49) []) := by
      refine ⟨World.ownsRow_made w.drew _ _ (Nat.le_refl _) hle ?_, ((Below.refl _ w).drew).alloc (Nat.le_refl _) _⟩
      simp [Builtin.zeroCells, Value.cells]
      omega
    generalize hgc : grownCap w n 0 49 = G at *
    have HR := Lib.hid hr
    clear hgc hge hle hz0 hz1 hz2 hi hr
    go_enter Try.func33, Try.ntmps33
    go_wp2_with (at_builtin; refine wpList_apps rfl (.tmp 20) (.tmp 21) _ _ rfl (HR.out _) ?_)
    go_ret
    exact ⟨_, _, rfl, HO.out⟩
theorem eqNilN (w : World) (a : Option Addr) (n c n' c' : Nat) : (binOp .eql 24 (.slice a n c) (.slice none n' c')).run Try.prog w = .ok (.bool a.isNone) w := Lib.run_eql_slice_nil w _ _ a n c n' c' Try.underlying24
set_option maxHeartbeats 400000 in
theorem cloneN_any (A : Option Addr) (n c : Nat) (l : List Np) (w : World) (hn : n ≤ 100000) (hs : Nps w A n c l) :
    Calls Try.prog 29 #[.slice A n c] w (OwnPostN w n l) := by
  have q := eqNilN
  cases A with
  | none =>
    obtain ⟨rfl, rfl, rfl⟩ := hs.none_
    clear hs
    go_enter Try.func29, Try.ntmps29
    go_wp2
    go_ret
    exact ⟨_, _, rfl, OwnN.nil _ _⟩
  | some a =>
    have HS := Lib.hid hs
    clear hs
    go_enter Try.func29, Try.ntmps29
    go_wp2_with (at_builtin; refine wpList_appN ntT (W := w) rfl (.tmp 5) (.tmp 6) rfl rfl rfl (OwnN.made _ _) (HS.out.alloc _) (by omega) ?_; intro A1 c1 w1 hw1; have HW := Lib.hid hw1; clear hw1)
    go_ret
    refine ⟨A1, c1, rfl, ?_⟩
    · have h := HW.out
      rw [Nat.zero_add, List.nil_append] at h
      exact h
/-- A slice of naps with what it holds. -/
structure Sl where
  A : Option Addr
  n : Nat
  c : Nat
  l : List Np
def Sl.val (s : Sl) : Value := .slice s.A s.n s.c
/-- How many items they hold together; and which. -/
def tot (ss : List Sl) : Nat := (ss.map (·.n)).sum
def allL (ss : List Sl) : List Np := (ss.map (·.l)).flatten
theorem tot_le (ss : List Sl) (k : Nat) : tot (ss.take k) ≤ tot ss := by
  have h : tot ss = tot (ss.take k) + tot (ss.drop k) := by
    unfold tot
    rw [← List.sum_append_nat, ← List.map_append, List.take_append_drop]
  omega
theorem tot_next (ss : List Sl) (k : Nat) (h : k < ss.length) : tot (ss.take (k + 1)) = tot (ss.take k) + ss[k].n := by
  unfold tot
  rw [List.take_succ_eq_append_getElem h, List.map_append, List.sum_append_nat]
  rfl
theorem allL_next (ss : List Sl) (k : Nat) (h : k < ss.length) : allL (ss.take (k + 1)) = allL (ss.take k) ++ ss[k].l := by
  unfold allL
  rw [List.take_succ_eq_append_getElem h, List.map_append, List.flatten_append, List.map_cons, List.map_nil, List.flatten_cons, List.flatten_nil, List.append_nil]
theorem row_cell {w : World} {g : Nat} {ss : List Sl} (hg : w.heap[g]? = some (.cells (ss.map Sl.val).toArray 24 (0, 0))) {k : Nat} (hk : k < ss.length) : w.cell? ⟨g, k, none⟩ = some (.slice ss[k].A ss[k].n ss[k].c) := by
  rw [cell_of_row w g k _ 24 (0, 0) hg]
  simp [hk, Sl.val]
theorem row_lt {w : World} {g : Nat} {o : Obj} (hg : w.heap[g]? = some o) : g < w.heap.size := by
  rcases Nat.lt_or_ge g w.heap.size with hlt | hge
  · exact hlt
  · rw [Array.getElem?_eq_none hge] at hg; cases hg

set_option maxHeartbeats 1000000 in
theorem concatN_any (g : Nat) (ss : List Sl) (N : Nat) (w : World) (hN : ss.length = N) (hg : w.heap[g]? = some (.cells (ss.map Sl.val).toArray 24 (0, 0))) (hs : ∀ k (hk : k < ss.length), Nps w ss[k].A ss[k].n ss[k].c ss[k].l) (ht : tot ss ≤ 100000) (hl : N ≤ 1000) :
    Calls Try.prog 26 #[.slice (some ⟨g, 0, none⟩) N N] w (OwnPostN w (tot ss) (allL ss)) := by
  have HG := Lib.hid hg
  have HS := Lib.hid hs
  have HT := Lib.hid ht
  have hlt := row_lt hg
  have HN := Lib.hid hN
  clear hg hs ht hN
  go_enter Try.func26, Try.ntmps26
  go_wp2
  go_loop [3, 11] (fun sz i => ∃ k : Nat, k ≤ N ∧ i = .int .i64 k ∧ sz = .int .i64 (tot (ss.take k) : Nat)) (fun _ i => ((N : Int) - intOf i).toNat)
  case atStart => exact ⟨0, by omega, rfl, rfl⟩
  case round =>
    obtain ⟨k, hk, rfl, rfl⟩ := hrel
    by_cases hlt2 : k < N
    · have hkl : k < ss.length := by rw [HN.out]; exact hlt2
      have hc := row_cell HG.out hkl
      have HX := Lib.hid (tot_next ss k hkl)
      have h1 : tot (ss.take k) + ss[k].n ≤ 100000 := by have := tot_le ss (k + 1); have h2 := HT.out; rw [HX.out] at this; omega
      generalize hT : tot (ss.take k) = T at *
      generalize ss[k].n = n1 at *
      generalize ss[k].A = A1 at *
      generalize ss[k].c = c1 at *
      clear hT
      go_wp2
      go_round
      case rel => exact ⟨k + 1, by omega, by go_num, by rw [HX.out]; go_num⟩
      case measure => simp [intOf]; omega
    · obtain rfl : k = N := by omega
      have HX : Hid (tot (ss.take k) = tot ss) := show _ = _ by rw [List.take_of_length_le (by rw [HN.out]; exact Nat.le_refl _)]
      have h1 : tot (ss.take k) ≤ 100000 := by rw [HX.out]; exact HT.out
      generalize hT : tot (ss.take k) = T at *
      clear hT
      go_wp2_with (go_at_call 33; refine (growN_any _ _ h1).mono ?_; rintro e w1 ⟨A1, c1, rfl, ho1⟩; have HO := Lib.hid ho1; clear ho1)
      go_loopw [6, 27] (fun v i wr => ∃ (j : Nat) (A : Option Addr) (c : Nat), j ≤ k ∧ i = .int .i64 j ∧ v = .slice A (tot (ss.take j)) c ∧ OwnN 49 w wr A (tot (ss.take j)) c (allL (ss.take j))) (fun _ i _ => ((k : Int) - intOf i).toNat)
      case atStart => exact ⟨0, A1, c1, by omega, rfl, rfl, HO.out⟩
      case round =>
        obtain ⟨j, A, c, hj, rfl, rfl, hO⟩ := hrel
        have HO2 := Lib.hid hO
        clear hO
        by_cases hlt3 : j < k
        · have hjl : j < ss.length := by rw [HN.out]; exact hlt3
          have hc := ((HO2.out).below.cell (p := ⟨g, j, none⟩) hlt).trans (row_cell HG.out hjl)
          have HSj := Lib.hid ((HS.out j hjl).below HO2.out.below)
          have HX2 := Lib.hid (tot_next ss j hjl)
          have HL2 := Lib.hid (allL_next ss j hjl)
          have h2 : tot (ss.take j) + ss[j].n ≤ 100000 := by have := tot_le ss (j + 1); have h2 := HT.out; rw [HX2.out] at this; omega
          generalize hT2 : tot (ss.take j) = T2 at *
          generalize ss[j].n = n2 at *
          generalize ss[j].A = A2 at *
          generalize ss[j].c = c2 at *
          clear hT2
          go_wp2_with (at_builtin; refine wpList_appN ntT (W := w) rfl (.tmp 31) (.tmp 32) rfl rfl rfl HO2.out HSj.out (by omega) ?_; intro A3 c3 w3 hw3; have HW := Lib.hid hw3; clear hw3)
          go_roundw
          case rel => exact ⟨j + 1, A3, c3, by omega, by go_num, by rw [HX2.out], by rw [HX2.out, HL2.out]; exact HW.out⟩
          case measure => simp [intOf]; omega
        · obtain rfl : j = k := by omega
          go_wp2
          go_ret
          have hO := HO2.out
          have e : ss.take j = ss := List.take_of_length_le (by rw [HN.out]; exact Nat.le_refl _)
          rw [e] at hO
          exact ⟨A, c, by rw [e]; rfl, hO⟩
end Go.Proofs.Ytpkfmbknbdlnpaa
