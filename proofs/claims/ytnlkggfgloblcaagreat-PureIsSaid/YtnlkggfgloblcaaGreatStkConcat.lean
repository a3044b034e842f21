/-
  What slices.Concat answers at slices of ints that lie in a row: all of them, one behind the other, in memory of the call's own.
-/
import Derived.Test.YtnlkggfgloblcaaGreatStkLib
namespace Go.Proofs.YtnlkggfgloblcaaGreat
open Go.RowKit

/-- A slice of ints with what it holds. -/
structure Sl where
  A : Option Addr
  n : Nat
  c : Nat
  l : List Int
def Sl.val (s : Sl) : Value := .slice s.A s.n s.c
/-- How many ints they hold together; and which. -/
def tot (ss : List Sl) : Nat := (ss.map (·.n)).sum
def allL (ss : List Sl) : List Int := (ss.map (·.l)).flatten
theorem tot_le (ss : List Sl) (k : Nat) : tot (ss.take k) ≤ tot ss := by
  have h : tot ss = tot (ss.take k) + tot (ss.drop k) := by
    unfold tot
    rw [← List.sum_append_nat, ← List.map_append, List.take_append_drop]
  omega
theorem tot_next (ss : List Sl) (k : Nat) (h : k < ss.length) : tot (ss.take (k + 1)) = tot (ss.take k) + ss[k].n := by
  unfold tot
  rw [List.take_succ_eq_append_getElem h, List.map_append, List.sum_append_nat]
  rfl
theorem allL_next (ss : List Sl) (k : Nat) (h : k < ss.length) : allL (ss.take (k + 1)) = allL (ss.take k) ++ ss[k].l := by
  unfold allL
  rw [List.take_succ_eq_append_getElem h, List.map_append, List.flatten_append, List.map_cons, List.map_nil, List.flatten_cons, List.flatten_nil, List.append_nil]
theorem row_cell {w : World} {g : Nat} {ss : List Sl} (hg : w.heap[g]? = some (.cells (ss.map Sl.val).toArray 22 (0, 0))) {k : Nat} (hk : k < ss.length) : w.cell? ⟨g, k, none⟩ = some (.slice ss[k].A ss[k].n ss[k].c) := by
  rw [cell_of_row w g k _ 22 (0, 0) hg]
  simp [hk, Sl.val]
theorem row_lt {w : World} {g : Nat} {o : Obj} (hg : w.heap[g]? = some o) : g < w.heap.size := by
  rcases Nat.lt_or_ge g w.heap.size with hlt | hge
  · exact hlt
  · rw [Array.getElem?_eq_none hge] at hg; cases hg

set_option maxHeartbeats 1000000 in
theorem concat_any (g : Nat) (ss : List Sl) (N : Nat) (w : World) (hN : ss.length = N) (hg : w.heap[g]? = some (.cells (ss.map Sl.val).toArray 22 (0, 0))) (hs : ∀ k (hk : k < ss.length), Stk w ss[k].A ss[k].n ss[k].c ss[k].l) (ht : tot ss ≤ 100000) (hl : N ≤ 1000) :
    Calls Tryz.prog 134 #[.slice (some ⟨g, 0, none⟩) N N] w (OwnPost w (tot ss) (allL ss)) := by
  have HG := Lib.hid hg
  have HS := Lib.hid hs
  have HT := Lib.hid ht
  have hlt := row_lt hg
  have HN := Lib.hid hN
  clear hg hs ht hN
  go_enter Tryz.func134, Tryz.ntmps134
  go_wp2
  go_loop [3, 11] (fun sz i => ∃ k : Nat, k ≤ N ∧ i = .int .i64 k ∧ sz = .int .i64 (tot (ss.take k) : Nat)) (fun _ i => ((N : Int) - intOf i).toNat)
  case atStart => exact ⟨0, by omega, rfl, rfl⟩
  case round =>
    obtain ⟨k, hk, rfl, rfl⟩ := hrel
    by_cases hlt2 : k < N
    · have hkl : k < ss.length := by rw [HN.out]; exact hlt2
      have hc := row_cell HG.out hkl
      have HX := Lib.hid (tot_next ss k hkl)
      have h1 : tot (ss.take k) + ss[k].n ≤ 100000 := by have := tot_le ss (k + 1); have h2 := HT.out; rw [HX.out] at this; omega
      generalize hT : tot (ss.take k) = T at *
      generalize ss[k].n = n1 at *
      generalize ss[k].A = A1 at *
      generalize ss[k].c = c1 at *
      clear hT
      go_wp2
      go_round
      case rel => exact ⟨k + 1, by omega, by go_num, by rw [HX.out]; go_num⟩
      case measure => simp [intOf]; omega
    · obtain rfl : k = N := by omega
      have HX : Hid (tot (ss.take k) = tot ss) := show _ = _ by rw [List.take_of_length_le (by rw [HN.out]; exact Nat.le_refl _)]
      have h1 : tot (ss.take k) ≤ 100000 := by rw [HX.out]; exact HT.out
      generalize hT : tot (ss.take k) = T at *
      clear hT
      go_wp2_with (go_at_call 150; refine (grow_any _ _ h1).mono ?_; rintro e w1 ⟨A1, c1, rfl, ho1⟩; have HO := Lib.hid ho1; clear ho1)
      go_loopw [6, 27] (fun v i wr => ∃ (j : Nat) (A : Option Addr) (c : Nat), j ≤ k ∧ i = .int .i64 j ∧ v = .slice A (tot (ss.take j)) c ∧ Own w wr A (tot (ss.take j)) c (allL (ss.take j))) (fun _ i _ => ((k : Int) - intOf i).toNat)
      case atStart => exact ⟨0, A1, c1, by omega, rfl, rfl, HO.out⟩
      case round =>
        obtain ⟨j, A, c, hj, rfl, rfl, hO⟩ := hrel
        have HO2 := Lib.hid hO
        clear hO
        by_cases hlt3 : j < k
        · have hjl : j < ss.length := by rw [HN.out]; exact hlt3
          have hc := ((HO2.out).below.cell (p := ⟨g, j, none⟩) hlt).trans (row_cell HG.out hjl)
          have HSj := Lib.hid ((HS.out j hjl).below HO2.out.below)
          have HX2 := Lib.hid (tot_next ss j hjl)
          have HL2 := Lib.hid (allL_next ss j hjl)
          have h2 : tot (ss.take j) + ss[j].n ≤ 100000 := by have := tot_le ss (j + 1); have h2 := HT.out; rw [HX2.out] at this; omega
          generalize hT2 : tot (ss.take j) = T2 at *
          generalize ss[j].n = n2 at *
          generalize ss[j].A = A2 at *
          generalize ss[j].c = c2 at *
          clear hT2
          go_wp2_with (at_builtin; refine wpList_app (W := w) rfl (.tmp 31) (.tmp 32) rfl rfl rfl HO2.out HSj.out (by omega) ?_; intro A3 c3 w3 hw3; have HW := Lib.hid hw3; clear hw3)
          go_roundw
          case rel => exact ⟨j + 1, A3, c3, by omega, by go_num, by rw [HX2.out], by rw [HX2.out, HL2.out]; exact HW.out⟩
          case measure => simp [intOf]; omega
        · obtain rfl : j = k := by omega
          go_wp2
          go_ret
          have hO := HO2.out
          have e : ss.take j = ss := List.take_of_length_le (by rw [HN.out]; exact Nat.le_refl _)
          rw [e] at hO
          exact ⟨A, c, by rw [e]; rfl, hO⟩
end Go.Proofs.YtnlkggfgloblcaaGreat
