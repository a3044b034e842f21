/-
  The statements' own parts, the document's Same (tenterhookref21), and the example (awake).
-/
import Derived.Test.YtpkjepbeeebdoaaDoorHistSays
import Derived.IntWalk
import Derived.BigQuiet
import Derived.Deep.Cut
import Derived.Deep.QuietTactic
namespace Go.Proofs.YtpkjepbeeebdoaaDoor
open Go.RowKit

/-- A row that reads as before, in memory of the call's own. -/
def HPPost (n : Nat) (l : List Hop) (w : World) (e : Ending) (w' : World) : Prop :=
  ∃ A' c', e = .returned (.slice A' n c') ∧ Rw hpK w' A' n c' l ∧ Below w.heap.size w w'
set_option maxHeartbeats 1000000 in
theorem parts_is (A : Option Addr) (n c : Nat) (l : List Hop) (w : World) (hn : n ≤ 1000) (h : Rw hpK w A n c l) :
    Calls Tryd.prog 10 #[.slice A n c] w (HPPost n l w) := by
  have H := Lib.hid h
  have HL := Lib.hid h.len
  clear h
  have O0 := Lib.hid (OwnR.nil hpK 48 w.heap.size w)
  go_enter Tryd.func10, Tryd.ntmps10
  go_wp2
  go_loopw [3, 4] (fun v i wr => ∃ (j : Nat) (A' : Option Addr) (c' : Nat), j ≤ n ∧ v = .slice A' j c' ∧ i = .int .i64 j ∧ OwnR hpK 48 w.heap.size wr A' j c' (l.take j) ∧ Below w.heap.size w wr) (fun _ i _ => ((n : Int) - intOf i).toNat)
  case atStart => exact ⟨0, none, 0, by omega, rfl, rfl, O0.out, Below.refl _ _⟩
  case round =>
    obtain ⟨j, A', c', hj, rfl, rfl, hO, hb⟩ := hrel
    have HO := Lib.hid hO
    have HV := Lib.hid hb
    clear hO hb
    by_cases hlt : j < n
    · have hjl : j < l.length := by rw [HL.out]; exact hlt
      obtain ⟨xb, xo, rfl, hbl, f0, f1, f2, f3, f4, f5, f6⟩ := hp_at (H.out.below HV.out) j hlt
      obtain ⟨x, hx⟩ : ∃ x, l.getD j hz = x := ⟨_, rfl⟩
      have HX := Lib.hid (take_one l j hz hjl x hx)
      rw [hx] at f0 f1 f2 f3 f4 f5 f6
      clear hx
      have B2 := Lib.hid (two_new wr (.cells #[.int .i64 x.t, .int .i64 x.k, .int .i64 x.g, .int .i64 x.r, .bool x.y, .int .i64 x.f, .int .i64 x.e] 28) (.cells #[.int .i64 x.t, .int .i64 x.k, .int .i64 x.g, .int .i64 x.r, .bool x.y, .int .i64 x.f, .int .i64 x.e] 48))
      have I2 := Lib.hid (Rw.new (K := hpK) (wr.alloc (.cells #[.int .i64 x.t, .int .i64 x.k, .int .i64 x.g, .int .i64 x.r, .bool x.y, .int .i64 x.f, .int .i64 x.e] 28)) 48 [x] 1 rfl _ rfl (wr.heap.size + 1) (by simp))
      go_wp2_with (at_builtin; refine wpList_appRw ktRp (B := w.heap.size) rfl (.tmp 16) (.tmp 32) rfl rfl rfl (by have := HV.out.size; simp; omega) (HO.out.keep B2.out) I2.out (by omega) ?_; intro A3 c3 w3 hw3 hb3; have HW := Lib.hid hw3; have HB3 := Lib.hid hb3; clear hw3 hb3)
      go_roundw
      case rel => exact ⟨j + 1, A3, c3, by omega, rfl, by go_num, by rw [HX.out]; exact HW.out, (below_then HV.out B2.out).trans HB3.out⟩
      case measure => simp [intOf]; omega
    · obtain rfl : j = n := by omega
      go_wp2
      go_ret
      exact ⟨A', c', rfl, (HO.out.rw (by decide)).as (List.take_of_length_le (by rw [HL.out]; exact Nat.le_refl _)), HV.out⟩
theorem neHp (w : World) (x : Hop) : (binOp .neq 48 (.agg #[.int .i64 x.t, .int .i64 x.k, .int .i64 x.g, .int .i64 x.r, .bool x.y, .int .i64 x.f, .int .i64 x.e]) (.agg #[.int .i64 x.t, .int .i64 x.k, .int .i64 x.g, .int .i64 x.r, .bool x.y, .int .i64 x.f, .int .i64 x.e])).run Tryd.prog w = .ok (.bool false) w := by
  have u3 := Tryd.underlying3
  have a3 := Tryd.isAgg3
  have z3 := Tryd.sizeOf3
  have u4 := Tryd.underlying4
  have a4 := Tryd.isAgg4
  have z4 := Tryd.sizeOf4
  have hS : Tryd.prog.underlying 48 = some (.struct (Tryd.prog.fieldsOf 48)) := by kernel_rfl
  have hp : Tryd.prog.stoodInHeld 48 = false := by kernel_rfl
  rw [run_neq_struct, show (10000 : Nat) = 9999 + 1 from rfl, run_equalIn_agg w 9999 48 _ _ hS hp]
  simp only [Program.fieldsOf, Tryd.underlying48]
  go_simp
set_option maxHeartbeats 1000000 in
/-- Rows of operations that are the same. -/
theorem rhsame_is (A : Option Addr) (n c : Nat) (B : Option Addr) (m d : Nat) (l : List Hop) (w : World) (hn : n ≤ 1000) (h : Rw hpK w A n c l) (h' : Rw hpK w B m d l) :
    Calls Tryd.prog 9 #[.slice A n c, .slice B m d] w fun e w' => e = .returned (.bool true) ∧ Below w.heap.size w w' := by
  obtain rfl : n = m := h.len.symm.trans h'.len
  have H := Lib.hid h
  have H' := Lib.hid h'
  have hnn : ((n : Int) != (n : Int)) = false := by simp
  have qne := neHp
  clear h h'
  go_enter Tryd.func9, Tryd.ntmps9
  go_wp2
  go_loopw [5] (fun i wr => ∃ k j : Nat, k ≤ n ∧ i = .int .i64 k ∧ wr = w.drewN j) (fun i _ => ((n : Int) - intOf i).toNat)
  case atStart => exact ⟨0, 0, by omega, rfl, rfl⟩
  case round =>
    obtain ⟨k, j, hk, rfl, rfl⟩ := hrel
    by_cases hlt : k < n
    · obtain ⟨xb, xo, rfl, hbl, f0, f1, f2, f3, f4, f5, f6⟩ := hp_at H.out k hlt
      obtain ⟨yb, yo, rfl, hbl', g0, g1, g2, g3, g4, g5, g6⟩ := hp_at H'.out k hlt
      generalize l.getD k hz = x at f0 f1 f2 f3 f4 f5 f6 g0 g1 g2 g3 g4 g5 g6
      have hk0 : (0 : Int) ≤ (k : Int) := by omega
      have hkn : (k : Int) < (n : Int) := by omega
      go_wp2
      go_quiet (fail)
      go_wp2
      go_roundw
      case rel => exact ⟨k + 1, _, by omega, by go_num, rfl⟩
      case measure => simp [intOf]; omega
    · go_wp2
      go_ret
      exact ⟨rfl, belowN (Below.refl _ _) j⟩
end Go.Proofs.YtpkjepbeeebdoaaDoor
