/-
  Two words are one, or not, as Go compares structs; so are two places, and two instructions.
-/
import Derived.Test.YtkpomphjicoaeaaDictConcat
import Derived.Test.YtkpomphjicoaeaaScanCalls
import Derived.Laws.StructEq
import Derived.Deep.QuietTactic
import Derived.BigQuiet
namespace Go.Proofs.Ytkpomphjicoaeaa
open Go.RowKit

theorem eqPI (w : World) (a b c d : Int) : (binOp .eql 58 (.agg #[.int .i64 a, .int .i64 b]) (.agg #[.int .i64 c, .int .i64 d])).run Try.prog w = .ok (.bool (a == c && b == d)) w := by
  have u3 := Try.underlying3
  have a3 := Try.isAgg3
  have z3 := Try.sizeOf3
  have hS : Try.prog.underlying 58 = some (.struct (Try.prog.fieldsOf 58)) := by kernel_rfl
  have hp : Try.prog.stoodInHeld 58 = false := by kernel_rfl
  rw [run_eql_struct, show (10000 : Nat) = 9999 + 1 from rfl, run_equalIn_agg w 9999 58 _ _ hS hp]
  simp only [Program.fieldsOf, Try.underlying58]
  go_simp
  by_cases h1 : a = c <;> by_cases h2 : b = d <;> simp [h1, h2]
theorem nePI (w : World) (a b c d : Int) : (binOp .neq 58 (.agg #[.int .i64 a, .int .i64 b]) (.agg #[.int .i64 c, .int .i64 d])).run Try.prog w = .ok (.bool (!(a == c && b == d))) w := by
  have u3 := Try.underlying3
  have a3 := Try.isAgg3
  have z3 := Try.sizeOf3
  have hS : Try.prog.underlying 58 = some (.struct (Try.prog.fieldsOf 58)) := by kernel_rfl
  have hp : Try.prog.stoodInHeld 58 = false := by kernel_rfl
  rw [run_neq_struct, show (10000 : Nat) = 9999 + 1 from rfl, run_equalIn_agg w 9999 58 _ _ hS hp]
  simp only [Program.fieldsOf, Try.underlying58]
  go_simp
  by_cases h1 : a = c <;> by_cases h2 : b = d <;> simp [h1, h2]
theorem eqPP (w : World) (a b c d : Int) : (binOp .eql 24 (.agg #[.int .i64 a, .int .i64 b]) (.agg #[.int .i64 c, .int .i64 d])).run Try.prog w = .ok (.bool (a == c && b == d)) w := by
  have u3 := Try.underlying3
  have a3 := Try.isAgg3
  have z3 := Try.sizeOf3
  have hS : Try.prog.underlying 24 = some (.struct (Try.prog.fieldsOf 24)) := by kernel_rfl
  have hp : Try.prog.stoodInHeld 24 = false := by kernel_rfl
  rw [run_eql_struct, show (10000 : Nat) = 9999 + 1 from rfl, run_equalIn_agg w 9999 24 _ _ hS hp]
  simp only [Program.fieldsOf, Try.underlying24]
  go_simp
  by_cases h1 : a = c <;> by_cases h2 : b = d <;> simp [h1, h2]
theorem nePP (w : World) (a b c d : Int) : (binOp .neq 24 (.agg #[.int .i64 a, .int .i64 b]) (.agg #[.int .i64 c, .int .i64 d])).run Try.prog w = .ok (.bool (!(a == c && b == d))) w := by
  have u3 := Try.underlying3
  have a3 := Try.isAgg3
  have z3 := Try.sizeOf3
  have hS : Try.prog.underlying 24 = some (.struct (Try.prog.fieldsOf 24)) := by kernel_rfl
  have hp : Try.prog.stoodInHeld 24 = false := by kernel_rfl
  rw [run_neq_struct, show (10000 : Nat) = 9999 + 1 from rfl, run_equalIn_agg w 9999 24 _ _ hS hp]
  simp only [Program.fieldsOf, Try.underlying24]
  go_simp
  by_cases h1 : a = c <;> by_cases h2 : b = d <;> simp [h1, h2]
/-- Are two words one? -/
def eEq (a b : En) : Bool := nEq a.s b.s && (a.m == b.m && (a.k == b.k && (a.v == b.v && (a.t == b.t && a.p == b.p))))
theorem eEq_iff {a b : En} : eEq a b = true ↔ a = b := by
  unfold eEq
  simp only [Bool.and_eq_true, nEq_iff, beq_iff_eq]
  exact ⟨fun ⟨h1, h2, h3, h4, h5, h6⟩ => En.ext' h1 h2 h3 h4 h5 h6, fun h => by rw [h]; exact ⟨rfl, rfl, rfl, rfl, rfl, rfl⟩⟩
theorem neE (w : World) (S : ByteArray) (m : Bool) (k v t p : Int) (S' : ByteArray) (m' : Bool) (k' v' t' p' : Int) (r : Bool) (hr : eEq ⟨S, m, k, v, t, p⟩ ⟨S', m', k', v', t', p'⟩ = r) : (binOp .neq 26 (.agg #[.string S, .bool m, .int .i64 k, .int .i64 v, .int .i64 t, .int .i64 p]) (.agg #[.string S', .bool m', .int .i64 k', .int .i64 v', .int .i64 t', .int .i64 p'])).run Try.prog w = .ok (.bool (!r)) w := by
  have u3 := Try.underlying3
  have a3 := Try.isAgg3
  have z3 := Try.sizeOf3
  have u4 := Try.underlying4
  have a4 := Try.isAgg4
  have z4 := Try.sizeOf4
  have u5 := Try.underlying9
  have a5 := Try.isAgg9
  have z5 := Try.sizeOf9
  have u6 := Try.underlying24
  have a6 := Try.isAgg24
  have z6 := Try.sizeOf24
  have hS : Try.prog.underlying 26 = some (.struct (Try.prog.fieldsOf 26)) := by kernel_rfl
  have hp : Try.prog.stoodInHeld 26 = false := by kernel_rfl
  have hS2 : Try.prog.underlying 24 = some (.struct (Try.prog.fieldsOf 24)) := by kernel_rfl
  have hp2 : Try.prog.stoodInHeld 24 = false := by kernel_rfl
  rw [run_neq_struct, show (10000 : Nat) = 9999 + 1 from rfl, run_equalIn_agg w 9999 26 _ _ hS hp]
  simp only [Program.fieldsOf, Try.underlying26]
  go_simp
  rw [← hr]
  have e1 : nEq S S' = decide (S.toList = S'.toList) := by unfold nEq; rw [toL, toL]
  simp only [eEq, e1]
  by_cases h1 : S.toList = S'.toList <;> by_cases h2 : m = m' <;> by_cases h3 : k = k' <;> by_cases h4 : v = v' <;> by_cases h5 : t = t' <;> by_cases h6 : p = p' <;> simp [h1, h2, h3, h4, h5, h6]
theorem eqE (w : World) (S : ByteArray) (m : Bool) (k v t p : Int) (S' : ByteArray) (m' : Bool) (k' v' t' p' : Int) (r : Bool) (hr : eEq ⟨S, m, k, v, t, p⟩ ⟨S', m', k', v', t', p'⟩ = r) : (binOp .eql 37 (.agg #[.string S, .bool m, .int .i64 k, .int .i64 v, .int .i64 t, .int .i64 p]) (.agg #[.string S', .bool m', .int .i64 k', .int .i64 v', .int .i64 t', .int .i64 p'])).run Try.prog w = .ok (.bool r) w := by
  have u3 := Try.underlying3
  have a3 := Try.isAgg3
  have z3 := Try.sizeOf3
  have u4 := Try.underlying4
  have a4 := Try.isAgg4
  have z4 := Try.sizeOf4
  have u5 := Try.underlying9
  have a5 := Try.isAgg9
  have z5 := Try.sizeOf9
  have u6 := Try.underlying24
  have a6 := Try.isAgg24
  have z6 := Try.sizeOf24
  have hS : Try.prog.underlying 37 = some (.struct (Try.prog.fieldsOf 37)) := by kernel_rfl
  have hp : Try.prog.stoodInHeld 37 = false := by kernel_rfl
  have hS2 : Try.prog.underlying 24 = some (.struct (Try.prog.fieldsOf 24)) := by kernel_rfl
  have hp2 : Try.prog.stoodInHeld 24 = false := by kernel_rfl
  rw [run_eql_struct, show (10000 : Nat) = 9999 + 1 from rfl, run_equalIn_agg w 9999 37 _ _ hS hp]
  simp only [Program.fieldsOf, Try.underlying37]
  go_simp
  rw [← hr]
  have e1 : nEq S S' = decide (S.toList = S'.toList) := by unfold nEq; rw [toL, toL]
  simp only [eEq, e1]
  by_cases h1 : S.toList = S'.toList <;> by_cases h2 : m = m' <;> by_cases h3 : k = k' <;> by_cases h4 : v = v' <;> by_cases h5 : t = t' <;> by_cases h6 : p = p' <;> simp [h1, h2, h3, h4, h5, h6]
theorem take_eq_nextE (l l' : List En) (j : Nat) (h1 : j < l.length) (h2 : j < l'.length) : (l.take (j + 1) = l'.take (j + 1)) ↔ (l.take j = l'.take j ∧ l.getD j e0 = l'.getD j e0) := by
  rw [List.take_succ_eq_append_getElem h1, List.take_succ_eq_append_getElem h2]
  have e1 : l.getD j e0 = l[j] := by simp [List.getD, h1]
  have e2 : l'.getD j e0 = l'[j] := by simp [List.getD, h2]
  rw [e1, e2]
  constructor
  · intro h
    have := List.append_inj' h rfl
    exact ⟨this.1, by simpa using this.2⟩
  · rintro ⟨h3, h4⟩
    rw [h3, h4]
theorem take_eq_next (l l' : List (Int × Int)) (j : Nat) (h1 : j < l.length) (h2 : j < l'.length) : (l.take (j + 1) = l'.take (j + 1)) ↔ (l.take j = l'.take j ∧ l.getD j (0, 0) = l'.getD j (0, 0)) := by
  rw [List.take_succ_eq_append_getElem h1, List.take_succ_eq_append_getElem h2]
  have e1 : l.getD j (0, 0) = l[j] := by simp [List.getD, h1]
  have e2 : l'.getD j (0, 0) = l'[j] := by simp [List.getD, h2]
  rw [e1, e2]
  constructor
  · intro h
    have := List.append_inj' h rfl
    exact ⟨this.1, by simpa using this.2⟩
  · rintro ⟨h3, h4⟩
    rw [h3, h4]
set_option maxHeartbeats 1000000 in
theorem code_any (A B : Option Addr) (n c m d : Nat) (l l' : List (Int × Int)) (r : Bool) (w : World) (hn : n ≤ 100000) (hm : m ≤ 100000) (h : Prs w A n c l) (h' : Prs w B m d l') (hr : decide (l = l') = r) :
    Calls Try.prog 23 #[.slice A n c, .slice B m d] w fun e w' => e = .returned (.bool r) ∧ Below w.heap.size w w' := by
  have HL := Lib.hid h.len
  have HL' := Lib.hid h'.len
  have H := Lib.hid h
  have H' := Lib.hid h'
  have HR := Lib.hid hr
  have q := nePI
  clear h h' hr
  by_cases hnm : n = m
  · subst hnm
    go_enter Try.func23, Try.ntmps23
    go_wp2
    go_loopw [5] (fun i wr => ∃ j : Nat, j ≤ n ∧ i = .int .i64 j ∧ l.take j = l'.take j ∧ Below w.heap.size w wr) (fun i _ => ((n : Int) - intOf i).toNat)
    case atStart => exact ⟨0, by omega, rfl, rfl, Below.refl _ _⟩
    case round =>
      obtain ⟨j, hj, rfl, ha, hb⟩ := hrel
      have HA := Lib.hid ha
      have HV := Lib.hid hb
      clear ha hb
      by_cases hlt : j < n
      · have hjl : j < l.length := by have := HL.out; omega
        have hjl' : j < l'.length := by have := HL'.out; omega
        obtain ⟨xb, xo, rfl, hbl, e0, e1⟩ := (H.out.below HV.out).at_ j hlt
        obtain ⟨yb, yo, rfl, hbl', f0, f1⟩ := (H'.out.below HV.out).at_ j hlt
        have HN := Lib.hid (take_eq_next l l' j hjl hjl')
        generalize l.getD j (0, 0) = p at *
        generalize l'.getD j (0, 0) = p' at *
        obtain ⟨x, y⟩ := p
        obtain ⟨x', y'⟩ := p'
        cases hxy : (x == x' && y == y')
        · have HG : Hid (r = false) := Lib.hid (by
            rw [← HR.out]
            refine decide_eq_false fun h => ?_
            have h2 := (HN.out.1 (by rw [h])).2
            injection h2 with h3 h4
            subst h3 h4
            simp at hxy)
          go_wp2
          go_quiet (fail)
          go_wp2
          go_ret
          exact ⟨by rw [HG.out]; rfl, below_drewN HV.out _⟩
        · have HG : Hid (l.take (j + 1) = l'.take (j + 1)) := Lib.hid (HN.out.2 ⟨HA.out, by simp at hxy; rw [hxy.1, hxy.2]⟩)
          go_wp2
          go_quiet (fail)
          go_wp2
          go_roundw
          case rel => exact ⟨j + 1, by omega, by go_num, HG.out, below_drewN HV.out _⟩
          case measure => simp [intOf]; omega
      · obtain rfl : j = n := by omega
        have HG : Hid (r = true) := Lib.hid (by
          rw [← HR.out]
          have := HA.out
          rw [List.take_of_length_le (by have := HL.out; omega), List.take_of_length_le (by have := HL'.out; omega)] at this
          exact decide_eq_true this)
        go_wp2
        go_ret
        exact ⟨by rw [HG.out]; rfl, HV.out⟩
  · have hne : ((n : Int) != (m : Int)) = true := by simp; omega
    obtain rfl : false = r := by
      rw [← HR.out]
      refine (decide_eq_false fun h => hnm ?_).symm
      rw [← HL.out, ← HL'.out, h]
    go_enter Try.func23, Try.ntmps23
    go_wp2
    go_ret
    exact ⟨rfl, Below.refl _ _⟩
end Go.Proofs.Ytkpomphjicoaeaa
