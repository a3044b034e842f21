/-
  What All answers, whatever the numbers and the stack.
-/
import Derived.Test.YtnlkggfgloblcaaGreatPureDo
import Derived.Test.YtnlkggfgloblcaaGreatPureFacts
namespace Go.Proofs.YtnlkggfgloblcaaGreat
open Go.RowKit

/-- What stands at the head of a round. -/
def AlRel (w : World) (ops d : List Int) (m : Nat) (v i : Value) (wr : World) : Prop :=
  ∃ (k : Nat) (A : Option Addr) (n q : Nat) (d' : List Int), k ≤ m ∧ i = .int .i64 k ∧ v = .slice A n q ∧ n ≤ 10000 ∧ Stk wr A n q d' ∧ AllC d' ∧ alE (ops.drop k) d' = alE ops d ∧ alL (ops.drop k) d' = alL ops d ∧ Keeps w wr
set_option maxHeartbeats 1000000 in
theorem all_any (B : Option Addr) (m b : Nat) (ops : List Int) (A : Option Addr) (n q : Nat) (d : List Int) (w : World) (hm : m ≤ 10000) (hn : n ≤ 10000) (h2 : Stk w B m b ops) (h1 : Stk w A n q d) (hC : AllC d) :
    Calls Tryz.prog 14 #[.slice B m b, .slice A n q] w (PuPost w (alL ops d) (alE ops d)) := by
  have HM := Lib.hid h2.len
  have H1 := Lib.hid h1
  have H2 := Lib.hid h2
  have HC := Lib.hid hC
  clear h1 h2 hC
  go_enter Tryz.func14, Tryz.ntmps14
  go_wp2
  go_loopw [1, 12] (fun v i wr => AlRel w ops d m v i wr) (fun _ i _ => ((m : Int) - intOf i).toNat)
  case atStart => exact ⟨0, A, n, q, d, by omega, rfl, rfl, hn, H1.out, HC.out, rfl, rfl, Keeps.refl _⟩
  case round =>
    obtain ⟨k, A', n', q', d', hk, rfl, rfl, hn', hs, hc, he, hl, hw⟩ := hrel
    have HS := Lib.hid hs
    have HD := Lib.hid hc
    have HE := Lib.hid he
    have HL := Lib.hid hl
    have HW := Lib.hid hw
    clear hs hc he hl hw
    by_cases h8 : k < m
    · have hkt : k < ops.length := by rw [HM.out]; exact h8
      obtain ⟨b2, o2, rfl, hb2, hc2⟩ := (H2.out.keeps HW.out).at_ k h8
      have HG : Hid (ops.drop k = ops.getD k 0 :: ops.drop (k + 1)) := by
        show _ = _
        rw [List.drop_eq_getElem_cons hkt]
        simp [List.getD, hkt]
      generalize ops.getD k 0 = o at HG hc2
      have hdo := do_any o A' n' q' d' wr hn' HS.out HD.out
      by_cases hp : doE o d' = 0
      · rw [hp] at hdo
        have HDO := Lib.hid hdo
        have HP := Lib.hid hp
        clear hdo hp
        go_wp2_with (go_at_call 12; (with_reducible refine HDO.out.mono ?_); rintro e w1 ⟨A1, n1, q1, rfl, ho, hb⟩; have HO := Lib.hid ho; have HB := Lib.hid hb; clear ho hb)
        go_roundw
        case rel => exact ⟨k + 1, A1, n1, q1, doL o d', by omega, by go_num, rfl, by have := HO.out.len; have := doL_length HP.out; omega, HO.out, doL_in _ HD.out, by rw [← alE_cons_ok HP.out, ← HG.out]; exact HE.out, by rw [← alL_cons_ok HP.out, ← HG.out]; exact HL.out, HW.out.trans HB.out⟩
        case measure => simp [intOf]; omega
      · have hE1 := alE_cons_no (r := ops.drop (k + 1)) hp
        have hL1 := alL_cons_no (r := ops.drop (k + 1)) hp
        rw [← HG.out, HE.out] at hE1
        rw [← HG.out, HL.out] at hL1
        rw [← hE1] at hdo hp
        have hne : (alE ops d != 0) = true := by simpa using hp
        rw [hL1]
        generalize alE ops d = E at *
        have HDO := Lib.hid hdo
        clear hdo hp hE1 hL1 HE HL
        go_wp2_with (go_at_call 12; (with_reducible refine HDO.out.mono ?_); rintro e w1 ⟨A1, n1, q1, rfl, ho, hb⟩; have HO := Lib.hid ho; have HB := Lib.hid hb; clear ho hb)
        go_ret2
        exact ⟨A', n', q', rfl, HS.out.keeps HB.out, HW.out.trans HB.out⟩
    · obtain rfl : k = m := by omega
      have hx : ops.drop k = [] := List.drop_eq_nil_of_le (by have := HM.out; omega)
      have hE1 := HE.out
      have hL1 := HL.out
      rw [hx] at hE1 hL1
      have HEE : Hid (0 = alE ops d) := hE1
      have HLL : Hid (d' = alL ops d) := hL1
      clear hE1 hL1 hx
      go_wp2
      go_ret2
      exact pu_ret HS.out HW.out HLL.out HEE.out
end Go.Proofs.YtnlkggfgloblcaaGreat
