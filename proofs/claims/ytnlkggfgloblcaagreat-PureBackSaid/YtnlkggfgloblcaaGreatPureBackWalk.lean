/-
  The call of the statement PureBack answers true at every stack; of what was there nothing has changed.
-/
import Derived.Test.YtnlkggfgloblcaaGreatPureAwake
import Derived.Test.YtnlkggfgloblcaaGreatPureBackMath
namespace Go.Proofs.YtnlkggfgloblcaaGreat
open Go.RowKit

set_option maxHeartbeats 2000000 in
theorem pureBack_walk (A : Option Addr) (n q : Nat) (d : List Int) (w : World) (h1 : Stk w A n q d) (hC : AllC d) :
    Calls Tryz.prog 5 #[.slice A n q] w fun e w' => e = .returned (.bool true) ∧ Keeps w w' := by
  have HL := Lib.hid h1.len
  have H1 := Lib.hid h1
  clear h1
  by_cases g1 : 64 < n
  · have d1 : decide ((64 : Int) < (n : Int)) = true := decide_eq_true (by omega)
    clear hC
    go_enter Tryz.func5, Tryz.ntmps5
    go_wp2_with (go_at_call 11; refine (pawake_any _).mono ?_; rintro e w1 ⟨rfl, hb⟩; have HB := Lib.hid hb; clear hb)
    go_ret
    exact ⟨rfl, HB.out⟩
  · have d1 : decide ((64 : Int) < (n : Int)) = false := decide_eq_false (by omega)
    by_cases g2 : n < 4
    · have d2 : decide ((n : Int) < 4) = true := decide_eq_true (by omega)
      clear hC
      go_enter Tryz.func5, Tryz.ntmps5
      go_wp2_with (go_at_call 11; refine (pawake_any _).mono ?_; rintro e w1 ⟨rfl, hb⟩; have HB := Lib.hid hb; clear hb)
      go_ret
      exact ⟨rfl, HB.out⟩
    · have d2 : decide ((n : Int) < 4) = false := decide_eq_false (by omega)
      have hn : n ≤ 10000 := by omega
      obtain ⟨k1, k2⟩ := back_all (d := d) (by rw [HL.out]; omega) (by rw [HL.out]; omega) hC
      have HC := Lib.hid hC
      have K1 := Lib.hid k1
      have K2 := Lib.hid k2
      clear hC k1 k2
      go_enter Tryz.func5, Tryz.ntmps5
      go_wp2_with (first
        | (go_at_call 11; (with_reducible refine (pawake_any _).mono ?_); rintro e w1 ⟨rfl, hb⟩; have HB := Lib.hid hb; clear hb)
        | (go_at_call 14; have hw := B2; refine (all_ok _ _ _ _ _ _ _ _ _ _ (by omega) hn (stk_at _ _ [41, 42, 72, 42, 42, 42, 42, 42, 42, 42, 42] 11 _ rfl rfl (by decide)) (H1.out.keeps (B2.out.alloc _)) HC.out K2.out).mono ?_; rintro e w3 ⟨A3, n3, q3, rfl, ho, hb⟩; have hn3 : n3 ≤ 10000 := ho.len ▸ HL.out ▸ hn; have HO3 := Lib.hid ho; have HO23 := Lib.hid (HO2.out.keeps (Keeps.trans ((Keeps.refl _).alloc _) hb)); have B3 := Lib.hid (Keeps.trans (B2.out.alloc _) hb); clear ho hb hw)
        | (go_at_call 14; refine (all_ok _ _ _ _ _ _ _ _ _ _ (by omega) hn (stk_at _ _ [20, 20, 22, 22, 22, 45, 45, 52, 52, 70, 70, 27, 27] 13 _ rfl rfl (by decide)) (H1.out.keeps (HB.out.alloc _)) HC.out K1.out).mono ?_; rintro e w2 ⟨A2, n2, q2, rfl, ho, hb⟩; have hn2 : n2 ≤ 10000 := ho.len ▸ HL.out ▸ hn; have HO2 := Lib.hid ho; have B2 := Lib.hid (Keeps.trans (HB.out.alloc _) hb); clear ho hb)
        | (go_at_call 16; have hw := B4; (with_reducible refine (same_k _ _ _ _ _ _ _ _ _ hn3 (HO3.out.keeps B4.out) (H1.out.keeps (B3.out.trans B4.out)) rfl).mono ?_); rintro e w5 ⟨rfl, hb⟩; have B5 := Lib.hid (B4.out.trans hb); clear hb hw)
        | (go_at_call 16; (with_reducible refine (same_k _ _ _ _ _ _ _ _ _ hn2 HO23.out (H1.out.keeps B3.out) rfl).mono ?_); rintro e w4 ⟨rfl, hb⟩; have B4 := Lib.hid hb; clear hb))
      go_ret
      exact ⟨rfl, B3.out.trans B5.out⟩
end Go.Proofs.YtnlkggfgloblcaaGreat
