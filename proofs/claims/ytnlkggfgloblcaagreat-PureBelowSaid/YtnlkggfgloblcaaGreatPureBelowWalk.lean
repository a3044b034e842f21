/-
  The call of the statement PureBelow answers true at every operation and every two stacks; of what was there nothing has changed.
-/
import Derived.Test.YtnlkggfgloblcaaGreatPureRowsWalk
import Derived.Test.YtnlkggfgloblcaaGreatPureBelowMath
namespace Go.Proofs.YtnlkggfgloblcaaGreat
open Go.RowKit

section
variable (o : Int) (A : Option Addr) (n q : Nat) (d : List Int) (B : Option Addr) (m b : Nat) (u : List Int) (w : World)
set_option maxHeartbeats 1000000 in
set_option maxRecDepth 100000 in
theorem below_out (zn : n ≤ 140737488355328) (zm : m ≤ 140737488355328) (h : 50 < n + m ∨ o = 32 ∨ o = 30 ∨ o = 31) :
    Calls Tryz.prog 8 #[.int .i64 o, .slice A n q, .slice B m b] w fun e w' => e = .returned (.bool true) ∧ Keeps w w' := by
  by_cases g : 50 < n + m
  · have d1 : decide ((50 : Int) < (n : Int) + (m : Int)) = true := decide_eq_true (by omega)
    clear h
    go_enter Tryz.func8, Tryz.ntmps8
    go_wp2_with (go_at_call 11; refine (pawake_any _).mono ?_; rintro e w1 ⟨rfl, hb⟩; have HB := Lib.hid hb; clear hb)
    go_ret
    exact ⟨rfl, HB.out⟩
  · have d1 : decide ((50 : Int) < (n : Int) + (m : Int)) = false := decide_eq_false (by omega)
    have d2 : decide ((50 : Int) < (n : Int)) = false := decide_eq_false (by omega)
    have h' : (o == 32) = true ∨ ((o == 32) = false ∧ (o == 30) = true) ∨ ((o == 32) = false ∧ (o == 30) = false ∧ (o == 31) = true) := by
      rcases h with h | rfl | rfl | rfl
      · exact absurd h g
      · exact Or.inl rfl
      · exact Or.inr (Or.inl ⟨rfl, rfl⟩)
      · exact Or.inr (Or.inr ⟨rfl, rfl, rfl⟩)
    clear h
    rcases h' with d3 | ⟨d3, d4⟩ | ⟨d3, d4, d5⟩
    all_goals
      go_enter Tryz.func8, Tryz.ntmps8
      go_wp2_with (go_at_call 11; refine (pawake_any _).mono ?_; rintro e w1 ⟨rfl, hb⟩; have HB := Lib.hid hb; clear hb)
      go_ret
      exact ⟨rfl, HB.out⟩
set_option maxHeartbeats 1000000 in
set_option maxRecDepth 100000 in
theorem below_few (g : n + m ≤ 50) (d3 : (o == 32) = false) (d4 : (o == 30) = false) (d5 : (o == 31) = false) (h : n < puN o) :
    Calls Tryz.prog 8 #[.int .i64 o, .slice A n q, .slice B m b] w fun e w' => e = .returned (.bool true) ∧ Keeps w w' := by
  have d1 : decide ((50 : Int) < (n : Int) + (m : Int)) = false := decide_eq_false (by omega)
  have d2 : decide ((50 : Int) < (n : Int)) = false := decide_eq_false (by omega)
  have HN := Lib.hid (puN_nn o)
  generalize puN o = N at HN h
  have d6 : decide (n < N) = true := decide_eq_true h
  go_enter Tryz.func8, Tryz.ntmps8
  go_wp2_with (first
    | (go_at_call 11; refine (pawake_any _).mono ?_; rintro e w1 ⟨rfl, hb⟩; have HB := Lib.hid hb; clear hb)
    | (go_at_call 18; refine (needs_is _ _ HN.out _).mono ?_; rintro e w2 ⟨rfl, hb⟩; have HB2 := Lib.hid (HB.out.trans (keeps_below hb)); clear hb))
  go_ret
  exact ⟨rfl, HB2.out⟩
set_option maxHeartbeats 2000000 in
set_option maxRecDepth 100000 in
theorem below_in (h1 : Stk w A n q d) (h2 : Stk w B m b u) (hC : AllC d) (hU : AllC u) (g : n + m ≤ 50) (d3 : (o == 32) = false) (d4 : (o == 30) = false) (d5 : (o == 31) = false) (h : puN o ≤ n) :
    Calls Tryz.prog 8 #[.int .i64 o, .slice A n q, .slice B m b] w fun e w' => e = .returned (.bool true) ∧ Keeps w w' := by
  obtain ⟨eE, eL⟩ := below_at (o := o) (d := d) (u := u) (by rw [h1.len]; exact h) (by rw [h1.len, h2.len]; omega) (by simpa using d4) (by simpa using d5) (by simpa using d3)
  obtain ⟨E, hE⟩ : ∃ E, doE o d = E := ⟨_, rfl⟩
  obtain ⟨L, hL⟩ : ∃ L, doL o d = L := ⟨_, rfl⟩
  have hL64 : L.length ≤ 64 := by
    rw [← hL]
    by_cases h0 : doE o d = 0
    · exact doL_length h0
    · unfold doL; rw [if_neg h0, h1.len]; omega
  have KA : Hid (∀ W A q, Stk W A n q d → Calls Tryz.prog 12 #[.int .i64 o, .slice A n q] W (PuPost W L E)) := Lib.hid fun W A q h1 => by have := do_any o A n q d W (by omega) h1 hC; rw [hE, hL] at this; exact this
  have KB : Hid (∀ W A N q, N = m + n → Stk W A N q (u ++ d) → Calls Tryz.prog 12 #[.int .i64 o, .slice A N q] W (PuPost W (u ++ L) E)) := Lib.hid fun W A N q hN h1 => by have := do_any o A N q (u ++ d) W (by omega) h1 (allC_append hU hC); rw [eE, eL, hE, hL] at this; exact this
  have d1 : decide ((50 : Int) < (n : Int) + (m : Int)) = false := decide_eq_false (by omega)
  have d2 : decide ((50 : Int) < (n : Int)) = false := decide_eq_false (by omega)
  have HN := Lib.hid (puN_nn o)
  generalize puN o = N at HN h
  have d6 : decide (n < N) = false := decide_eq_false (by omega)
  have hEE : (E == E) = true := by simp
  have H1 := Lib.hid h1
  have H2 := Lib.hid h2
  have HX := Lib.hid h2.len
  have H64 := Lib.hid hL64
  clear h1 h2 hC hU eE eL hE hL hL64
  go_enter Tryz.func8, Tryz.ntmps8
  go_wp2_with (first
    | (go_at_call 11; refine (pawake_any _).mono ?_; rintro e w1 ⟨rfl, hb⟩; have HB := Lib.hid hb; clear hb)
    | (go_at_call 18; refine (needs_is _ _ HN.out _).mono ?_; rintro e w2 ⟨rfl, hb⟩; have HB2 := Lib.hid (HB.out.trans (keeps_below hb)); clear hb)
    | (go_at_call 12; (with_reducible refine (KB.out _ _ _ _ rfl O5.out.stk).mono ?_); rintro e w6 ⟨A6, n6, q6, rfl, ho, hb⟩; have HO6 := Lib.hid ho; have HB6 := Lib.hid (HB5.out.trans hb); have HK36 := Lib.hid (O5.out.keepsW.trans hb); have hn6 : n6 ≤ 10000 := (by have := ho.len; have h9 := H64.out; have h8 := HX.out; rw [List.length_append] at this; omega); clear ho hb)
    | (go_at_call 12; (with_reducible refine (KA.out _ _ _ (H1.out.keeps HB2.out)).mono ?_); rintro e w3 ⟨A3, n3, q3, rfl, ho, hb⟩; have HO3 := Lib.hid ho; have HB3 := Lib.hid (HB2.out.trans hb); have hn3 : n3 ≤ 64 := (by have := ho.len; have h9 := H64.out; omega); clear ho hb)
    | (at_builtin; refine wpList_app (W := w6) rfl (.tmp 67) (.tmp 68) rfl rfl rfl O7.out ((HO3.out.keeps HK36.out).below O7.out.below) (by omega) ?_; intro A8 c8 w8 o8; have O8 := Lib.hid o8; clear o8)
    | (at_builtin; refine wpList_app (W := w6) rfl (.tmp 64) (.tmp 65) rfl rfl rfl (Own.made w6) ((H2.out.keeps HB6.out).alloc _) (by omega) ?_; intro A7 c7 w7 o7; rw [Nat.zero_add, List.nil_append] at o7; have O7 := Lib.hid o7; clear o7)
    | (at_builtin; refine wpList_app (W := w3) rfl (.tmp 55) (.tmp 56) rfl rfl rfl O4.out ((H1.out.keeps HB3.out).below O4.out.below) (by omega) ?_; intro A5 c5 w5 o5; have O5 := Lib.hid o5; have HB5 := Lib.hid (HB3.out.trans o5.keepsW); clear o5)
    | (at_builtin; refine wpList_app (W := w3) rfl (.tmp 52) (.tmp 53) rfl rfl rfl (Own.made w3) ((H2.out.keeps HB3.out).alloc _) (by omega) ?_; intro A4 c4 w4 o4; rw [Nat.zero_add, List.nil_append] at o4; have O4 := Lib.hid o4; clear o4)
    | (go_at_call 16; (with_reducible refine (same_k _ _ _ _ _ _ _ _ _ hn6 (HO6.out.keeps O8.out.keepsW) O8.out.stk rfl).mono ?_); rintro e w9 ⟨rfl, hb⟩; have HK9 := Lib.hid hb; clear hb))
  go_ret
  exact ⟨rfl, HB6.out.trans (O8.out.keepsW.trans HK9.out)⟩
theorem pureBelow_walk (h1 : Stk w A n q d) (h2 : Stk w B m b u) (hC : AllC d) (hU : AllC u) (zn : n ≤ 140737488355328) (zm : m ≤ 140737488355328) :
    Calls Tryz.prog 8 #[.int .i64 o, .slice A n q, .slice B m b] w fun e w' => e = .returned (.bool true) ∧ Keeps w w' := by
  by_cases h : 50 < n + m ∨ o = 32 ∨ o = 30 ∨ o = 31
  · exact below_out o A n q B m b w zn zm h
  · have d3 : (o == 32) = false := by simp; omega
    have d4 : (o == 30) = false := by simp; omega
    have d5 : (o == 31) = false := by simp; omega
    by_cases hN : n < puN o
    · exact below_few o A n q B m b w (by omega) d3 d4 d5 hN
    · exact below_in o A n q d B m b u w h1 h2 hC hU (by omega) d3 d4 d5 (by omega)
end
end Go.Proofs.YtnlkggfgloblcaaGreat
