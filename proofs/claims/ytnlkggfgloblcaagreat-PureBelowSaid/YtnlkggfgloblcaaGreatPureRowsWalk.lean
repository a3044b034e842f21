/-
  The call of the statement PureRows answers true at every two lists of operations and stack; of what was there nothing has changed.
-/
import Derived.Test.YtnlkggfgloblcaaGreatPureAwake
namespace Go.Proofs.YtnlkggfgloblcaaGreat
open Go.RowKit

/-- What is appended, in a world of which nothing that was there has changed. -/
theorem Own.keepsW {W w : World} {A : Option Addr} {n c : Nat} {l : List Int} (h : Own W w A n c l) : Keeps W w := keeps_below h.below
set_option maxHeartbeats 2000000 in
set_option maxRecDepth 100000 in
theorem pureRows_walk (A : Option Addr) (n c : Nat) (l : List Int) (B : Option Addr) (m b : Nat) (x : List Int) (D : Option Addr) (k q : Nat) (d : List Int) (w : World) (h1 : Stk w A n c l) (h2 : Stk w B m b x) (h3 : Stk w D k q d) (hC : AllC d) :
    Calls Tryz.prog 9 #[.slice A n c, .slice B m b, .slice D k q] w fun e w' => e = .returned (.bool true) ∧ Keeps w w' := by
  have HL := Lib.hid h1.len
  have HX := Lib.hid h2.len
  have HD := Lib.hid h3.len
  have H1 := Lib.hid h1
  have H2 := Lib.hid h2
  have H3 := Lib.hid h3
  have HC := Lib.hid hC
  clear h1 h2 h3 hC
  by_cases g : 40 < n ∨ 40 < m ∨ 64 < k
  · have hd : ((decide ((40 : Int) < (n : Int)) = true) ∨ (decide ((40 : Int) < (n : Int)) = false ∧ decide ((40 : Int) < (m : Int)) = true) ∨ (decide ((40 : Int) < (n : Int)) = false ∧ decide ((40 : Int) < (m : Int)) = false ∧ decide ((64 : Int) < (k : Int)) = true)) := by
      by_cases a1 : 40 < n
      · exact Or.inl (decide_eq_true (by omega))
      · by_cases a2 : 40 < m
        · exact Or.inr (Or.inl ⟨decide_eq_false (by omega), decide_eq_true (by omega)⟩)
        · exact Or.inr (Or.inr ⟨decide_eq_false (by omega), decide_eq_false (by omega), decide_eq_true (by omega)⟩)
    clear g
    rcases hd with d1 | ⟨d1, d2⟩ | ⟨d1, d2, d3⟩
    all_goals
      go_enter Tryz.func9, Tryz.ntmps9
      go_wp2_with (go_at_call 11; refine (pawake_any _).mono ?_; rintro e w1 ⟨rfl, hb⟩; have HB := Lib.hid hb; clear hb)
      go_ret
      exact ⟨rfl, HB.out⟩
  · have d1 : decide ((40 : Int) < (n : Int)) = false := decide_eq_false (by omega)
    have d2 : decide ((40 : Int) < (m : Int)) = false := decide_eq_false (by omega)
    have d3 : decide ((64 : Int) < (k : Int)) = false := decide_eq_false (by omega)
    have gn : n ≤ 40 := by omega
    have gm : m ≤ 40 := by omega
    have gk : k ≤ 64 := by omega
    have hap := al_append l x d
    have hal := Lib.hid (alL_in l HC.out)
    have hll := Lib.hid (alL_length l d (by rw [HD.out]; omega))
    clear g
    by_cases hE : alE l d = 0
    · have KA : Hid (∀ W B b A q, Stk W B n b l → Stk W A k q d → Calls Tryz.prog 14 #[.slice B n b, .slice A k q] W (PuPost W (alL l d) 0)) := Lib.hid fun W B b A q h2 h1 => by have := all_any B n b l A k q d W (by omega) (by omega) h2 h1 HC.out; rw [hE] at this; exact this
      obtain ⟨E, hE2⟩ : ∃ E, alE x (alL l d) = E := ⟨_, rfl⟩
      obtain ⟨L, hL2⟩ : ∃ L, alL x (alL l d) = L := ⟨_, rfl⟩
      have KB : Hid (∀ W B N b A q, N = n + m → Stk W B N b (l ++ x) → Stk W A k q d → Calls Tryz.prog 14 #[.slice B N b, .slice A k q] W (PuPost W L E)) := Lib.hid fun W B N b A q hN h2 h1 => by have := all_any B N b (l ++ x) A k q d W (by omega) (by omega) h2 h1 HC.out; rw [(hap.1 hE).1, (hap.1 hE).2, hE2, hL2] at this; exact this
      have KC : Hid (∀ W B b A j q, Stk W B m b x → Stk W A j q (alL l d) → Calls Tryz.prog 14 #[.slice B m b, .slice A j q] W (PuPost W L E)) := Lib.hid fun W B b A j q h2 h1 => by have := all_any B m b x A j q (alL l d) W (by omega) (by have := h1.len; have := hll.out; omega) h2 h1 hal.out; rw [hE2, hL2] at this; exact this
      have hLl := Lib.hid (show L.length ≤ 10000 by rw [← hL2]; exact alL_length _ _ hll.out)
      have hEE : (E == E) = true := by simp
      generalize alL l d = M at *
      clear hap hE hE2 hL2
      go_enter Tryz.func9, Tryz.ntmps9
      go_wp2_with (first
        | (go_at_call 11; (with_reducible refine (pawake_any _).mono ?_); rintro e w1 ⟨rfl, hb⟩; have HB1 := Lib.hid hb; clear hb)
        | (at_builtin; refine wpList_app (W := w1) rfl (.tmp 33) (.tmp 34) rfl rfl rfl O2.out ((H2.out.keeps HB1.out).below O2.out.below) (by omega) ?_; intro A3 c3 w3 o3; have O3 := Lib.hid o3; have HB3 := Lib.hid (HB1.out.trans o3.keepsW); clear o3)
        | (at_builtin; refine wpList_app (W := w1) rfl (.tmp 30) (.tmp 31) rfl rfl rfl (Own.made w1) ((H1.out.keeps HB1.out).alloc _) (by omega) ?_; intro A2 c2 w2 o2; rw [Nat.zero_add, List.nil_append] at o2; have O2 := Lib.hid o2; clear o2)
        | (go_at_call 14; (with_reducible refine (KC.out _ _ _ _ _ _ (H2.out.keeps HB5.out) (HO4.out.keeps HK5.out)).mono ?_); rintro e w6 ⟨A6, n6, q6, rfl, ho, hb⟩; have HO6 := Lib.hid ho; have HK6 := Lib.hid hb; clear ho hb)
        | (go_at_call 14; (with_reducible refine (KB.out _ _ _ _ _ _ rfl (O3.out.stk.keeps HK4.out) (H3.out.keeps HB4.out)).mono ?_); rintro e w5 ⟨A5, n5, q5, rfl, ho, hb⟩; have HO5 := Lib.hid ho; have HK5 := Lib.hid hb; have HB5 := Lib.hid (HB4.out.trans hb); clear ho hb)
        | (go_at_call 14; (with_reducible refine (KA.out _ _ _ _ _ (H1.out.keeps HB3.out) (H3.out.keeps HB3.out)).mono ?_); rintro e w4 ⟨A4, n4, q4, rfl, ho, hb⟩; have HO4 := Lib.hid ho; have HK4 := Lib.hid hb; have HB4 := Lib.hid (HB3.out.trans hb); clear ho hb)
        | (go_at_call 16; have hn5 := Nat.le_trans (Nat.le_of_eq HO5.out.len.symm) hLl.out; (with_reducible refine (same_k _ _ _ _ _ _ _ _ _ hn5 (HO5.out.keeps HK6.out) HO6.out rfl).mono ?_); rintro e w7 ⟨rfl, hb⟩; have HK7 := Lib.hid hb; clear hb))
      go_ret
      exact ⟨rfl, HB5.out.trans (HK6.out.trans HK7.out)⟩
    · obtain ⟨e1, e2⟩ := hap.2 hE
      have hne : (alE l d != 0) = true := by simpa using hE
      obtain ⟨E, hE2⟩ : ∃ E, alE l d = E := ⟨_, rfl⟩
      obtain ⟨L, hL2⟩ : ∃ L, alL l d = L := ⟨_, rfl⟩
      have KA : Hid (∀ W B b A q, Stk W B n b l → Stk W A k q d → Calls Tryz.prog 14 #[.slice B n b, .slice A k q] W (PuPost W L E)) := Lib.hid fun W B b A q h2 h1 => by have := all_any B n b l A k q d W (by omega) (by omega) h2 h1 HC.out; rw [hE2, hL2] at this; exact this
      have KB : Hid (∀ W B N b A q, N = n + m → Stk W B N b (l ++ x) → Stk W A k q d → Calls Tryz.prog 14 #[.slice B N b, .slice A k q] W (PuPost W L E)) := Lib.hid fun W B N b A q hN h2 h1 => by have := all_any B N b (l ++ x) A k q d W (by omega) (by omega) h2 h1 HC.out; rw [e1, e2, hE2, hL2] at this; exact this
      have hLl : Hid (L.length ≤ 10000) := show _ by rw [← hL2]; exact hll.out
      have hEE : (E == E) = true := by simp
      rw [hE2] at hne
      clear hap hE hE2 hL2 e1 e2
      go_enter Tryz.func9, Tryz.ntmps9
      go_wp2_with (first
        | (go_at_call 11; (with_reducible refine (pawake_any _).mono ?_); rintro e w1 ⟨rfl, hb⟩; have HB1 := Lib.hid hb; clear hb)
        | (at_builtin; refine wpList_app (W := w1) rfl (.tmp 33) (.tmp 34) rfl rfl rfl O2.out ((H2.out.keeps HB1.out).below O2.out.below) (by omega) ?_; intro A3 c3 w3 o3; have O3 := Lib.hid o3; have HB3 := Lib.hid (HB1.out.trans o3.keepsW); clear o3)
        | (at_builtin; refine wpList_app (W := w1) rfl (.tmp 30) (.tmp 31) rfl rfl rfl (Own.made w1) ((H1.out.keeps HB1.out).alloc _) (by omega) ?_; intro A2 c2 w2 o2; rw [Nat.zero_add, List.nil_append] at o2; have O2 := Lib.hid o2; clear o2)
        | (go_at_call 14; (with_reducible refine (KB.out _ _ _ _ _ _ rfl (O3.out.stk.keeps HK4.out) (H3.out.keeps HB4.out)).mono ?_); rintro e w5 ⟨A5, n5, q5, rfl, ho, hb⟩; have HO5 := Lib.hid ho; have HK5 := Lib.hid hb; have HB5 := Lib.hid (HB4.out.trans hb); clear ho hb)
        | (go_at_call 14; (with_reducible refine (KA.out _ _ _ _ _ (H1.out.keeps HB3.out) (H3.out.keeps HB3.out)).mono ?_); rintro e w4 ⟨A4, n4, q4, rfl, ho, hb⟩; have HO4 := Lib.hid ho; have HK4 := Lib.hid hb; have HB4 := Lib.hid (HB3.out.trans hb); clear ho hb)
        | (go_at_call 16; have hn4 := Nat.le_trans (Nat.le_of_eq HO4.out.len.symm) hLl.out; (with_reducible refine (same_k _ _ _ _ _ _ _ _ _ hn4 (HO4.out.keeps HK5.out) HO5.out rfl).mono ?_); rintro e w7 ⟨rfl, hb⟩; have HK7 := Lib.hid hb; clear hb))
      go_ret
      exact ⟨rfl, HB5.out.trans HK7.out⟩
end Go.Proofs.YtnlkggfgloblcaaGreat
