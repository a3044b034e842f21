/-
  The call of the statement PureCounts answers true at every operation and every stack; of what was there nothing has changed.
-/
import Derived.Test.YtnlkggfgloblcaaGreatPureAwake
import Derived.Test.YtnlkggfgloblcaaGreatPureCountsMath
import Derived.Deep.QuietTactic
import Derived.BigQuiet
namespace Go.Proofs.YtnlkggfgloblcaaGreat
open Go.RowKit

theorem yes_1 (w : World) : Calls Tryz.prog 20 #[.bool true] w fun e w' => e = .returned (.int .i64 1) ∧ w = w' := by
  go_enter Tryz.func20, Tryz.ntmps20
  go_wp2
  go_ret
  exact ⟨rfl, rfl⟩
theorem yes_0 (w : World) : Calls Tryz.prog 20 #[.bool false] w fun e w' => e = .returned (.int .i64 0) ∧ w = w' := by
  go_enter Tryz.func20, Tryz.ntmps20
  go_wp2
  go_ret
  exact ⟨rfl, rfl⟩
section
variable (o : Int) (A : Option Addr) (n q : Nat) (d : List Int) (w : World)
set_option maxHeartbeats 1000000 in
theorem counts_out (g : 100 < n) :
    Calls Tryz.prog 4 #[.int .i64 o, .slice A n q] w fun e w' => e = .returned (.bool true) ∧ Keeps w w' := by
  have d1 : decide ((100 : Int) < (n : Int)) = true := decide_eq_true (by omega)
  go_enter Tryz.func4, Tryz.ntmps4
  go_wp2_with (go_at_call 11; refine (pawake_any _).mono ?_; rintro e w1 ⟨rfl, hb⟩; have HB := Lib.hid hb; clear hb)
  go_ret
  exact ⟨rfl, HB.out⟩
set_option maxHeartbeats 1000000 in
set_option maxRecDepth 100000 in
theorem counts_bad (g : n ≤ 100) (h1 : Stk w A n q d) (hC : AllC d) (h : doE o d ≠ 0) :
    Calls Tryz.prog 4 #[.int .i64 o, .slice A n q] w fun e w' => e = .returned (.bool true) ∧ Keeps w w' := by
  have d1 : decide ((100 : Int) < (n : Int)) = false := decide_eq_false (by omega)
  have hg := counts_host o d h
  have hL : doL o d = d := by unfold doL; rw [if_neg h]
  obtain ⟨E, hE⟩ : ∃ E, doE o d = E := ⟨_, rfl⟩
  obtain ⟨v, hv⟩ : ∃ v, (opR o).2.2.2 = v := ⟨_, rfl⟩
  have KA : Hid (∀ W A q, Stk W A n q d → Calls Tryz.prog 12 #[.int .i64 o, .slice A n q] W (PuPost W d E)) := Lib.hid fun W A q h1 => by have := do_any o A n q d W (by omega) h1 hC; rw [hE, hL] at this; exact this
  rw [hE] at hg h
  have hne : (E != 0) = true := by simpa using h
  have hb : ∃ s : Bool, (v != 1) = s ∧ (E == -21) = s := by
    unfold puG at hg
    rw [hv] at hg
    rcases hg with ⟨h5, h6⟩ | ⟨h5, h6⟩
    · exact ⟨true, by simpa using h5, by simpa using h6⟩
    · exact ⟨false, by simpa using h5, by simpa using h6⟩
  obtain ⟨s, d2, d3⟩ := hb
  have HV := Lib.hid hv
  have H1 := Lib.hid h1
  clear hE hv hL hg h h1 hC
  cases s
  all_goals
    go_enter Tryz.func4, Tryz.ntmps4
    go_wp2_with (first
      | (go_at_call 11; refine (pawake_any _).mono ?_; rintro e w1 ⟨rfl, hb⟩; have HB := Lib.hid hb; clear hb)
      | (go_at_call 12; (with_reducible refine (KA.out _ _ _ (H1.out.keeps HB.out)).mono ?_); rintro e w2 ⟨A2, n2, q2, rfl, ho, hb⟩; have hn2 : n2 ≤ 10000 := (by have := ho.len; have := H1.out.len; omega); have HO := Lib.hid ho; have HB2 := Lib.hid (HB.out.trans hb); clear ho hb)
      | (go_at_call 17; refine (group_is _ _ HV.out _).mono ?_; rintro e w4 ⟨rfl, hb⟩; have HB4 := Lib.hid (HB3.out.trans (keeps_below hb)); clear hb)
      | (go_at_call 16; (with_reducible refine (same_k _ _ _ _ _ _ _ _ _ hn2 HO.out (H1.out.keeps HB2.out) rfl).mono ?_); rintro e w3 ⟨rfl, hb⟩; have HB3 := Lib.hid (HB2.out.trans hb); clear hb))
    go_ret
    exact ⟨rfl, HB4.out⟩
set_option maxHeartbeats 1000000 in
set_option maxRecDepth 100000 in
theorem counts_deep (g : n ≤ 100) (h1 : Stk w A n q d) (hC : AllC d) (L : List Int) (v : Int) (s t : Bool) (m N : Nat) (hE : doE o d = 0) (hL : doL o d = L) (hm : L.length = m) (hN : puN o = N) (hNn : N ≤ n) (hm64 : m ≤ 64) (hs : (o == 31) = s) (ht : (o == 30) = t) (hor : s = true ∨ t = true)
    (hv : (if t then 1 else 0) = v) (hmv : (m : Int) = (n : Int) - 1 + v) :
    Calls Tryz.prog 4 #[.int .i64 o, .slice A n q] w fun e w' => e = .returned (.bool true) ∧ Keeps w w' := by
  have d1 : decide ((100 : Int) < (n : Int)) = false := decide_eq_false (by omega)
  obtain ⟨hg, _⟩ := counts_ok hE
  have KA : Hid (∀ W A q, Stk W A n q d → Calls Tryz.prog 12 #[.int .i64 o, .slice A n q] W (PuPost W L 0)) := Lib.hid fun W A q h1 => by have := do_any o A n q d W (by omega) h1 hC; rw [hE, hL] at this; exact this
  have HG : Hid ((opR o).2.2.2 = 1) := show _ = _ from of_decide_eq_true hg
  have HN := Lib.hid (puN_nn o)
  rw [hN] at HN
  obtain ⟨y, k, hyk⟩ : ∃ y k, opL o = (y, k) := ⟨_, _, rfl⟩
  have HY := Lib.hid hyk
  have HM := Lib.hid hm
  have H1 := Lib.hid h1
  have d6 : decide (n < N) = false := decide_eq_false (by omega)
  have d7 : decide (max (64 : Int) (n : Int) < (m : Int)) = false := decide_eq_false (by omega)
  have d7' : ¬ (max (64 : Int) (n : Int) < (m : Int)) := by omega
  have w1 : wrap64 ((n : Int) - (N : Int)) = (n : Int) - (N : Int) := by unfold wrap64; omega
  have w2 : wrap64 ((n : Int) - 1) = (n : Int) - 1 := by unfold wrap64; omega
  have w3 : wrap64 ((n : Int) - 1 + v) = (m : Int) := by rw [hmv]; unfold wrap64; split at hv <;> omega
  clear hE hL hm hN hg hyk h1 hC hNn
  cases t
  · have h8 : s = true := by simpa using hor
    subst h8
    simp at hv
    subst hv
    have f1 : ((m : Int) == (n : Int) - 1) = true := by simp; omega
    clear hor hmv
    go_enter Tryz.func4, Tryz.ntmps4
    go_wp2_with (first
      | (go_at_call 11; refine (pawake_any _).mono ?_; rintro e w1 ⟨rfl, hb⟩; have HB := Lib.hid hb; clear hb)
      | (go_at_call 12; (with_reducible refine (KA.out _ _ _ (H1.out.keeps HB.out)).mono ?_); rintro e w2 ⟨A2, n2, q2, rfl, ho, hb⟩; obtain rfl : m = n2 := HM.out.symm.trans ho.len; have HB2 := Lib.hid (HB.out.trans hb); clear ho hb)
      | (go_at_call 18; refine (needs_is _ _ HN.out _).mono ?_; rintro e w3 ⟨rfl, hb⟩; have HB3 := Lib.hid (HB2.out.trans (keeps_below hb)); clear hb)
      | (go_at_call 19; refine (leaves_is _ _ _ HY.out _).mono ?_; rintro e w4 ⟨rfl, hb⟩; have HB4 := Lib.hid (HB3.out.trans (keeps_below hb)); clear hb)
      | (go_at_call 17; refine (group_is _ _ HG.out _).mono ?_; rintro e w5 ⟨rfl, hb⟩; have HB5 := Lib.hid (HB4.out.trans (keeps_below hb)); clear hb)
      | (go_at_call 20; (with_reducible refine (yes_0 _).mono ?_); rintro e w' ⟨rfl, rfl⟩))
    go_ret
    exact ⟨rfl, HB5.out⟩
  · simp at hv
    subst hv
    have f1 : ((m : Int) == (n : Int)) = true := by simp; omega
    clear hor hmv
    cases s
    all_goals
      go_enter Tryz.func4, Tryz.ntmps4
      go_wp2_with (first
        | (go_at_call 11; refine (pawake_any _).mono ?_; rintro e w1 ⟨rfl, hb⟩; have HB := Lib.hid hb; clear hb)
        | (go_at_call 12; (with_reducible refine (KA.out _ _ _ (H1.out.keeps HB.out)).mono ?_); rintro e w2 ⟨A2, n2, q2, rfl, ho, hb⟩; obtain rfl : m = n2 := HM.out.symm.trans ho.len; have HB2 := Lib.hid (HB.out.trans hb); clear ho hb)
        | (go_at_call 18; refine (needs_is _ _ HN.out _).mono ?_; rintro e w3 ⟨rfl, hb⟩; have HB3 := Lib.hid (HB2.out.trans (keeps_below hb)); clear hb)
        | (go_at_call 19; refine (leaves_is _ _ _ HY.out _).mono ?_; rintro e w4 ⟨rfl, hb⟩; have HB4 := Lib.hid (HB3.out.trans (keeps_below hb)); clear hb)
        | (go_at_call 17; refine (group_is _ _ HG.out _).mono ?_; rintro e w5 ⟨rfl, hb⟩; have HB5 := Lib.hid (HB4.out.trans (keeps_below hb)); clear hb)
        | (go_at_call 20; (with_reducible refine (yes_1 _).mono ?_); rintro e w' ⟨rfl, rfl⟩))
      go_ret
      exact ⟨rfl, HB5.out⟩
set_option maxHeartbeats 2000000 in
set_option maxRecDepth 100000 in
theorem counts_in (j N r : Nat) (g : j + N ≤ 100) (h1 : Stk w A (j + N) q d) (hC : AllC d) (y : List Int) (hr : y.length = r) (hE : doE o d = 0) (hL : doL o d = d.take j ++ y) (hN : puN o = N) (hm64 : j + r ≤ 64) (hs : (o == 31) = false) (ht : (o == 30) = false)
    (v : Int) (k : Bool) (hY : opL o = (v, k)) (hk : k = true → v = (r : Int)) :
    Calls Tryz.prog 4 #[.int .i64 o, .slice A (j + N) q] w fun e w' => e = .returned (.bool true) ∧ Keeps w w' := by
  have d1 : decide ((100 : Int) < (j : Int) + (N : Int)) = false := decide_eq_false (by omega)
  obtain ⟨hg, _⟩ := counts_ok hE
  have KA : Hid (∀ W A q, Stk W A (j + N) q d → Calls Tryz.prog 12 #[.int .i64 o, .slice A (j + N) q] W (PuPost W (d.take j ++ y) 0)) := Lib.hid fun W A q h1 => by have := do_any o A (j + N) q d W (by omega) h1 hC; rw [hE, hL] at this; exact this
  have HG : Hid ((opR o).2.2.2 = 1) := show _ = _ from of_decide_eq_true hg
  have HN := Lib.hid (puN_nn o)
  rw [hN] at HN
  have HY := Lib.hid hY
  have HM : Hid ((d.take j ++ y).length = j + r) := show _ = _ by rw [List.length_append, List.length_take, h1.len, hr]; omega
  have HT : Hid ((d.take j ++ y).take j = d.take j) := show _ = _ by rw [List.take_append_of_le_length (by rw [List.length_take, h1.len]; omega), List.take_take, Nat.min_self]
  obtain ⟨A9, q9, r9, s9⟩ := h1.head j (by omega)
  have S9 := Lib.hid s9
  have H1 := Lib.hid h1
  have d6 : decide ((j : Int) + (N : Int) < (N : Int)) = false := decide_eq_false (by omega)
  have d7 : decide (max (64 : Int) ((j : Int) + (N : Int)) < (j : Int) + (r : Int)) = false := decide_eq_false (by omega)
  have d7' : ¬ (max (64 : Int) ((j : Int) + (N : Int)) < (j : Int) + (r : Int)) := by omega
  have w1 : wrap64 ((j : Int) + (N : Int) - (N : Int)) = (j : Int) := by unfold wrap64; omega
  have w2 : IntKind.i64.wrap ((j : Int) + (N : Int) - (N : Int)) = (j : Int) := (wrapi64 _).trans w1
  have w3 : IntKind.i64.wrap ((j : Int) + (r : Int)) = (j : Int) + (r : Int) := IntWalk.i64_in _ (by omega)
  have d8 : decide ((j : Int) ≤ (j : Int) + (r : Int)) = true := decide_eq_true (by omega)
  have i0 : (0 : Int) ≤ (j : Int) := by omega
  have i1 : (j : Int) ≤ (j : Int) + (r : Int) := by omega
  have i2 : (j : Int) ≤ (j : Int) + (N : Int) := by omega
  clear hE hL hN hg hY h1 hC hr s9
  cases k
  · clear hk
    go_enter Tryz.func4, Tryz.ntmps4
    go_wp2_with (first
      | (go_at_call 11; refine (pawake_any _).mono ?_; rintro e w1 ⟨rfl, hb⟩; have HB := Lib.hid hb; clear hb)
      | (go_at_call 12; (with_reducible refine (KA.out _ _ _ (H1.out.keeps HB.out)).mono ?_); rintro e w2 ⟨A2, n2, q2, rfl, ho, hb⟩; obtain rfl : j + r = n2 := HM.out.symm.trans ho.len; obtain ⟨A8, q8, r8, s8⟩ := ho.head j (by omega); rw [HT.out] at s8; have S8 := Lib.hid s8; have HB2 := Lib.hid (HB.out.trans hb); clear ho hb s8)
      | (go_at_call 18; refine (needs_is _ _ HN.out _).mono ?_; rintro e w3 ⟨rfl, hb⟩; have HK3 := Lib.hid (keeps_below hb); clear hb)
      | (go_at_call 19; refine (leaves_is _ _ _ HY.out _).mono ?_; rintro e w4 ⟨rfl, hb⟩; have HK4 := Lib.hid (HK3.out.trans (keeps_below hb)); clear hb)
      | (go_at_call 17; refine (group_is _ _ HG.out _).mono ?_; rintro e w5 ⟨rfl, hb⟩; have HK5 := Lib.hid (HK4.out.trans (keeps_below hb)); clear hb))
    go_quiet ((go_at_call 16; exact Calls.quiet_of (same_any _ _ _ _ _ _ _ _ (by omega) ((S8.out.keeps HK5.out).drewN _) ((S9.out.keeps (HB2.out.trans HK5.out)).drewN _))))
    go_wp2
    go_ret
    exact ⟨rfl, (HB2.out.trans HK5.out).drewN _⟩
  · obtain rfl := hk rfl
    clear hk
    go_enter Tryz.func4, Tryz.ntmps4
    go_wp2_with (first
      | (go_at_call 11; refine (pawake_any _).mono ?_; rintro e w1 ⟨rfl, hb⟩; have HB := Lib.hid hb; clear hb)
      | (go_at_call 12; (with_reducible refine (KA.out _ _ _ (H1.out.keeps HB.out)).mono ?_); rintro e w2 ⟨A2, n2, q2, rfl, ho, hb⟩; obtain rfl : j + r = n2 := HM.out.symm.trans ho.len; obtain ⟨A8, q8, r8, s8⟩ := ho.head j (by omega); rw [HT.out] at s8; have S8 := Lib.hid s8; have HB2 := Lib.hid (HB.out.trans hb); clear ho hb s8)
      | (go_at_call 18; refine (needs_is _ _ HN.out _).mono ?_; rintro e w3 ⟨rfl, hb⟩; have HK3 := Lib.hid (keeps_below hb); clear hb)
      | (go_at_call 19; refine (leaves_is _ _ _ HY.out _).mono ?_; rintro e w4 ⟨rfl, hb⟩; have HK4 := Lib.hid (HK3.out.trans (keeps_below hb)); clear hb)
      | (go_at_call 17; refine (group_is _ _ HG.out _).mono ?_; rintro e w5 ⟨rfl, hb⟩; have HK5 := Lib.hid (HK4.out.trans (keeps_below hb)); clear hb))
    go_quiet ((go_at_call 16; exact Calls.quiet_of (same_any _ _ _ _ _ _ _ _ (by omega) ((S8.out.keeps HK5.out).drewN _) ((S9.out.keeps (HB2.out.trans HK5.out)).drewN _))))
    go_wp2
    go_ret
    exact ⟨rfl, (HB2.out.trans HK5.out).drewN _⟩
end
theorem pureCounts_walk (o : Int) (A : Option Addr) (n q : Nat) (d : List Int) (w : World) (h1 : Stk w A n q d) (hC : AllC d) :
    Calls Tryz.prog 4 #[.int .i64 o, .slice A n q] w fun e w' => e = .returned (.bool true) ∧ Keeps w w' := by
  by_cases g : 100 < n
  · exact counts_out o A n q w g
  · by_cases h : doE o d = 0
    · obtain ⟨hg, h3, h4, h5, h6⟩ := counts_ok h
      have hl := h1.len
      rcases h6 with ⟨e, h7⟩ | ⟨e, h7⟩ | ⟨e1, e2, y, h7, h8⟩
      · exact counts_deep o A n q d w (by omega) h1 hC _ 0 true false _ _ h rfl rfl rfl (by omega) h5 (by simp [e]) (by simp [e]) (Or.inl rfl) rfl (by omega)
      · exact counts_deep o A n q d w (by omega) h1 hC _ 1 false true _ _ h rfl rfl rfl (by omega) h5 (by simp [e]) (by simp [e]) (Or.inr rfl) rfl (by omega)
      · obtain ⟨j, rfl⟩ : ∃ j, n = j + puN o := ⟨n - puN o, by omega⟩
        rw [hl, Nat.add_sub_cancel] at h7
        have h9 : j + y.length ≤ 64 := by
          rw [h7, List.length_append, List.length_take, hl] at h5
          omega
        rcases h8 with h8 | h8
        · exact counts_in o A q d w j (puN o) y.length (by omega) h1 hC y rfl h h7 rfl h9 (by simpa using e1) (by simpa using e2) 0 false h8 (fun hh => by cases hh)
        · exact counts_in o A q d w j (puN o) y.length (by omega) h1 hC y rfl h h7 rfl h9 (by simpa using e1) (by simpa using e2) _ true h8 (fun _ => rfl)
    · exact counts_bad o A n q d w (by omega) h1 hC h
end Go.Proofs.YtnlkggfgloblcaaGreat
