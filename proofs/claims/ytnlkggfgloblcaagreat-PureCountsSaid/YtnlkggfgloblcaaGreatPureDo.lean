/-
  What Do and All answer, whatever the numbers and the stack, in the words of the plain facts (XPureMath).
-/
import Derived.Test.YtnlkggfgloblcaaGreatPureFns
namespace Go.Proofs.YtnlkggfgloblcaaGreat
open Go.RowKit

theorem doE_host {o : Int} {d : List Int} (h : puG o = false) : doE o d = -21 := by simp [doE, h]
theorem doE_under {o : Int} {d : List Int} (h : puG o = true) (h2 : d.length < puN o) : doE o d = -4 := by simp [doE, h, h2]
theorem doE_over {o : Int} {d : List Int} (h : puG o = true) (h2 : ¬ d.length < puN o) (h3 : 64 < d.length) : doE o d = -3 := by simp [doE, h, h2, h3]
theorem doE_in {o : Int} {d : List Int} (h : puG o = true) (h2 : ¬ d.length < puN o) (h3 : ¬ 64 < d.length) : doE o d = puE o.toNat (d.take (d.length - puN o)) (d.drop (d.length - puN o)) := by
  unfold doE
  rw [if_neg (by rw [h]; decide), if_neg h2, if_neg h3]
theorem doL_bad {o : Int} {d : List Int} (h : doE o d ≠ 0) : doL o d = d := by unfold doL; rw [if_neg h]
theorem doL_ok {o : Int} {d : List Int} (h : doE o d = 0) : doL o d = puL o.toNat (d.take (d.length - puN o)) (d.drop (d.length - puN o)) := by unfold doL; rw [if_pos h]
theorem pu_as {w : World} {l l' : List Int} {t t' : Int} {e : Ending} {w' : World} (h : PuPost w l t e w') (hl : l = l') (ht : t = t') : PuPost w l' t' e w' := hl ▸ ht ▸ h

set_option maxHeartbeats 1000000 in
theorem do_host (o : Int) (A : Option Addr) (n q : Nat) (d : List Int) (w : World) (h : puG o = false) (h1 : Stk w A n q d) :
    Calls Tryz.prog 12 #[.int .i64 o, .slice A n q] w (PuPost w d (-21)) := by
  obtain ⟨v, hv⟩ : ∃ v, (opR o).2.2.2 = v := ⟨_, rfl⟩
  have hd : (v != 1) = true := by
    have := of_decide_eq_false h
    rw [hv] at this
    simpa using this
  have HV := Lib.hid hv
  have H1 := Lib.hid h1
  clear h hv h1
  go_enter Tryz.func12, Tryz.ntmps12
  go_wp2_with (go_at_call 17; refine (group_is _ _ HV.out _).mono ?_; rintro e w1 ⟨rfl, hb⟩; have HB := Lib.hid (keeps_below hb); clear hb)
  go_ret2
  exact ⟨A, n, q, rfl, H1.out.keeps HB.out, HB.out⟩
set_option maxHeartbeats 1000000 in
theorem do_under (o : Int) (A : Option Addr) (n q : Nat) (d : List Int) (w : World) (h : puG o = true) (h2 : n < puN o) (h1 : Stk w A n q d) :
    Calls Tryz.prog 12 #[.int .i64 o, .slice A n q] w (PuPost w d (-4)) := by
  have hv : (opR o).2.2.2 = 1 := of_decide_eq_true h
  obtain ⟨N, hN⟩ : ∃ N, puN o = N := ⟨_, rfl⟩
  have hn := puN_nn o
  have h4 := puN_le o
  rw [hN] at hn h2 h4
  have hw : wrap64 ((n : Int) - (N : Int)) = (n : Int) - (N : Int) := by unfold wrap64; omega
  have hd : decide ((n : Int) - (N : Int) < 0) = true := decide_eq_true (by omega)
  have hd2 : (n : Int) - (N : Int) < 0 := by omega
  have HV := Lib.hid hv
  have HN := Lib.hid hn
  have H1 := Lib.hid h1
  clear h hv h1 hN hn
  go_enter Tryz.func12, Tryz.ntmps12
  go_wp2_with (first | (go_at_call 17; refine (group_is _ _ HV.out _).mono ?_; rintro e w1 ⟨rfl, hb⟩; have HB := Lib.hid (keeps_below hb); clear hb) | (go_at_call 18; refine (needs_is _ _ HN.out _).mono ?_; rintro e w2 ⟨rfl, hb⟩; have HB2 := Lib.hid (HB.out.trans (keeps_below hb)); clear hb))
  go_ret2
  exact ⟨A, n, q, rfl, H1.out.keeps HB2.out, HB2.out⟩
set_option maxHeartbeats 1000000 in
theorem do_over (o : Int) (A : Option Addr) (n q : Nat) (d : List Int) (w : World) (h : puG o = true) (hn9 : n ≤ 10000) (h3 : 64 < n) (h1 : Stk w A n q d) :
    Calls Tryz.prog 12 #[.int .i64 o, .slice A n q] w (PuPost w d (-3)) := by
  have hv : (opR o).2.2.2 = 1 := of_decide_eq_true h
  obtain ⟨N, hN⟩ : ∃ N, puN o = N := ⟨_, rfl⟩
  have hn := puN_nn o
  have h4 := puN_le o
  rw [hN] at hn h4
  have hw : wrap64 ((n : Int) - (N : Int)) = (n : Int) - (N : Int) := by unfold wrap64; omega
  have hd : decide ((n : Int) - (N : Int) < 0) = false := decide_eq_false (by omega)
  have hd2 : ¬ (n : Int) - (N : Int) < 0 := by omega
  have hd3 : decide ((64 : Int) < (n : Int)) = true := decide_eq_true (by omega)
  have HV := Lib.hid hv
  have HN := Lib.hid hn
  have H1 := Lib.hid h1
  clear h hv h1 hN hn
  go_enter Tryz.func12, Tryz.ntmps12
  go_wp2_with (first | (go_at_call 17; refine (group_is _ _ HV.out _).mono ?_; rintro e w1 ⟨rfl, hb⟩; have HB := Lib.hid (keeps_below hb); clear hb) | (go_at_call 18; refine (needs_is _ _ HN.out _).mono ?_; rintro e w2 ⟨rfl, hb⟩; have HB2 := Lib.hid (HB.out.trans (keeps_below hb)); clear hb))
  go_ret2
  exact ⟨A, n, q, rfl, H1.out.keeps HB2.out, HB2.out⟩
set_option maxHeartbeats 2000000 in
theorem do_in (k : Nat) (A : Option Addr) (n q : Nat) (d : List Int) (w : World) (hk1 : 18 ≤ k) (hk2 : k ≤ 74) (h2 : ¬ n < puN (k : Int)) (h3 : ¬ 64 < n) (h1 : Stk w A n q d) (hC : AllC d)
    (L : List Int) (E : Int) (hL : puL k (d.take (n - puN (k : Int))) (d.drop (n - puN (k : Int))) = L) (hE : puE k (d.take (n - puN (k : Int))) (d.drop (n - puN (k : Int))) = E) :
    Calls Tryz.prog 12 #[.int .i64 (k : Int), .slice A n q] w (PuPost w (if E = 0 then L else d) E) := by
  have h : puG (k : Int) = true := by rw [puG_is]; exact decide_eq_true (by omega)
  have hv : (opR (k : Int)).2.2.2 = 1 := of_decide_eq_true h
  have hn := puN_nn (k : Int)
  have h4 := puN_le (k : Int)
  have hat := puN_at k hk1 hk2
  obtain ⟨N, hN⟩ : ∃ N, puN (k : Int) = N := ⟨_, rfl⟩
  rw [hN] at hn h2 h4 hat hL hE
  obtain ⟨j, rfl⟩ : ∃ j, n = j + N := ⟨n - N, by omega⟩
  rw [show j + N - N = j by omega] at hL hE
  obtain ⟨A1, q1, r1, s1⟩ := h1.head j (by omega)
  obtain ⟨A2, q2, r2, s2⟩ := h1.tail j (by omega)
  rw [show j + N - j = N by omega] at r2 s2
  have hfn := fn_any k hk1 hk2
  have hen := fun W => entry_any k hk1 hk2 W
  have hcall : ∀ W : World, Keeps w W → Calls Tryz.prog (puF k) #[.slice A1 j q1, .slice A2 N q2] W (PuPost W L E) := fun W hW => by
    have := hfn A1 j q1 (d.take j) A2 q2 N (d.drop j) W (by omega) (s1.keeps hW) (s2.keeps hW) hat (fun x hx => hC x (List.mem_of_mem_drop hx))
    rw [hL, hE] at this
    exact this
  have hent := enters_any k hk1 hk2
  generalize puF k = F at hen hcall hent
  have hef : ∀ (args : Array Value) (W : World), (callFunc F args).run Tryz.prog W = .ok (.enter F args) W := hent
  clear hent
  have HC := Lib.hid hcall
  have HEN := Lib.hid hen
  have hw : wrap64 ((j : Int) + (N : Int) - (N : Int)) = (j : Int) := by unfold wrap64; omega
  have hw2 : IntKind.i64.wrap ((j : Int) + (N : Int) - (N : Int)) = (j : Int) := by rw [wrapi64]; exact hw
  have hd : decide ((j : Int) < 0) = false := decide_eq_false (by omega)
  have hd3 : decide ((64 : Int) < (j : Int) + (N : Int)) = false := decide_eq_false (by omega)
  have hf : ∀ W : World, (Instr.field 39 (.agg #[fV F]) 0).run Tryz.prog W = .ok (fV F) W := fun _ => by kernel_rfl
  have HV := Lib.hid hv
  have HN := Lib.hid hn
  have H1 := Lib.hid h1
  clear h hv h1 hN hn hcall hen hfn hat hC hL hE s1 s2
  by_cases hE0 : E = 0
  · subst hE0
    rw [if_pos rfl]
    go_enter Tryz.func12, Tryz.ntmps12
    go_wp2_with (first | (go_at_call 17; refine (group_is _ _ HV.out _).mono ?_; rintro e w1 ⟨rfl, hb⟩; have HB := Lib.hid (keeps_below hb); clear hb) | (go_at_call 18; refine (needs_is _ _ HN.out _).mono ?_; rintro e w2 ⟨rfl, hb⟩; have HB2 := Lib.hid (HB.out.trans (keeps_below hb)); clear hb))
    go_region_held3 (fun w' => Keeps w w') (first | assumption | exact HB2.out.drew | exact HB2.out.trans (Keeps.refl _).drew)
      (first | (go_at_call 21; (with_reducible refine (HEN.out _).mono ?_); rintro e w3 ⟨rfl, hb⟩; have HB3 := Keeps.trans (by assumption) (keeps_below hb); clear hb) | (go_at_fn F; (refine (HC.out _ (by assumption)).mono ?_); rintro e w4 ⟨A3, n3, q3, rfl, ho, hb⟩; have HB4 := Keeps.trans (by assumption) hb; have HO := Lib.hid ho; clear ho hb))
    go_wp2
    go_ret2
    exact ⟨A3, n3, q3, rfl, HO.out, HB4⟩
  · have hne : (E != 0) = true := by simpa using hE0
    rw [if_neg hE0]
    clear hE0
    go_enter Tryz.func12, Tryz.ntmps12
    go_wp2_with (first | (go_at_call 17; refine (group_is _ _ HV.out _).mono ?_; rintro e w1 ⟨rfl, hb⟩; have HB := Lib.hid (keeps_below hb); clear hb) | (go_at_call 18; refine (needs_is _ _ HN.out _).mono ?_; rintro e w2 ⟨rfl, hb⟩; have HB2 := Lib.hid (HB.out.trans (keeps_below hb)); clear hb))
    go_region_held3 (fun w' => Keeps w w') (first | assumption | exact HB2.out.drew | exact HB2.out.trans (Keeps.refl _).drew)
      (first | (go_at_call 21; (with_reducible refine (HEN.out _).mono ?_); rintro e w3 ⟨rfl, hb⟩; have HB3 := Keeps.trans (by assumption) (keeps_below hb); clear hb) | (go_at_fn F; (refine (HC.out _ (by assumption)).mono ?_); rintro e w4 ⟨A3, n3, q3, rfl, ho, hb⟩; have HB4 := Keeps.trans (by assumption) hb; have HO := Lib.hid ho; clear ho hb))
    go_wp2
    go_ret2
    exact ⟨A, _, q, rfl, H1.out.keeps HB4, HB4⟩
/-- Do, whatever it is given. -/
theorem do_any (o : Int) (A : Option Addr) (n q : Nat) (d : List Int) (w : World) (hn : n ≤ 10000) (h1 : Stk w A n q d) (hC : AllC d) :
    Calls Tryz.prog 12 #[.int .i64 o, .slice A n q] w (PuPost w (doL o d) (doE o d)) := by
  have hl := h1.len
  cases h : puG o
  · have e := doE_host (d := d) h
    rw [doL_bad (by rw [e]; decide), e]
    exact do_host o A n q d w h h1
  · by_cases h2 : n < puN o
    · have e := doE_under (d := d) h (by rw [hl]; exact h2)
      rw [doL_bad (by rw [e]; decide), e]
      exact do_under o A n q d w h h2 h1
    · by_cases h3 : 64 < n
      · have e := doE_over (d := d) h (by rw [hl]; exact h2) (by rw [hl]; exact h3)
        rw [doL_bad (by rw [e]; decide), e]
        exact do_over o A n q d w h hn h3 h1
      · obtain ⟨k, rfl, hk1, hk2⟩ := puG_some h
        have e := doE_in (d := d) h (by rw [hl]; exact h2) (by rw [hl]; exact h3)
        have := do_in k A n q d w hk1 hk2 h2 h3 h1 hC _ _ rfl rfl
        rw [hl] at e
        refine this.mono fun _ _ hp => pu_as hp ?_ e.symm
        by_cases h0 : doE (k : Int) d = 0
        · rw [doL_ok h0, hl]; exact if_pos (e.symm.trans h0)
        · rw [doL_bad h0]; exact if_neg (fun hh => h0 (e.trans hh))
end Go.Proofs.YtnlkggfgloblcaaGreat
