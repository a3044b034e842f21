/-
  What each operation's own call answers of its cells and of those below them (55 to 74).
-/
import Derived.Test.YtnlkggfgloblcaaGreatPureHeld
import Derived.Test.YtnlkggfgloblcaaGreatDblDivs
namespace Go.Proofs.YtnlkggfgloblcaaGreat
open Go.RowKit

set_option maxHeartbeats 1000000 in
theorem double_any (B : Option Addr) (k m : Nat) (a b : Int) (l : List Int) (w : World) (h2 : Stk w B k m (a :: b :: l)) (hk : k ≤ 10000) :
    Calls Tryz.prog 106 #[.slice B k m] w fun e w' => e = .returned (.agg #[.int .i64 a, .int .i64 b]) ∧ Keeps w w' := by
  have hl := h2.len
  simp at hl
  obtain ⟨b0, o0, rfl, _, hc⟩ := h2.at0 (by omega)
  have c0 : w.cell? ⟨b0, o0, none⟩ = some (.int .i64 a) := hc 0 (by simp)
  have c1 : w.cell? ⟨b0, o0 + 1, none⟩ = some (.int .i64 b) := hc 1 (by simp)
  have hk2 : 2 ≤ k := by omega
  clear hc h2 hl
  go_enter Tryz.func106, Tryz.ntmps106
  go_wp2
  go_region
  all_goals go_wp2
  all_goals exact bodyPost_ret (v := .agg #[.int .i64 a, .int .i64 b]) (by simp [results, Tryz.results106, go_sem]) rfl ⟨rfl, ((Keeps.refl _).alloc _).drew⟩
set_option maxHeartbeats 1000000 in
theorem p55_any (A : Option Addr) (n q : Nat) (l : List Int) (B : Option Addr) (m : Nat) (a b : Int) (w : World) (hn : n ≤ 10000) (h1 : Stk w A n q l) (h2 : Stk w B 2 m [a, b]) (ha : InC a) (hb : InC b) :
    Calls Tryz.prog 83 #[.slice A n q, .slice B 2 m] w (PuPost w (pushL l ([flagZ (a == b)]) 64) (pushE (l.length + ([flagZ (a == b)] : List Int).length) 64)) := by
  have H1 := Lib.hid h1
  obtain ⟨b0, o0, rfl, hb0, hcl⟩ := h2.at0 (by omega)
  have e0 : w.cell? ⟨b0, o0, none⟩ = some (.int .i64 a) := hcl 0 (by simp)
  have e1 : w.cell? ⟨b0, o0 + 1, none⟩ = some (.int .i64 b) := hcl 1 (by simp)
  have PS : Hid (∀ w', Keeps w w' → (w'.cell? ⟨b0, o0, none⟩ = some (.int .i64 a) ∧ w'.cell? ⟨b0, o0 + 1, none⟩ = some (.int .i64 b)) ∧ Keeps w w') := Lib.hid fun w' k => ⟨⟨k.cell_some hb0 e0, k.cell_some hb0 e1⟩, k⟩
  have HL := Lib.hid h1.len
  have HIa := Lib.hid ha
  have HIb := Lib.hid hb
  clear hcl h2 h1 ha hb
  go_enter Tryz.func83, Tryz.ntmps83
  go_wp2
  go_region_held3 (fun w' => (w'.cell? ⟨b0, o0, none⟩ = some (.int .i64 a) ∧ w'.cell? ⟨b0, o0 + 1, none⟩ = some (.int .i64 b)) ∧ Keeps w w') (first | exact PS.out _ HB.out | exact PS.out _ HG.out | exact PS.out _ ((Keeps.refl _).drew.alloc _) | exact PS.out _ (Keeps.refl _).drew | exact PS.out _ ((Keeps.refl _).drew.drewN _) | exact PS.out _ ((Keeps.refl _).drewN _).drew | exact PS.out _ ((Keeps.refl _).drewN _))
    (first | (go_at_call 84; refine (layFlag_any _ _ _ l _ _ hn (H1.out.keeps ((Keeps.refl _).drew))).mono ?_; rintro e w1 ⟨A1, n1, d1, rfl, ho, hb⟩; have HO := Lib.hid ho; have HB := Lib.hid (Keeps.trans ((Keeps.refl _).drew) hb); clear ho hb))
  go_wp2
  go_ret2
  exact ⟨A1, n1, d1, rfl, HO.out, HB.out⟩
set_option maxHeartbeats 1000000 in
theorem p56_any (A : Option Addr) (n q : Nat) (l : List Int) (B : Option Addr) (m : Nat) (a b : Int) (w : World) (hn : n ≤ 10000) (h1 : Stk w A n q l) (h2 : Stk w B 2 m [a, b]) (ha : InC a) (hb : InC b) :
    Calls Tryz.prog 85 #[.slice A n q, .slice B 2 m] w (PuPost w (pushL l ([flagZ (a != b)]) 64) (pushE (l.length + ([flagZ (a != b)] : List Int).length) 64)) := by
  have H1 := Lib.hid h1
  obtain ⟨b0, o0, rfl, hb0, hcl⟩ := h2.at0 (by omega)
  have e0 : w.cell? ⟨b0, o0, none⟩ = some (.int .i64 a) := hcl 0 (by simp)
  have e1 : w.cell? ⟨b0, o0 + 1, none⟩ = some (.int .i64 b) := hcl 1 (by simp)
  have PS : Hid (∀ w', Keeps w w' → (w'.cell? ⟨b0, o0, none⟩ = some (.int .i64 a) ∧ w'.cell? ⟨b0, o0 + 1, none⟩ = some (.int .i64 b)) ∧ Keeps w w') := Lib.hid fun w' k => ⟨⟨k.cell_some hb0 e0, k.cell_some hb0 e1⟩, k⟩
  have HL := Lib.hid h1.len
  have HIa := Lib.hid ha
  have HIb := Lib.hid hb
  clear hcl h2 h1 ha hb
  go_enter Tryz.func85, Tryz.ntmps85
  go_wp2
  go_region_held3 (fun w' => (w'.cell? ⟨b0, o0, none⟩ = some (.int .i64 a) ∧ w'.cell? ⟨b0, o0 + 1, none⟩ = some (.int .i64 b)) ∧ Keeps w w') (first | exact PS.out _ HB.out | exact PS.out _ HG.out | exact PS.out _ ((Keeps.refl _).drew.alloc _) | exact PS.out _ (Keeps.refl _).drew | exact PS.out _ ((Keeps.refl _).drew.drewN _) | exact PS.out _ ((Keeps.refl _).drewN _).drew | exact PS.out _ ((Keeps.refl _).drewN _))
    (first | (go_at_call 84; refine (layFlag_any _ _ _ l _ _ hn (H1.out.keeps ((Keeps.refl _).drew))).mono ?_; rintro e w1 ⟨A1, n1, d1, rfl, ho, hb⟩; have HO := Lib.hid ho; have HB := Lib.hid (Keeps.trans ((Keeps.refl _).drew) hb); clear ho hb))
  go_wp2
  go_ret2
  exact ⟨A1, n1, d1, rfl, HO.out, HB.out⟩
set_option maxHeartbeats 1000000 in
theorem p57_any (A : Option Addr) (n q : Nat) (l : List Int) (B : Option Addr) (m : Nat) (a b : Int) (w : World) (hn : n ≤ 10000) (h1 : Stk w A n q l) (h2 : Stk w B 2 m [a, b]) (ha : InC a) (hb : InC b) :
    Calls Tryz.prog 86 #[.slice A n q, .slice B 2 m] w (PuPost w (pushL l ([flagZ (decide (a < b))]) 64) (pushE (l.length + ([flagZ (decide (a < b))] : List Int).length) 64)) := by
  have H1 := Lib.hid h1
  obtain ⟨b0, o0, rfl, hb0, hcl⟩ := h2.at0 (by omega)
  have e0 : w.cell? ⟨b0, o0, none⟩ = some (.int .i64 a) := hcl 0 (by simp)
  have e1 : w.cell? ⟨b0, o0 + 1, none⟩ = some (.int .i64 b) := hcl 1 (by simp)
  have PS : Hid (∀ w', Keeps w w' → (w'.cell? ⟨b0, o0, none⟩ = some (.int .i64 a) ∧ w'.cell? ⟨b0, o0 + 1, none⟩ = some (.int .i64 b)) ∧ Keeps w w') := Lib.hid fun w' k => ⟨⟨k.cell_some hb0 e0, k.cell_some hb0 e1⟩, k⟩
  have HL := Lib.hid h1.len
  have HIa := Lib.hid ha
  have HIb := Lib.hid hb
  clear hcl h2 h1 ha hb
  go_enter Tryz.func86, Tryz.ntmps86
  go_wp2
  go_region_held3 (fun w' => (w'.cell? ⟨b0, o0, none⟩ = some (.int .i64 a) ∧ w'.cell? ⟨b0, o0 + 1, none⟩ = some (.int .i64 b)) ∧ Keeps w w') (first | exact PS.out _ HB.out | exact PS.out _ HG.out | exact PS.out _ ((Keeps.refl _).drew.alloc _) | exact PS.out _ (Keeps.refl _).drew | exact PS.out _ ((Keeps.refl _).drew.drewN _) | exact PS.out _ ((Keeps.refl _).drewN _).drew | exact PS.out _ ((Keeps.refl _).drewN _))
    (first | (go_at_call 84; refine (layFlag_any _ _ _ l _ _ hn (H1.out.keeps ((Keeps.refl _).drew))).mono ?_; rintro e w1 ⟨A1, n1, d1, rfl, ho, hb⟩; have HO := Lib.hid ho; have HB := Lib.hid (Keeps.trans ((Keeps.refl _).drew) hb); clear ho hb))
  go_wp2
  go_ret2
  exact ⟨A1, n1, d1, rfl, HO.out, HB.out⟩
set_option maxHeartbeats 1000000 in
theorem p58_any (A : Option Addr) (n q : Nat) (l : List Int) (B : Option Addr) (m : Nat) (a b : Int) (w : World) (hn : n ≤ 10000) (h1 : Stk w A n q l) (h2 : Stk w B 2 m [a, b]) (ha : InC a) (hb : InC b) :
    Calls Tryz.prog 87 #[.slice A n q, .slice B 2 m] w (PuPost w (pushL l ([flagZ (decide (b < a))]) 64) (pushE (l.length + ([flagZ (decide (b < a))] : List Int).length) 64)) := by
  have H1 := Lib.hid h1
  obtain ⟨b0, o0, rfl, hb0, hcl⟩ := h2.at0 (by omega)
  have e0 : w.cell? ⟨b0, o0, none⟩ = some (.int .i64 a) := hcl 0 (by simp)
  have e1 : w.cell? ⟨b0, o0 + 1, none⟩ = some (.int .i64 b) := hcl 1 (by simp)
  have PS : Hid (∀ w', Keeps w w' → (w'.cell? ⟨b0, o0, none⟩ = some (.int .i64 a) ∧ w'.cell? ⟨b0, o0 + 1, none⟩ = some (.int .i64 b)) ∧ Keeps w w') := Lib.hid fun w' k => ⟨⟨k.cell_some hb0 e0, k.cell_some hb0 e1⟩, k⟩
  have HL := Lib.hid h1.len
  have HIa := Lib.hid ha
  have HIb := Lib.hid hb
  clear hcl h2 h1 ha hb
  go_enter Tryz.func87, Tryz.ntmps87
  go_wp2
  go_region_held3 (fun w' => (w'.cell? ⟨b0, o0, none⟩ = some (.int .i64 a) ∧ w'.cell? ⟨b0, o0 + 1, none⟩ = some (.int .i64 b)) ∧ Keeps w w') (first | exact PS.out _ HB.out | exact PS.out _ HG.out | exact PS.out _ ((Keeps.refl _).drew.alloc _) | exact PS.out _ (Keeps.refl _).drew | exact PS.out _ ((Keeps.refl _).drew.drewN _) | exact PS.out _ ((Keeps.refl _).drewN _).drew | exact PS.out _ ((Keeps.refl _).drewN _))
    (first | (go_at_call 84; refine (layFlag_any _ _ _ l _ _ hn (H1.out.keeps ((Keeps.refl _).drew))).mono ?_; rintro e w1 ⟨A1, n1, d1, rfl, ho, hb⟩; have HO := Lib.hid ho; have HB := Lib.hid (Keeps.trans ((Keeps.refl _).drew) hb); clear ho hb))
  go_wp2
  go_ret2
  exact ⟨A1, n1, d1, rfl, HO.out, HB.out⟩
set_option maxHeartbeats 1000000 in
theorem p59_any (A : Option Addr) (n q : Nat) (l : List Int) (B : Option Addr) (m : Nat) (a b : Int) (w : World) (hn : n ≤ 10000) (h1 : Stk w A n q l) (h2 : Stk w B 2 m [a, b]) (ha : InC a) (hb : InC b) :
    Calls Tryz.prog 88 #[.slice A n q, .slice B 2 m] w (PuPost w (pushL l ([flagZ (cUlt a b)]) 64) (pushE (l.length + ([flagZ (cUlt a b)] : List Int).length) 64)) := by
  have H1 := Lib.hid h1
  obtain ⟨b0, o0, rfl, hb0, hcl⟩ := h2.at0 (by omega)
  have e0 : w.cell? ⟨b0, o0, none⟩ = some (.int .i64 a) := hcl 0 (by simp)
  have e1 : w.cell? ⟨b0, o0 + 1, none⟩ = some (.int .i64 b) := hcl 1 (by simp)
  have PS : Hid (∀ w', Keeps w w' → (w'.cell? ⟨b0, o0, none⟩ = some (.int .i64 a) ∧ w'.cell? ⟨b0, o0 + 1, none⟩ = some (.int .i64 b)) ∧ Keeps w w') := Lib.hid fun w' k => ⟨⟨k.cell_some hb0 e0, k.cell_some hb0 e1⟩, k⟩
  have HL := Lib.hid h1.len
  have HIa := Lib.hid ha
  have HIb := Lib.hid hb
  clear hcl h2 h1 ha hb
  go_enter Tryz.func88, Tryz.ntmps88
  go_wp2
  go_region_held3 (fun w' => (w'.cell? ⟨b0, o0, none⟩ = some (.int .i64 a) ∧ w'.cell? ⟨b0, o0 + 1, none⟩ = some (.int .i64 b)) ∧ Keeps w w') (first | exact PS.out _ HB.out | exact PS.out _ HG.out | exact PS.out _ ((Keeps.refl _).drew.alloc _) | exact PS.out _ (Keeps.refl _).drew | exact PS.out _ ((Keeps.refl _).drew.drewN _) | exact PS.out _ ((Keeps.refl _).drewN _).drew | exact PS.out _ ((Keeps.refl _).drewN _))
    (first | (go_at_call 89; (with_reducible refine (ult_any _ _ _).mono ?_); rintro e w' ⟨rfl, rfl⟩) | (go_at_call 84; refine (layFlag_any _ _ _ l _ _ hn (H1.out.keeps ((Keeps.refl _).drew))).mono ?_; rintro e w1 ⟨A1, n1, d1, rfl, ho, hb⟩; have HO := Lib.hid ho; have HB := Lib.hid (Keeps.trans ((Keeps.refl _).drew) hb); clear ho hb))
  go_wp2
  go_ret2
  exact ⟨A1, n1, d1, rfl, HO.out, HB.out⟩
set_option maxHeartbeats 1000000 in
theorem p60_any (A : Option Addr) (n q : Nat) (l : List Int) (B : Option Addr) (m : Nat) (a : Int) (w : World) (hn : n ≤ 10000) (h1 : Stk w A n q l) (h2 : Stk w B 1 m [a]) (ha : InC a) :
    Calls Tryz.prog 90 #[.slice A n q, .slice B 1 m] w (PuPost w (pushL l ([flagZ (a == 0)]) 64) (pushE (l.length + ([flagZ (a == 0)] : List Int).length) 64)) := by
  have H1 := Lib.hid h1
  obtain ⟨b0, o0, rfl, hb0, hcl⟩ := h2.at0 (by omega)
  have e0 : w.cell? ⟨b0, o0, none⟩ = some (.int .i64 a) := hcl 0 (by simp)
  have HL := Lib.hid h1.len
  have HIa := Lib.hid ha
  clear hcl h2 h1 ha
  go_enter Tryz.func90, Tryz.ntmps90
  go_wp2_with (go_at_call 84; refine (layFlag_any _ _ _ l _ _ hn (H1.out.keeps (Keeps.refl _))).mono ?_; rintro e w1 ⟨A1, n1, d1, rfl, ho, hb⟩; have HO := Lib.hid ho; have HB := Lib.hid (Keeps.trans (Keeps.refl _) hb); clear ho hb)
  go_ret2
  exact ⟨A1, n1, d1, rfl, HO.out, HB.out⟩
set_option maxHeartbeats 1000000 in
theorem p61_any (A : Option Addr) (n q : Nat) (l : List Int) (B : Option Addr) (m : Nat) (a : Int) (w : World) (hn : n ≤ 10000) (h1 : Stk w A n q l) (h2 : Stk w B 1 m [a]) (ha : InC a) :
    Calls Tryz.prog 91 #[.slice A n q, .slice B 1 m] w (PuPost w (pushL l ([flagZ (decide (a < 0))]) 64) (pushE (l.length + ([flagZ (decide (a < 0))] : List Int).length) 64)) := by
  have H1 := Lib.hid h1
  obtain ⟨b0, o0, rfl, hb0, hcl⟩ := h2.at0 (by omega)
  have e0 : w.cell? ⟨b0, o0, none⟩ = some (.int .i64 a) := hcl 0 (by simp)
  have HL := Lib.hid h1.len
  have HIa := Lib.hid ha
  clear hcl h2 h1 ha
  go_enter Tryz.func91, Tryz.ntmps91
  go_wp2_with (go_at_call 84; refine (layFlag_any _ _ _ l _ _ hn (H1.out.keeps (Keeps.refl _))).mono ?_; rintro e w1 ⟨A1, n1, d1, rfl, ho, hb⟩; have HO := Lib.hid ho; have HB := Lib.hid (Keeps.trans (Keeps.refl _) hb); clear ho hb)
  go_ret2
  exact ⟨A1, n1, d1, rfl, HO.out, HB.out⟩
set_option maxHeartbeats 1000000 in
theorem p62_any (A : Option Addr) (n q : Nat) (l : List Int) (B : Option Addr) (m : Nat) (a b c : Int) (w : World) (hn : n ≤ 10000) (h1 : Stk w A n q l) (h2 : Stk w B 3 m [a, b, c]) (ha : InC a) (hb : InC b) (hc : InC c) :
    Calls Tryz.prog 92 #[.slice A n q, .slice B 3 m] w (PuPost w (pushL l ([flagZ (cIn a b c)]) 64) (pushE (l.length + ([flagZ (cIn a b c)] : List Int).length) 64)) := by
  have H1 := Lib.hid h1
  obtain ⟨b0, o0, rfl, hb0, hcl⟩ := h2.at0 (by omega)
  have e0 : w.cell? ⟨b0, o0, none⟩ = some (.int .i64 a) := hcl 0 (by simp)
  have e1 : w.cell? ⟨b0, o0 + 1, none⟩ = some (.int .i64 b) := hcl 1 (by simp)
  have e2 : w.cell? ⟨b0, o0 + 2, none⟩ = some (.int .i64 c) := hcl 2 (by simp)
  have PS : Hid (∀ w', Keeps w w' → (w'.cell? ⟨b0, o0, none⟩ = some (.int .i64 a) ∧ w'.cell? ⟨b0, o0 + 1, none⟩ = some (.int .i64 b) ∧ w'.cell? ⟨b0, o0 + 2, none⟩ = some (.int .i64 c)) ∧ Keeps w w') := Lib.hid fun w' k => ⟨⟨k.cell_some hb0 e0, k.cell_some hb0 e1, k.cell_some hb0 e2⟩, k⟩
  have HL := Lib.hid h1.len
  have HIa := Lib.hid ha
  have HIb := Lib.hid hb
  have HIc := Lib.hid hc
  clear hcl h2 h1 ha hb hc
  go_enter Tryz.func92, Tryz.ntmps92
  go_wp2
  go_region_held3 (fun w' => (w'.cell? ⟨b0, o0, none⟩ = some (.int .i64 a) ∧ w'.cell? ⟨b0, o0 + 1, none⟩ = some (.int .i64 b) ∧ w'.cell? ⟨b0, o0 + 2, none⟩ = some (.int .i64 c)) ∧ Keeps w w') (first | exact PS.out _ HB.out | exact PS.out _ HG.out | exact PS.out _ ((Keeps.refl _).drew.alloc _) | exact PS.out _ (Keeps.refl _).drew | exact PS.out _ ((Keeps.refl _).drew.drewN _) | exact PS.out _ ((Keeps.refl _).drewN _).drew | exact PS.out _ ((Keeps.refl _).drewN _))
    (first | (go_at_call 93; (with_reducible refine (within_any _ _ _ _).mono ?_); rintro e w' ⟨rfl, rfl⟩) | (go_at_call 84; refine (layFlag_any _ _ _ l _ _ hn (H1.out.keeps ((Keeps.refl _).drew))).mono ?_; rintro e w1 ⟨A1, n1, d1, rfl, ho, hb⟩; have HO := Lib.hid ho; have HB := Lib.hid (Keeps.trans ((Keeps.refl _).drew) hb); clear ho hb))
  go_wp2
  go_ret2
  exact ⟨A1, n1, d1, rfl, HO.out, HB.out⟩
set_option maxHeartbeats 1000000 in
theorem p63_any (A : Option Addr) (n q : Nat) (l : List Int) (B : Option Addr) (m : Nat) (a b : Int) (w : World) (hn : n ≤ 10000) (h1 : Stk w A n q l) (h2 : Stk w B 2 m [a, b]) (ha : InC a) (hb : InC b) :
    Calls Tryz.prog 94 #[.slice A n q, .slice B 2 m] w (PuPost w (pushL l ([dLo (uProd a b), dHi (uProd a b)]) 64) (pushE (l.length + ([dLo (uProd a b), dHi (uProd a b)] : List Int).length) 64)) := by
  have H1 := Lib.hid h1
  obtain ⟨b0, o0, rfl, hb0, hcl⟩ := h2.at0 (by omega)
  have e0 : w.cell? ⟨b0, o0, none⟩ = some (.int .i64 a) := hcl 0 (by simp)
  have e1 : w.cell? ⟨b0, o0 + 1, none⟩ = some (.int .i64 b) := hcl 1 (by simp)
  have PS : Hid (∀ w', Keeps w w' → (w'.cell? ⟨b0, o0, none⟩ = some (.int .i64 a) ∧ w'.cell? ⟨b0, o0 + 1, none⟩ = some (.int .i64 b)) ∧ Keeps w w') := Lib.hid fun w' k => ⟨⟨k.cell_some hb0 e0, k.cell_some hb0 e1⟩, k⟩
  have HL := Lib.hid h1.len
  have HIa := Lib.hid ha
  have HIb := Lib.hid hb
  clear hcl h2 h1 ha hb
  go_enter Tryz.func94, Tryz.ntmps94
  go_wp2
  go_region_held3 (fun w' => (w'.cell? ⟨b0, o0, none⟩ = some (.int .i64 a) ∧ w'.cell? ⟨b0, o0 + 1, none⟩ = some (.int .i64 b)) ∧ Keeps w w') (first | exact PS.out _ HB.out | exact PS.out _ HG.out | exact PS.out _ ((Keeps.refl _).drew.alloc _) | exact PS.out _ (Keeps.refl _).drew | exact PS.out _ ((Keeps.refl _).drew.drewN _) | exact PS.out _ ((Keeps.refl _).drewN _).drew | exact PS.out _ ((Keeps.refl _).drewN _))
    (first | (go_at_call 96; (with_reducible refine (dumul_any _ _ _).mono ?_); rintro e w2 ⟨rfl, hg⟩; have HG := Lib.hid (((Keeps.refl w).drew).trans (Keeps.of_grown hg)); clear hg) | (go_at_call 95; refine (layDbl_any _ _ _ l _ _ _ hn (H1.out.keeps (HG.out))).mono ?_; rintro e w1 ⟨A1, n1, d1, rfl, ho, hb⟩; have HO := Lib.hid ho; have HB := Lib.hid (Keeps.trans (HG.out) hb); clear ho hb))
  go_wp2
  go_ret2
  exact ⟨A1, n1, d1, rfl, HO.out, HB.out⟩
set_option maxHeartbeats 1000000 in
theorem p64_any (A : Option Addr) (n q : Nat) (l : List Int) (B : Option Addr) (m : Nat) (a b : Int) (w : World) (hn : n ≤ 10000) (h1 : Stk w A n q l) (h2 : Stk w B 2 m [a, b]) (ha : InC a) (hb : InC b) :
    Calls Tryz.prog 97 #[.slice A n q, .slice B 2 m] w (PuPost w (pushL l ([dLo (a * b), dHi (a * b)]) 64) (pushE (l.length + ([dLo (a * b), dHi (a * b)] : List Int).length) 64)) := by
  have H1 := Lib.hid h1
  obtain ⟨b0, o0, rfl, hb0, hcl⟩ := h2.at0 (by omega)
  have e0 : w.cell? ⟨b0, o0, none⟩ = some (.int .i64 a) := hcl 0 (by simp)
  have e1 : w.cell? ⟨b0, o0 + 1, none⟩ = some (.int .i64 b) := hcl 1 (by simp)
  have PS : Hid (∀ w', Keeps w w' → (w'.cell? ⟨b0, o0, none⟩ = some (.int .i64 a) ∧ w'.cell? ⟨b0, o0 + 1, none⟩ = some (.int .i64 b)) ∧ Keeps w w') := Lib.hid fun w' k => ⟨⟨k.cell_some hb0 e0, k.cell_some hb0 e1⟩, k⟩
  have HL := Lib.hid h1.len
  have HIa := Lib.hid ha
  have HIb := Lib.hid hb
  clear hcl h2 h1 ha hb
  go_enter Tryz.func97, Tryz.ntmps97
  go_wp2
  go_region_held3 (fun w' => (w'.cell? ⟨b0, o0, none⟩ = some (.int .i64 a) ∧ w'.cell? ⟨b0, o0 + 1, none⟩ = some (.int .i64 b)) ∧ Keeps w w') (first | exact PS.out _ HB.out | exact PS.out _ HG.out | exact PS.out _ ((Keeps.refl _).drew.alloc _) | exact PS.out _ (Keeps.refl _).drew | exact PS.out _ ((Keeps.refl _).drew.drewN _) | exact PS.out _ ((Keeps.refl _).drewN _).drew | exact PS.out _ ((Keeps.refl _).drewN _))
    (first | (go_at_call 98; (with_reducible refine (dmul_any _ _ HIa.out HIb.out _).mono ?_); rintro e w2 ⟨rfl, hg⟩; have HG := Lib.hid (((Keeps.refl w).drew).trans (Keeps.of_grown hg)); clear hg) | (go_at_call 95; refine (layDbl_any _ _ _ l _ _ _ hn (H1.out.keeps (HG.out))).mono ?_; rintro e w1 ⟨A1, n1, d1, rfl, ho, hb⟩; have HO := Lib.hid ho; have HB := Lib.hid (Keeps.trans (HG.out) hb); clear ho hb))
  go_wp2
  go_ret2
  exact ⟨A1, n1, d1, rfl, HO.out, HB.out⟩
set_option maxHeartbeats 1000000 in
theorem p65_any (A : Option Addr) (n q : Nat) (l : List Int) (B : Option Addr) (m : Nat) (a b c : Int) (w : World) (hn : n ≤ 10000) (h1 : Stk w A n q l) (h2 : Stk w B 3 m [a, b, c]) (ha : InC a) (hb : InC b) (hc : InC c) :
    Calls Tryz.prog 99 #[.slice A n q, .slice B 3 m] w (PuPost w (unL (uE (dV a b) c) l [uR (dV a b) c, uQ (dV a b) c]) (unE (uE (dV a b) c) l.length ([uR (dV a b) c, uQ (dV a b) c] : List Int).length)) := by
  have H1 := Lib.hid h1
  have H2 := Lib.hid h2
  obtain ⟨b0, o0, rfl, hb0, hcl⟩ := h2.at0 (by omega)
  have e2 : w.cell? ⟨b0, o0 + 2, none⟩ = some (.int .i64 c) := hcl 2 (by simp)
  have PS : Hid (∀ w', Keeps w w' → w'.cell? ⟨b0, o0 + 2, none⟩ = some (.int .i64 c) ∧ Keeps w w') := Lib.hid fun w' k => ⟨k.cell_some hb0 e2, k⟩
  have HD := Lib.hid (dV_in (l := a) hb)
  obtain ⟨x, hx, ea, eb⟩ : ∃ x, x = dV a b ∧ a = dLo x ∧ b = dHi x := ⟨dV a b, rfl, (dLo_dV ha).symm, (dHi_dV hb).symm⟩
  rw [← hx] at HD ⊢
  have HIc := Lib.hid hc
  subst ea eb
  clear hx h1 h2 ha hb hc hcl
  go_enter Tryz.func99, Tryz.ntmps99
  go_wp2
  go_region_held3 (fun w' => w'.cell? ⟨b0, o0 + 2, none⟩ = some (.int .i64 c) ∧ Keeps w w') (first | exact PS.out _ (Keeps.refl _).drew | exact PS.out _ HG2.out | exact PS.out _ HG.out)
    (first | (go_at_call 106; (with_reducible refine (double_any _ _ _ _ _ _ _ (H2.out.keeps (Keeps.refl _).drew) (by omega)).mono ?_); rintro e w2 ⟨rfl, hg⟩; have HG := Lib.hid (((Keeps.refl _).drew).trans hg); clear hg) | (go_at_call 140; (with_reducible refine (dumod_any _ _ HIc.out _).mono ?_); rintro e w3 ⟨rfl, hg⟩; have HG2 := Lib.hid (HG.out.trans (Keeps.of_grown hg)); clear hg))
  all_goals go_wp2_with (go_at_call 132; refine (layUnless_any _ _ _ _ l _ 2 2 [uR (x) c, uQ (x) c] _ hn (by omega) (H1.out.keeps (HG2.out.alloc _)) (stk_at _ _ _ 2 _ (by simp) rfl (by decide))).mono ?_; rintro e w1 ⟨A1, n1, d1, rfl, ho, hb⟩; have HO := Lib.hid ho; have HB := Lib.hid (Keeps.trans (HG2.out.alloc _) hb); clear ho hb)
  all_goals
    go_ret2
    exact ⟨A1, n1, d1, rfl, HO.out, HB.out⟩
set_option maxHeartbeats 1000000 in
theorem p66_any (A : Option Addr) (n q : Nat) (l : List Int) (B : Option Addr) (m : Nat) (a b c : Int) (w : World) (hn : n ≤ 10000) (h1 : Stk w A n q l) (h2 : Stk w B 3 m [a, b, c]) (ha : InC a) (hb : InC b) (hc : InC c) :
    Calls Tryz.prog 100 #[.slice A n q, .slice B 3 m] w (PuPost w (unL (fE (dV a b) c) l [fR (dV a b) c, fQ (dV a b) c]) (unE (fE (dV a b) c) l.length ([fR (dV a b) c, fQ (dV a b) c] : List Int).length)) := by
  have H1 := Lib.hid h1
  have H2 := Lib.hid h2
  obtain ⟨b0, o0, rfl, hb0, hcl⟩ := h2.at0 (by omega)
  have e2 : w.cell? ⟨b0, o0 + 2, none⟩ = some (.int .i64 c) := hcl 2 (by simp)
  have PS : Hid (∀ w', Keeps w w' → w'.cell? ⟨b0, o0 + 2, none⟩ = some (.int .i64 c) ∧ Keeps w w') := Lib.hid fun w' k => ⟨k.cell_some hb0 e2, k⟩
  have HD := Lib.hid (dV_in (l := a) hb)
  obtain ⟨x, hx, ea, eb⟩ : ∃ x, x = dV a b ∧ a = dLo x ∧ b = dHi x := ⟨dV a b, rfl, (dLo_dV ha).symm, (dHi_dV hb).symm⟩
  rw [← hx] at HD ⊢
  have HIc := Lib.hid hc
  subst ea eb
  clear hx h1 h2 ha hb hc hcl
  go_enter Tryz.func100, Tryz.ntmps100
  go_wp2
  go_region_held3 (fun w' => w'.cell? ⟨b0, o0 + 2, none⟩ = some (.int .i64 c) ∧ Keeps w w') (first | exact PS.out _ (Keeps.refl _).drew | exact PS.out _ HG2.out | exact PS.out _ HG.out)
    (first | (go_at_call 106; (with_reducible refine (double_any _ _ _ _ _ _ _ (H2.out.keeps (Keeps.refl _).drew) (by omega)).mono ?_); rintro e w2 ⟨rfl, hg⟩; have HG := Lib.hid (((Keeps.refl _).drew).trans hg); clear hg) | (go_at_call 141; (with_reducible refine (dfloor_any _ _ HD.out HIc.out _).mono ?_); rintro e w3 ⟨rfl, hg⟩; have HG2 := Lib.hid (HG.out.trans (Keeps.of_grown hg)); clear hg))
  all_goals go_wp2_with (go_at_call 132; refine (layUnless_any _ _ _ _ l _ 2 2 [fR (x) c, fQ (x) c] _ hn (by omega) (H1.out.keeps (HG2.out.alloc _)) (stk_at _ _ _ 2 _ (by simp) rfl (by decide))).mono ?_; rintro e w1 ⟨A1, n1, d1, rfl, ho, hb⟩; have HO := Lib.hid ho; have HB := Lib.hid (Keeps.trans (HG2.out.alloc _) hb); clear ho hb)
  all_goals
    go_ret2
    exact ⟨A1, n1, d1, rfl, HO.out, HB.out⟩
set_option maxHeartbeats 1000000 in
theorem p67_any (A : Option Addr) (n q : Nat) (l : List Int) (B : Option Addr) (m : Nat) (a b c : Int) (w : World) (hn : n ≤ 10000) (h1 : Stk w A n q l) (h2 : Stk w B 3 m [a, b, c]) (ha : InC a) (hb : InC b) (hc : InC c) :
    Calls Tryz.prog 101 #[.slice A n q, .slice B 3 m] w (PuPost w (unL (sE (dV a b) c) l [sR (dV a b) c, sQ (dV a b) c]) (unE (sE (dV a b) c) l.length ([sR (dV a b) c, sQ (dV a b) c] : List Int).length)) := by
  have H1 := Lib.hid h1
  have H2 := Lib.hid h2
  obtain ⟨b0, o0, rfl, hb0, hcl⟩ := h2.at0 (by omega)
  have e2 : w.cell? ⟨b0, o0 + 2, none⟩ = some (.int .i64 c) := hcl 2 (by simp)
  have PS : Hid (∀ w', Keeps w w' → w'.cell? ⟨b0, o0 + 2, none⟩ = some (.int .i64 c) ∧ Keeps w w') := Lib.hid fun w' k => ⟨k.cell_some hb0 e2, k⟩
  have HD := Lib.hid (dV_in (l := a) hb)
  obtain ⟨x, hx, ea, eb⟩ : ∃ x, x = dV a b ∧ a = dLo x ∧ b = dHi x := ⟨dV a b, rfl, (dLo_dV ha).symm, (dHi_dV hb).symm⟩
  rw [← hx] at HD ⊢
  have HIc := Lib.hid hc
  subst ea eb
  clear hx h1 h2 ha hb hc hcl
  go_enter Tryz.func101, Tryz.ntmps101
  go_wp2
  go_region_held3 (fun w' => w'.cell? ⟨b0, o0 + 2, none⟩ = some (.int .i64 c) ∧ Keeps w w') (first | exact PS.out _ (Keeps.refl _).drew | exact PS.out _ HG2.out | exact PS.out _ HG.out)
    (first | (go_at_call 106; (with_reducible refine (double_any _ _ _ _ _ _ _ (H2.out.keeps (Keeps.refl _).drew) (by omega)).mono ?_); rintro e w2 ⟨rfl, hg⟩; have HG := Lib.hid (((Keeps.refl _).drew).trans hg); clear hg) | (go_at_call 142; (with_reducible refine (dsymm_any _ _ HD.out HIc.out _).mono ?_); rintro e w3 ⟨rfl, hg⟩; have HG2 := Lib.hid (HG.out.trans (Keeps.of_grown hg)); clear hg))
  all_goals go_wp2_with (go_at_call 132; refine (layUnless_any _ _ _ _ l _ 2 2 [sR (x) c, sQ (x) c] _ hn (by omega) (H1.out.keeps (HG2.out.alloc _)) (stk_at _ _ _ 2 _ (by simp) rfl (by decide))).mono ?_; rintro e w1 ⟨A1, n1, d1, rfl, ho, hb⟩; have HO := Lib.hid ho; have HB := Lib.hid (Keeps.trans (HG2.out.alloc _) hb); clear ho hb)
  all_goals
    go_ret2
    exact ⟨A1, n1, d1, rfl, HO.out, HB.out⟩
set_option maxHeartbeats 1000000 in
theorem p68_any (A : Option Addr) (n q : Nat) (l : List Int) (B : Option Addr) (m : Nat) (a : Int) (w : World) (hn : n ≤ 10000) (h1 : Stk w A n q l) (h2 : Stk w B 1 m [a]) (ha : InC a) :
    Calls Tryz.prog 102 #[.slice A n q, .slice B 1 m] w (PuPost w (pushL l ([dLo a, dHi a]) 64) (pushE (l.length + ([dLo a, dHi a] : List Int).length) 64)) := by
  have H1 := Lib.hid h1
  obtain ⟨b0, o0, rfl, hb0, hcl⟩ := h2.at0 (by omega)
  have e0 : w.cell? ⟨b0, o0, none⟩ = some (.int .i64 a) := hcl 0 (by simp)
  have HL := Lib.hid h1.len
  have HIa := Lib.hid ha
  clear hcl h2 h1 ha
  go_enter Tryz.func102, Tryz.ntmps102
  go_wp2_with (first | (go_at_call 103; (with_reducible refine (dof_any _ HIa.out _).mono ?_); rintro e w2 ⟨rfl, hg⟩; have HG := Lib.hid (Keeps.of_grown hg); clear hg) | (go_at_call 95; refine (layDbl_any _ _ _ l _ _ _ hn (H1.out.keeps (HG.out))).mono ?_; rintro e w1 ⟨A1, n1, d1, rfl, ho, hb⟩; have HO := Lib.hid ho; have HB := Lib.hid (Keeps.trans (HG.out) hb); clear ho hb))
  go_ret2
  exact ⟨A1, n1, d1, rfl, HO.out, HB.out⟩
set_option maxHeartbeats 1000000 in
theorem p69_any (A : Option Addr) (n q : Nat) (l : List Int) (B : Option Addr) (m : Nat) (a b c d : Int) (w : World) (hn : n ≤ 10000) (h1 : Stk w A n q l) (h2 : Stk w B 4 m [a, b, c, d]) (ha : InC a) (hb : InC b) (hc : InC c) (hd : InC d) :
    Calls Tryz.prog 104 #[.slice A n q, .slice B 4 m] w (PuPost w (pushL l ([dLo (dV a b + dV c d), dHi (dV a b + dV c d)]) 64) (pushE (l.length + ([dLo (dV a b + dV c d), dHi (dV a b + dV c d)] : List Int).length) 64)) := by
  have H1 := Lib.hid h1
  obtain ⟨B1, m1, r1, s1⟩ := h2.head 2 (by omega)
  obtain ⟨B2, m2, r2, s2⟩ := h2.tail 2 (by omega)
  have r1' : ∀ W : World, (Instr.slice 22 (.slice B 4 m) none (some (.int .i64 2)) none).run Tryz.prog W = .ok (.slice B1 2 m1) W := r1
  have r2' : ∀ W : World, (Instr.slice 22 (.slice B 4 m) (some (.int .i64 2)) none none).run Tryz.prog W = .ok (.slice B2 2 m2) W := r2
  clear r1 r2
  have S1 : Hid (Stk w B1 2 m1 [a, b]) := Lib.hid s1
  have S2 : Hid (Stk w B2 2 m2 [c, d]) := Lib.hid s2
  obtain ⟨x, hx, ea, eb⟩ : ∃ x, x = dV a b ∧ a = dLo x ∧ b = dHi x := ⟨dV a b, rfl, (dLo_dV ha).symm, (dHi_dV hb).symm⟩
  obtain ⟨y, hy, ec, ed⟩ : ∃ y, y = dV c d ∧ c = dLo y ∧ d = dHi y := ⟨dV c d, rfl, (dLo_dV hc).symm, (dHi_dV hd).symm⟩
  rw [← hx, ← hy]
  subst ea eb ec ed
  clear hx hy h1 h2 ha hb hc hd s1 s2
  go_enter Tryz.func104, Tryz.ntmps104
  go_wp2
  go_region_held3 (fun w' => Keeps w w') (first | assumption | exact (Keeps.refl _).drew | exact HGb.out | exact HGa.out)
    (first | (go_at_call 106; (with_reducible refine (double_any B1 _ _ _ _ _ _ (S1.out.keeps (by assumption)) (by omega)).mono ?_); rintro e w2 ⟨rfl, hg⟩; have hka := Keeps.trans (by assumption) hg; clear hg) | (go_at_call 106; (with_reducible refine (double_any B2 _ _ _ _ _ _ (S2.out.keeps (by assumption)) (by omega)).mono ?_); rintro e w3 ⟨rfl, hg⟩; have hkb := Keeps.trans (by assumption) hg; clear hg) | (go_at_call 105; (with_reducible refine (dadd_any _ _ _).mono ?_); rintro e w4 ⟨rfl, hg⟩; have HG := Lib.hid (Keeps.trans (by assumption) (Keeps.of_grown hg)); clear hg) | (go_at_call 95; refine (layDbl_any _ _ _ l _ _ _ hn (H1.out.keeps (HG.out))).mono ?_; rintro e w1 ⟨A1, n1, d1, rfl, ho, hb⟩; have HO := Lib.hid ho; have HB := Lib.hid (Keeps.trans (HG.out) hb); clear ho hb))
  all_goals go_wp2
  all_goals
    go_ret2
    exact ⟨A1, n1, d1, rfl, HO.out, HB.out⟩
set_option maxHeartbeats 1000000 in
theorem p70_any (A : Option Addr) (n q : Nat) (l : List Int) (B : Option Addr) (m : Nat) (a b : Int) (w : World) (hn : n ≤ 10000) (h1 : Stk w A n q l) (h2 : Stk w B 2 m [a, b]) (ha : InC a) (hb : InC b) :
    Calls Tryz.prog 107 #[.slice A n q, .slice B 2 m] w (PuPost w (pushL l ([dLo (-dV a b), dHi (-dV a b)]) 64) (pushE (l.length + ([dLo (-dV a b), dHi (-dV a b)] : List Int).length) 64)) := by
  have H1 := Lib.hid h1
  have H2 := Lib.hid h2
  obtain ⟨x, hx, ea, eb⟩ : ∃ x, x = dV a b ∧ a = dLo x ∧ b = dHi x := ⟨dV a b, rfl, (dLo_dV ha).symm, (dHi_dV hb).symm⟩
  rw [← hx]
  subst ea eb
  clear hx h1 h2 ha hb
  go_enter Tryz.func107, Tryz.ntmps107
  go_wp2_with (first | (go_at_call 106; (with_reducible refine (double_any _ _ _ _ _ _ _ H2.out (by omega)).mono ?_); rintro e w2 ⟨rfl, hg⟩; have HG := Lib.hid hg; clear hg) | (go_at_call 108; (with_reducible refine (dneg_any _ _).mono ?_); rintro e w3 ⟨rfl, hg⟩; have HG3 := Lib.hid (HG.out.trans (Keeps.of_grown hg)); clear hg) | (go_at_call 95; refine (layDbl_any _ _ _ l _ _ _ hn (H1.out.keeps (HG3.out))).mono ?_; rintro e w1 ⟨A1, n1, d1, rfl, ho, hb⟩; have HO := Lib.hid ho; have HB := Lib.hid (Keeps.trans (HG3.out) hb); clear ho hb))
  go_ret2
  exact ⟨A1, n1, d1, rfl, HO.out, HB.out⟩
set_option maxHeartbeats 1000000 in
theorem p71_any (A : Option Addr) (n q : Nat) (l : List Int) (B : Option Addr) (m : Nat) (a : Int) (w : World) (hn : n ≤ 10000) (h1 : Stk w A n q l) (h2 : Stk w B 1 m [a]) (ha : InC a) :
    Calls Tryz.prog 109 #[.slice A n q, .slice B 1 m] w (PuPost w (pushL l ([wrap64 (a * 8)]) 64) (pushE (l.length + ([wrap64 (a * 8)] : List Int).length) 64)) := by
  have H1 := Lib.hid h1
  obtain ⟨b0, o0, rfl, hb0, hcl⟩ := h2.at0 (by omega)
  have e0 : w.cell? ⟨b0, o0, none⟩ = some (.int .i64 a) := hcl 0 (by simp)
  have HL := Lib.hid h1.len
  have HIa := Lib.hid ha
  clear hcl h2 h1 ha
  go_enter Tryz.func109, Tryz.ntmps109
  go_wp2_with (first | (go_at_call 43; refine (lay_any _ _ _ l _ 1 1 [wrap64 (a * 8)] _ hn (by omega) (H1.out.keeps ((Keeps.refl _).alloc _)) (stk_at _ _ _ 1 _ (by simp) rfl (by decide))).mono ?_; rintro e w1 ⟨A1, n1, d1, rfl, ho, hb⟩; have HO := Lib.hid ho; have HB := Lib.hid (Keeps.trans ((Keeps.refl _).alloc _) hb); clear ho hb))
  go_ret2
  exact ⟨A1, n1, d1, rfl, HO.out, HB.out⟩
set_option maxHeartbeats 1000000 in
theorem p72_any (A : Option Addr) (n q : Nat) (l : List Int) (B : Option Addr) (m : Nat) (a : Int) (w : World) (hn : n ≤ 10000) (h1 : Stk w A n q l) (h2 : Stk w B 1 m [a]) (ha : InC a) :
    Calls Tryz.prog 110 #[.slice A n q, .slice B 1 m] w (PuPost w (pushL l ([wrap64 (a + 8)]) 64) (pushE (l.length + ([wrap64 (a + 8)] : List Int).length) 64)) := by
  have H1 := Lib.hid h1
  obtain ⟨b0, o0, rfl, hb0, hcl⟩ := h2.at0 (by omega)
  have e0 : w.cell? ⟨b0, o0, none⟩ = some (.int .i64 a) := hcl 0 (by simp)
  have HL := Lib.hid h1.len
  have HIa := Lib.hid ha
  clear hcl h2 h1 ha
  go_enter Tryz.func110, Tryz.ntmps110
  go_wp2_with (first | (go_at_call 43; refine (lay_any _ _ _ l _ 1 1 [wrap64 (a + 8)] _ hn (by omega) (H1.out.keeps ((Keeps.refl _).alloc _)) (stk_at _ _ _ 1 _ (by simp) rfl (by decide))).mono ?_; rintro e w1 ⟨A1, n1, d1, rfl, ho, hb⟩; have HO := Lib.hid ho; have HB := Lib.hid (Keeps.trans ((Keeps.refl _).alloc _) hb); clear ho hb))
  go_ret2
  exact ⟨A1, n1, d1, rfl, HO.out, HB.out⟩
set_option maxHeartbeats 1000000 in
theorem p73_any (A : Option Addr) (n q : Nat) (l : List Int) (B : Option Addr) (m : Nat) (a : Int) (w : World) (hn : n ≤ 10000) (h1 : Stk w A n q l) (h2 : Stk w B 1 m [a]) (ha : InC a) :
    Calls Tryz.prog 111 #[.slice A n q, .slice B 1 m] w (PuPost w (pushL l ([wrap64 (a + 1)]) 64) (pushE (l.length + ([wrap64 (a + 1)] : List Int).length) 64)) := by
  have H1 := Lib.hid h1
  obtain ⟨b0, o0, rfl, hb0, hcl⟩ := h2.at0 (by omega)
  have e0 : w.cell? ⟨b0, o0, none⟩ = some (.int .i64 a) := hcl 0 (by simp)
  have HL := Lib.hid h1.len
  have HIa := Lib.hid ha
  clear hcl h2 h1 ha
  go_enter Tryz.func111, Tryz.ntmps111
  go_wp2_with (first | (go_at_call 43; refine (lay_any _ _ _ l _ 1 1 [wrap64 (a + 1)] _ hn (by omega) (H1.out.keeps ((Keeps.refl _).alloc _)) (stk_at _ _ _ 1 _ (by simp) rfl (by decide))).mono ?_; rintro e w1 ⟨A1, n1, d1, rfl, ho, hb⟩; have HO := Lib.hid ho; have HB := Lib.hid (Keeps.trans ((Keeps.refl _).alloc _) hb); clear ho hb))
  go_ret2
  exact ⟨A1, n1, d1, rfl, HO.out, HB.out⟩
set_option maxHeartbeats 1000000 in
theorem p74_any (A : Option Addr) (n q : Nat) (l : List Int) (B : Option Addr) (m : Nat) (a : Int) (w : World) (hn : n ≤ 10000) (h1 : Stk w A n q l) (h2 : Stk w B 1 m [a]) (ha : InC a) :
    Calls Tryz.prog 112 #[.slice A n q, .slice B 1 m] w (PuPost w (pushL l ([cAl a]) 64) (pushE (l.length + ([cAl a] : List Int).length) 64)) := by
  have H1 := Lib.hid h1
  obtain ⟨b0, o0, rfl, hb0, hcl⟩ := h2.at0 (by omega)
  have e0 : w.cell? ⟨b0, o0, none⟩ = some (.int .i64 a) := hcl 0 (by simp)
  have HL := Lib.hid h1.len
  have HIa := Lib.hid ha
  clear hcl h2 h1 ha
  go_enter Tryz.func112, Tryz.ntmps112
  go_wp2_with (first | (go_at_call 113; (with_reducible refine (aligned_any _ _).mono ?_); rintro e w' ⟨rfl, rfl⟩) | (go_at_call 43; refine (lay_any _ _ _ l _ 1 1 [cAl a] _ hn (by omega) (H1.out.keeps ((Keeps.refl _).alloc _)) (stk_at _ _ _ 1 _ (by simp) rfl (by decide))).mono ?_; rintro e w1 ⟨A1, n1, d1, rfl, ho, hb⟩; have HO := Lib.hid ho; have HB := Lib.hid (Keeps.trans ((Keeps.refl _).alloc _) hb); clear ho hb))
  go_ret2
  exact ⟨A1, n1, d1, rfl, HO.out, HB.out⟩
end Go.Proofs.YtnlkggfgloblcaaGreat
