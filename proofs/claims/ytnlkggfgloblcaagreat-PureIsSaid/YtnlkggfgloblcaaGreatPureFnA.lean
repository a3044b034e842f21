/-
  What each operation's own call answers of its cells and of those below them (18 to 35).
-/
import Derived.Test.YtnlkggfgloblcaaGreatPureHeld
import Derived.Test.YtnlkggfgloblcaaGreatDblDivs
namespace Go.Proofs.YtnlkggfgloblcaaGreat
open Go.RowKit

set_option maxHeartbeats 1000000 in
theorem p18_any (A : Option Addr) (n q : Nat) (l : List Int) (B : Option Addr) (m : Nat) (a : Int) (w : World) (hn : n ≤ 10000) (h1 : Stk w A n q l) (h2 : Stk w B 1 m [a]) (ha : InC a) :
    Calls Tryz.prog 42 #[.slice A n q, .slice B 1 m] w (PuPost w (pushL l ([a, a]) 64) (pushE (l.length + ([a, a] : List Int).length) 64)) := by
  have H1 := Lib.hid h1
  obtain ⟨b0, o0, rfl, hb0, hcl⟩ := h2.at0 (by omega)
  have e0 : w.cell? ⟨b0, o0, none⟩ = some (.int .i64 a) := hcl 0 (by simp)
  have PS : Hid (∀ w', Keeps w w' → (w'.cell? ⟨b0, o0, none⟩ = some (.int .i64 a)) ∧ Keeps w w') := Lib.hid fun w' k => ⟨k.cell_some hb0 e0, k⟩
  have HL := Lib.hid h1.len
  have HIa := Lib.hid ha
  clear hcl h2 h1 ha
  go_enter Tryz.func42, Tryz.ntmps42
  go_wp2
  go_region_held3 (fun w' => (w'.cell? ⟨b0, o0, none⟩ = some (.int .i64 a)) ∧ Keeps w w') (first | exact PS.out _ HB.out | exact PS.out _ HG.out | exact PS.out _ ((Keeps.refl _).drew.alloc _) | exact PS.out _ (Keeps.refl _).drew | exact PS.out _ ((Keeps.refl _).drew.drewN _) | exact PS.out _ ((Keeps.refl _).drewN _).drew | exact PS.out _ ((Keeps.refl _).drewN _))
    (first | (go_at_call 43; refine (lay_any _ _ _ l _ 2 2 [a, a] _ hn (by omega) (H1.out.keeps ((Keeps.refl _).drew.alloc _)) (stk_at _ _ _ 2 _ (by simp) rfl (by decide))).mono ?_; rintro e w1 ⟨A1, n1, d1, rfl, ho, hb⟩; have HO := Lib.hid ho; have HB := Lib.hid (Keeps.trans ((Keeps.refl _).drew.alloc _) hb); clear ho hb))
  go_wp2
  go_ret2
  exact ⟨A1, n1, d1, rfl, HO.out, HB.out⟩
set_option maxHeartbeats 1000000 in
theorem p19_any (A : Option Addr) (n q : Nat) (l : List Int) (B : Option Addr) (m : Nat) (a : Int) (w : World) (hn : n ≤ 10000) (h1 : Stk w A n q l) (h2 : Stk w B 1 m [a]) (ha : InC a) :
    Calls Tryz.prog 44 #[.slice A n q, .slice B 1 m] w (PuPost w (pushL l ([]) 64) (pushE (l.length + ([] : List Int).length) 64)) := by
  have H1 := Lib.hid h1
  obtain ⟨b0, o0, rfl, hb0, hcl⟩ := h2.at0 (by omega)
  have e0 : w.cell? ⟨b0, o0, none⟩ = some (.int .i64 a) := hcl 0 (by simp)
  have HL := Lib.hid h1.len
  have HIa := Lib.hid ha
  clear hcl h2 h1 ha
  go_enter Tryz.func44, Tryz.ntmps44
  go_wp2_with (go_at_call 43; refine (lay_any _ _ _ l _ 0 0 [] _ hn (by omega) H1.out Stk.nil).mono ?_; rintro e w1 ⟨A1, n1, d1, rfl, ho, hb⟩; have HO := Lib.hid ho; have HB := Lib.hid hb; clear ho hb)
  go_ret2
  exact ⟨A1, n1, d1, rfl, HO.out, HB.out⟩
set_option maxHeartbeats 1000000 in
theorem p20_any (A : Option Addr) (n q : Nat) (l : List Int) (B : Option Addr) (m : Nat) (a b : Int) (w : World) (hn : n ≤ 10000) (h1 : Stk w A n q l) (h2 : Stk w B 2 m [a, b]) (ha : InC a) (hb : InC b) :
    Calls Tryz.prog 45 #[.slice A n q, .slice B 2 m] w (PuPost w (pushL l ([b, a]) 64) (pushE (l.length + ([b, a] : List Int).length) 64)) := by
  have H1 := Lib.hid h1
  obtain ⟨b0, o0, rfl, hb0, hcl⟩ := h2.at0 (by omega)
  have e0 : w.cell? ⟨b0, o0, none⟩ = some (.int .i64 a) := hcl 0 (by simp)
  have e1 : w.cell? ⟨b0, o0 + 1, none⟩ = some (.int .i64 b) := hcl 1 (by simp)
  have PS : Hid (∀ w', Keeps w w' → (w'.cell? ⟨b0, o0, none⟩ = some (.int .i64 a) ∧ w'.cell? ⟨b0, o0 + 1, none⟩ = some (.int .i64 b)) ∧ Keeps w w') := Lib.hid fun w' k => ⟨⟨k.cell_some hb0 e0, k.cell_some hb0 e1⟩, k⟩
  have HL := Lib.hid h1.len
  have HIa := Lib.hid ha
  have HIb := Lib.hid hb
  clear hcl h2 h1 ha hb
  go_enter Tryz.func45, Tryz.ntmps45
  go_wp2
  go_region_held3 (fun w' => (w'.cell? ⟨b0, o0, none⟩ = some (.int .i64 a) ∧ w'.cell? ⟨b0, o0 + 1, none⟩ = some (.int .i64 b)) ∧ Keeps w w') (first | exact PS.out _ HB.out | exact PS.out _ HG.out | exact PS.out _ ((Keeps.refl _).drew.alloc _) | exact PS.out _ (Keeps.refl _).drew | exact PS.out _ ((Keeps.refl _).drew.drewN _) | exact PS.out _ ((Keeps.refl _).drewN _).drew | exact PS.out _ ((Keeps.refl _).drewN _))
    (first | (go_at_call 43; refine (lay_any _ _ _ l _ 2 2 [b, a] _ hn (by omega) (H1.out.keeps ((Keeps.refl _).drew.alloc _)) (stk_at _ _ _ 2 _ (by simp) rfl (by decide))).mono ?_; rintro e w1 ⟨A1, n1, d1, rfl, ho, hb⟩; have HO := Lib.hid ho; have HB := Lib.hid (Keeps.trans ((Keeps.refl _).drew.alloc _) hb); clear ho hb))
  go_wp2
  go_ret2
  exact ⟨A1, n1, d1, rfl, HO.out, HB.out⟩
set_option maxHeartbeats 1000000 in
theorem p21_any (A : Option Addr) (n q : Nat) (l : List Int) (B : Option Addr) (m : Nat) (a b : Int) (w : World) (hn : n ≤ 10000) (h1 : Stk w A n q l) (h2 : Stk w B 2 m [a, b]) (ha : InC a) (hb : InC b) :
    Calls Tryz.prog 46 #[.slice A n q, .slice B 2 m] w (PuPost w (pushL l ([a, b, a]) 64) (pushE (l.length + ([a, b, a] : List Int).length) 64)) := by
  have H1 := Lib.hid h1
  obtain ⟨b0, o0, rfl, hb0, hcl⟩ := h2.at0 (by omega)
  have e0 : w.cell? ⟨b0, o0, none⟩ = some (.int .i64 a) := hcl 0 (by simp)
  have e1 : w.cell? ⟨b0, o0 + 1, none⟩ = some (.int .i64 b) := hcl 1 (by simp)
  have PS : Hid (∀ w', Keeps w w' → (w'.cell? ⟨b0, o0, none⟩ = some (.int .i64 a) ∧ w'.cell? ⟨b0, o0 + 1, none⟩ = some (.int .i64 b)) ∧ Keeps w w') := Lib.hid fun w' k => ⟨⟨k.cell_some hb0 e0, k.cell_some hb0 e1⟩, k⟩
  have HL := Lib.hid h1.len
  have HIa := Lib.hid ha
  have HIb := Lib.hid hb
  clear hcl h2 h1 ha hb
  go_enter Tryz.func46, Tryz.ntmps46
  go_wp2
  go_region_held3 (fun w' => (w'.cell? ⟨b0, o0, none⟩ = some (.int .i64 a) ∧ w'.cell? ⟨b0, o0 + 1, none⟩ = some (.int .i64 b)) ∧ Keeps w w') (first | exact PS.out _ HB.out | exact PS.out _ HG.out | exact PS.out _ ((Keeps.refl _).drew.alloc _) | exact PS.out _ (Keeps.refl _).drew | exact PS.out _ ((Keeps.refl _).drew.drewN _) | exact PS.out _ ((Keeps.refl _).drewN _).drew | exact PS.out _ ((Keeps.refl _).drewN _))
    (first | (go_at_call 43; refine (lay_any _ _ _ l _ 3 3 [a, b, a] _ hn (by omega) (H1.out.keeps ((Keeps.refl _).drew.alloc _)) (stk_at _ _ _ 3 _ (by simp) rfl (by decide))).mono ?_; rintro e w1 ⟨A1, n1, d1, rfl, ho, hb⟩; have HO := Lib.hid ho; have HB := Lib.hid (Keeps.trans ((Keeps.refl _).drew.alloc _) hb); clear ho hb))
  go_wp2
  go_ret2
  exact ⟨A1, n1, d1, rfl, HO.out, HB.out⟩
set_option maxHeartbeats 1000000 in
theorem p22_any (A : Option Addr) (n q : Nat) (l : List Int) (B : Option Addr) (m : Nat) (a b c : Int) (w : World) (hn : n ≤ 10000) (h1 : Stk w A n q l) (h2 : Stk w B 3 m [a, b, c]) (ha : InC a) (hb : InC b) (hc : InC c) :
    Calls Tryz.prog 47 #[.slice A n q, .slice B 3 m] w (PuPost w (pushL l ([b, c, a]) 64) (pushE (l.length + ([b, c, a] : List Int).length) 64)) := by
  have H1 := Lib.hid h1
  obtain ⟨b0, o0, rfl, hb0, hcl⟩ := h2.at0 (by omega)
  have e0 : w.cell? ⟨b0, o0, none⟩ = some (.int .i64 a) := hcl 0 (by simp)
  have e1 : w.cell? ⟨b0, o0 + 1, none⟩ = some (.int .i64 b) := hcl 1 (by simp)
  have e2 : w.cell? ⟨b0, o0 + 2, none⟩ = some (.int .i64 c) := hcl 2 (by simp)
  have PS : Hid (∀ w', Keeps w w' → (w'.cell? ⟨b0, o0, none⟩ = some (.int .i64 a) ∧ w'.cell? ⟨b0, o0 + 1, none⟩ = some (.int .i64 b) ∧ w'.cell? ⟨b0, o0 + 2, none⟩ = some (.int .i64 c)) ∧ Keeps w w') := Lib.hid fun w' k => ⟨⟨k.cell_some hb0 e0, k.cell_some hb0 e1, k.cell_some hb0 e2⟩, k⟩
  have HL := Lib.hid h1.len
  have HIa := Lib.hid ha
  have HIb := Lib.hid hb
  have HIc := Lib.hid hc
  clear hcl h2 h1 ha hb hc
  go_enter Tryz.func47, Tryz.ntmps47
  go_wp2
  go_region_held3 (fun w' => (w'.cell? ⟨b0, o0, none⟩ = some (.int .i64 a) ∧ w'.cell? ⟨b0, o0 + 1, none⟩ = some (.int .i64 b) ∧ w'.cell? ⟨b0, o0 + 2, none⟩ = some (.int .i64 c)) ∧ Keeps w w') (first | exact PS.out _ HB.out | exact PS.out _ HG.out | exact PS.out _ ((Keeps.refl _).drew.alloc _) | exact PS.out _ (Keeps.refl _).drew | exact PS.out _ ((Keeps.refl _).drew.drewN _) | exact PS.out _ ((Keeps.refl _).drewN _).drew | exact PS.out _ ((Keeps.refl _).drewN _))
    (first | (go_at_call 43; refine (lay_any _ _ _ l _ 3 3 [b, c, a] _ hn (by omega) (H1.out.keeps ((Keeps.refl _).drew.alloc _)) (stk_at _ _ _ 3 _ (by simp) rfl (by decide))).mono ?_; rintro e w1 ⟨A1, n1, d1, rfl, ho, hb⟩; have HO := Lib.hid ho; have HB := Lib.hid (Keeps.trans ((Keeps.refl _).drew.alloc _) hb); clear ho hb))
  go_wp2
  go_ret2
  exact ⟨A1, n1, d1, rfl, HO.out, HB.out⟩
set_option maxHeartbeats 1000000 in
theorem p23_any (A : Option Addr) (n q : Nat) (l : List Int) (B : Option Addr) (m : Nat) (a b : Int) (w : World) (hn : n ≤ 10000) (h1 : Stk w A n q l) (h2 : Stk w B 2 m [a, b]) (ha : InC a) (hb : InC b) :
    Calls Tryz.prog 48 #[.slice A n q, .slice B 2 m] w (PuPost w (pushL l ([b]) 64) (pushE (l.length + ([b] : List Int).length) 64)) := by
  have H1 := Lib.hid h1
  obtain ⟨b0, o0, rfl, hb0, hcl⟩ := h2.at0 (by omega)
  have e0 : w.cell? ⟨b0, o0, none⟩ = some (.int .i64 a) := hcl 0 (by simp)
  have e1 : w.cell? ⟨b0, o0 + 1, none⟩ = some (.int .i64 b) := hcl 1 (by simp)
  have HL := Lib.hid h1.len
  have HIa := Lib.hid ha
  have HIb := Lib.hid hb
  clear hcl h2 h1 ha hb
  go_enter Tryz.func48, Tryz.ntmps48
  go_wp2_with (first | (go_at_call 43; refine (lay_any _ _ _ l _ 1 1 [b] _ hn (by omega) (H1.out.keeps ((Keeps.refl _).alloc _)) (stk_at _ _ _ 1 _ (by simp) rfl (by decide))).mono ?_; rintro e w1 ⟨A1, n1, d1, rfl, ho, hb⟩; have HO := Lib.hid ho; have HB := Lib.hid (Keeps.trans ((Keeps.refl _).alloc _) hb); clear ho hb))
  go_ret2
  exact ⟨A1, n1, d1, rfl, HO.out, HB.out⟩
set_option maxHeartbeats 1000000 in
theorem p24_any (A : Option Addr) (n q : Nat) (l : List Int) (B : Option Addr) (m : Nat) (a b : Int) (w : World) (hn : n ≤ 10000) (h1 : Stk w A n q l) (h2 : Stk w B 2 m [a, b]) (ha : InC a) (hb : InC b) :
    Calls Tryz.prog 49 #[.slice A n q, .slice B 2 m] w (PuPost w (pushL l ([b, a, b]) 64) (pushE (l.length + ([b, a, b] : List Int).length) 64)) := by
  have H1 := Lib.hid h1
  obtain ⟨b0, o0, rfl, hb0, hcl⟩ := h2.at0 (by omega)
  have e0 : w.cell? ⟨b0, o0, none⟩ = some (.int .i64 a) := hcl 0 (by simp)
  have e1 : w.cell? ⟨b0, o0 + 1, none⟩ = some (.int .i64 b) := hcl 1 (by simp)
  have PS : Hid (∀ w', Keeps w w' → (w'.cell? ⟨b0, o0, none⟩ = some (.int .i64 a) ∧ w'.cell? ⟨b0, o0 + 1, none⟩ = some (.int .i64 b)) ∧ Keeps w w') := Lib.hid fun w' k => ⟨⟨k.cell_some hb0 e0, k.cell_some hb0 e1⟩, k⟩
  have HL := Lib.hid h1.len
  have HIa := Lib.hid ha
  have HIb := Lib.hid hb
  clear hcl h2 h1 ha hb
  go_enter Tryz.func49, Tryz.ntmps49
  go_wp2
  go_region_held3 (fun w' => (w'.cell? ⟨b0, o0, none⟩ = some (.int .i64 a) ∧ w'.cell? ⟨b0, o0 + 1, none⟩ = some (.int .i64 b)) ∧ Keeps w w') (first | exact PS.out _ HB.out | exact PS.out _ HG.out | exact PS.out _ ((Keeps.refl _).drew.alloc _) | exact PS.out _ (Keeps.refl _).drew | exact PS.out _ ((Keeps.refl _).drew.drewN _) | exact PS.out _ ((Keeps.refl _).drewN _).drew | exact PS.out _ ((Keeps.refl _).drewN _))
    (first | (go_at_call 43; refine (lay_any _ _ _ l _ 3 3 [b, a, b] _ hn (by omega) (H1.out.keeps ((Keeps.refl _).drew.alloc _)) (stk_at _ _ _ 3 _ (by simp) rfl (by decide))).mono ?_; rintro e w1 ⟨A1, n1, d1, rfl, ho, hb⟩; have HO := Lib.hid ho; have HB := Lib.hid (Keeps.trans ((Keeps.refl _).drew.alloc _) hb); clear ho hb))
  go_wp2
  go_ret2
  exact ⟨A1, n1, d1, rfl, HO.out, HB.out⟩
set_option maxHeartbeats 1000000 in
theorem p25_any (A : Option Addr) (n q : Nat) (l : List Int) (B : Option Addr) (m : Nat) (a b : Int) (w : World) (hn : n ≤ 10000) (h1 : Stk w A n q l) (h2 : Stk w B 2 m [a, b]) (ha : InC a) (hb : InC b) :
    Calls Tryz.prog 50 #[.slice A n q, .slice B 2 m] w (PuPost w (pushL l ([a, b, a, b]) 64) (pushE (l.length + ([a, b, a, b] : List Int).length) 64)) := by
  have H1 := Lib.hid h1
  obtain ⟨b0, o0, rfl, hb0, hcl⟩ := h2.at0 (by omega)
  have e0 : w.cell? ⟨b0, o0, none⟩ = some (.int .i64 a) := hcl 0 (by simp)
  have e1 : w.cell? ⟨b0, o0 + 1, none⟩ = some (.int .i64 b) := hcl 1 (by simp)
  have PS : Hid (∀ w', Keeps w w' → (w'.cell? ⟨b0, o0, none⟩ = some (.int .i64 a) ∧ w'.cell? ⟨b0, o0 + 1, none⟩ = some (.int .i64 b)) ∧ Keeps w w') := Lib.hid fun w' k => ⟨⟨k.cell_some hb0 e0, k.cell_some hb0 e1⟩, k⟩
  have HL := Lib.hid h1.len
  have HIa := Lib.hid ha
  have HIb := Lib.hid hb
  clear hcl h2 h1 ha hb
  go_enter Tryz.func50, Tryz.ntmps50
  go_wp2
  go_region_held3 (fun w' => (w'.cell? ⟨b0, o0, none⟩ = some (.int .i64 a) ∧ w'.cell? ⟨b0, o0 + 1, none⟩ = some (.int .i64 b)) ∧ Keeps w w') (first | exact PS.out _ HB.out | exact PS.out _ HG.out | exact PS.out _ ((Keeps.refl _).drew.alloc _) | exact PS.out _ (Keeps.refl _).drew | exact PS.out _ ((Keeps.refl _).drew.drewN _) | exact PS.out _ ((Keeps.refl _).drewN _).drew | exact PS.out _ ((Keeps.refl _).drewN _))
    (first | (go_at_call 43; refine (lay_any _ _ _ l _ 4 4 [a, b, a, b] _ hn (by omega) (H1.out.keeps ((Keeps.refl _).drew.alloc _)) (stk_at _ _ _ 4 _ (by simp) rfl (by decide))).mono ?_; rintro e w1 ⟨A1, n1, d1, rfl, ho, hb⟩; have HO := Lib.hid ho; have HB := Lib.hid (Keeps.trans ((Keeps.refl _).drew.alloc _) hb); clear ho hb))
  go_wp2
  go_ret2
  exact ⟨A1, n1, d1, rfl, HO.out, HB.out⟩
set_option maxHeartbeats 1000000 in
theorem p26_any (A : Option Addr) (n q : Nat) (l : List Int) (B : Option Addr) (m : Nat) (a b : Int) (w : World) (hn : n ≤ 10000) (h1 : Stk w A n q l) (h2 : Stk w B 2 m [a, b]) (ha : InC a) (hb : InC b) :
    Calls Tryz.prog 51 #[.slice A n q, .slice B 2 m] w (PuPost w (pushL l ([]) 64) (pushE (l.length + ([] : List Int).length) 64)) := by
  have H1 := Lib.hid h1
  obtain ⟨b0, o0, rfl, hb0, hcl⟩ := h2.at0 (by omega)
  have e0 : w.cell? ⟨b0, o0, none⟩ = some (.int .i64 a) := hcl 0 (by simp)
  have e1 : w.cell? ⟨b0, o0 + 1, none⟩ = some (.int .i64 b) := hcl 1 (by simp)
  have HL := Lib.hid h1.len
  have HIa := Lib.hid ha
  have HIb := Lib.hid hb
  clear hcl h2 h1 ha hb
  go_enter Tryz.func51, Tryz.ntmps51
  go_wp2_with (go_at_call 43; refine (lay_any _ _ _ l _ 0 0 [] _ hn (by omega) H1.out Stk.nil).mono ?_; rintro e w1 ⟨A1, n1, d1, rfl, ho, hb⟩; have HO := Lib.hid ho; have HB := Lib.hid hb; clear ho hb)
  go_ret2
  exact ⟨A1, n1, d1, rfl, HO.out, HB.out⟩
set_option maxHeartbeats 1000000 in
theorem p27_any (A : Option Addr) (n q : Nat) (l : List Int) (B : Option Addr) (m : Nat) (a b c d : Int) (w : World) (hn : n ≤ 10000) (h1 : Stk w A n q l) (h2 : Stk w B 4 m [a, b, c, d]) (ha : InC a) (hb : InC b) (hc : InC c) (hd : InC d) :
    Calls Tryz.prog 52 #[.slice A n q, .slice B 4 m] w (PuPost w (pushL l ([c, d, a, b]) 64) (pushE (l.length + ([c, d, a, b] : List Int).length) 64)) := by
  have H1 := Lib.hid h1
  obtain ⟨b0, o0, rfl, hb0, hcl⟩ := h2.at0 (by omega)
  have e0 : w.cell? ⟨b0, o0, none⟩ = some (.int .i64 a) := hcl 0 (by simp)
  have e1 : w.cell? ⟨b0, o0 + 1, none⟩ = some (.int .i64 b) := hcl 1 (by simp)
  have e2 : w.cell? ⟨b0, o0 + 2, none⟩ = some (.int .i64 c) := hcl 2 (by simp)
  have e3 : w.cell? ⟨b0, o0 + 3, none⟩ = some (.int .i64 d) := hcl 3 (by simp)
  have PS : Hid (∀ w', Keeps w w' → (w'.cell? ⟨b0, o0, none⟩ = some (.int .i64 a) ∧ w'.cell? ⟨b0, o0 + 1, none⟩ = some (.int .i64 b) ∧ w'.cell? ⟨b0, o0 + 2, none⟩ = some (.int .i64 c) ∧ w'.cell? ⟨b0, o0 + 3, none⟩ = some (.int .i64 d)) ∧ Keeps w w') := Lib.hid fun w' k => ⟨⟨k.cell_some hb0 e0, k.cell_some hb0 e1, k.cell_some hb0 e2, k.cell_some hb0 e3⟩, k⟩
  have HL := Lib.hid h1.len
  have HIa := Lib.hid ha
  have HIb := Lib.hid hb
  have HIc := Lib.hid hc
  have HId := Lib.hid hd
  clear hcl h2 h1 ha hb hc hd
  go_enter Tryz.func52, Tryz.ntmps52
  go_wp2
  go_region_held3 (fun w' => (w'.cell? ⟨b0, o0, none⟩ = some (.int .i64 a) ∧ w'.cell? ⟨b0, o0 + 1, none⟩ = some (.int .i64 b) ∧ w'.cell? ⟨b0, o0 + 2, none⟩ = some (.int .i64 c) ∧ w'.cell? ⟨b0, o0 + 3, none⟩ = some (.int .i64 d)) ∧ Keeps w w') (first | exact PS.out _ HB.out | exact PS.out _ HG.out | exact PS.out _ ((Keeps.refl _).drew.alloc _) | exact PS.out _ (Keeps.refl _).drew | exact PS.out _ ((Keeps.refl _).drew.drewN _) | exact PS.out _ ((Keeps.refl _).drewN _).drew | exact PS.out _ ((Keeps.refl _).drewN _))
    (first | (go_at_call 43; refine (lay_any _ _ _ l _ 4 4 [c, d, a, b] _ hn (by omega) (H1.out.keeps ((Keeps.refl _).drew.alloc _)) (stk_at _ _ _ 4 _ (by simp) rfl (by decide))).mono ?_; rintro e w1 ⟨A1, n1, d1, rfl, ho, hb⟩; have HO := Lib.hid ho; have HB := Lib.hid (Keeps.trans ((Keeps.refl _).drew.alloc _) hb); clear ho hb))
  go_wp2
  go_ret2
  exact ⟨A1, n1, d1, rfl, HO.out, HB.out⟩
set_option maxHeartbeats 1000000 in
theorem p28_any (A : Option Addr) (n q : Nat) (l : List Int) (B : Option Addr) (m : Nat) (a b c d : Int) (w : World) (hn : n ≤ 10000) (h1 : Stk w A n q l) (h2 : Stk w B 4 m [a, b, c, d]) (ha : InC a) (hb : InC b) (hc : InC c) (hd : InC d) :
    Calls Tryz.prog 53 #[.slice A n q, .slice B 4 m] w (PuPost w (pushL l ([a, b, c, d, a, b]) 64) (pushE (l.length + ([a, b, c, d, a, b] : List Int).length) 64)) := by
  have H1 := Lib.hid h1
  obtain ⟨b0, o0, rfl, hb0, hcl⟩ := h2.at0 (by omega)
  have e0 : w.cell? ⟨b0, o0, none⟩ = some (.int .i64 a) := hcl 0 (by simp)
  have e1 : w.cell? ⟨b0, o0 + 1, none⟩ = some (.int .i64 b) := hcl 1 (by simp)
  have e2 : w.cell? ⟨b0, o0 + 2, none⟩ = some (.int .i64 c) := hcl 2 (by simp)
  have e3 : w.cell? ⟨b0, o0 + 3, none⟩ = some (.int .i64 d) := hcl 3 (by simp)
  have PS : Hid (∀ w', Keeps w w' → (w'.cell? ⟨b0, o0, none⟩ = some (.int .i64 a) ∧ w'.cell? ⟨b0, o0 + 1, none⟩ = some (.int .i64 b) ∧ w'.cell? ⟨b0, o0 + 2, none⟩ = some (.int .i64 c) ∧ w'.cell? ⟨b0, o0 + 3, none⟩ = some (.int .i64 d)) ∧ Keeps w w') := Lib.hid fun w' k => ⟨⟨k.cell_some hb0 e0, k.cell_some hb0 e1, k.cell_some hb0 e2, k.cell_some hb0 e3⟩, k⟩
  have HL := Lib.hid h1.len
  have HIa := Lib.hid ha
  have HIb := Lib.hid hb
  have HIc := Lib.hid hc
  have HId := Lib.hid hd
  clear hcl h2 h1 ha hb hc hd
  go_enter Tryz.func53, Tryz.ntmps53
  go_wp2
  go_region_held3 (fun w' => (w'.cell? ⟨b0, o0, none⟩ = some (.int .i64 a) ∧ w'.cell? ⟨b0, o0 + 1, none⟩ = some (.int .i64 b) ∧ w'.cell? ⟨b0, o0 + 2, none⟩ = some (.int .i64 c) ∧ w'.cell? ⟨b0, o0 + 3, none⟩ = some (.int .i64 d)) ∧ Keeps w w') (first | exact PS.out _ HB.out | exact PS.out _ HG.out | exact PS.out _ ((Keeps.refl _).drew.alloc _) | exact PS.out _ (Keeps.refl _).drew | exact PS.out _ ((Keeps.refl _).drew.drewN _) | exact PS.out _ ((Keeps.refl _).drewN _).drew | exact PS.out _ ((Keeps.refl _).drewN _))
    (first | (go_at_call 43; refine (lay_any _ _ _ l _ 6 6 [a, b, c, d, a, b] _ hn (by omega) (H1.out.keeps ((Keeps.refl _).drew.alloc _)) (stk_at _ _ _ 6 _ (by simp) rfl (by decide))).mono ?_; rintro e w1 ⟨A1, n1, d1, rfl, ho, hb⟩; have HO := Lib.hid ho; have HB := Lib.hid (Keeps.trans ((Keeps.refl _).drew.alloc _) hb); clear ho hb))
  go_wp2
  go_ret2
  exact ⟨A1, n1, d1, rfl, HO.out, HB.out⟩
set_option maxHeartbeats 1000000 in
theorem p29_any (A : Option Addr) (n q : Nat) (l : List Int) (B : Option Addr) (m : Nat) (a : Int) (w : World) (hn : n ≤ 10000) (h1 : Stk w A n q l) (h2 : Stk w B 1 m [a]) (ha : InC a) :
    Calls Tryz.prog 54 #[.slice A n q, .slice B 1 m] w (PuPost w (pushL l (if a = 0 then [0] else [a, a]) 64) (pushE (l.length + (if a = 0 then [0] else [a, a] : List Int).length) 64)) := by
  have H1 := Lib.hid h1
  obtain ⟨b0, o0, rfl, hb0, hcl⟩ := h2.at0 (by omega)
  have e0 : w.cell? ⟨b0, o0, none⟩ = some (.int .i64 a) := hcl 0 (by simp)
  have PS : Hid (∀ w', Keeps w w' → (w'.cell? ⟨b0, o0, none⟩ = some (.int .i64 a)) ∧ Keeps w w') := Lib.hid fun w' k => ⟨k.cell_some hb0 e0, k⟩
  have HL := Lib.hid h1.len
  have HIa := Lib.hid ha
  clear hcl h2 h1 ha
  have HY : (if a = 0 then [0] else [a, a]).length = 0 + (if a = 0 then 1 else 2) := by split <;> rfl
  clear HY
  by_cases ha0 : a = 0
  · subst ha0
    rw [if_pos rfl]
    go_enter Tryz.func54, Tryz.ntmps54
    go_wp2_with (go_at_call 43; refine (lay_any _ _ _ l _ 1 1 [0] _ hn (by omega) (H1.out.keeps ((Keeps.refl _).alloc _)) (stk_at _ _ _ 1 _ (by simp) rfl (by decide))).mono ?_; rintro e w1 ⟨A1, n1, d1, rfl, ho, hb⟩; have HO := Lib.hid ho; have HB := Lib.hid (Keeps.trans ((Keeps.refl _).alloc _) hb); clear ho hb)
    go_ret2
    exact ⟨A1, n1, d1, rfl, HO.out, HB.out⟩
  · have hd : (a == 0) = false := by simpa using ha0
    rw [if_neg ha0]
    clear ha0
    go_enter Tryz.func54, Tryz.ntmps54
    go_wp2
    go_region_held3 (fun w' => (w'.cell? ⟨b0, o0, none⟩ = some (.int .i64 a)) ∧ Keeps w w') (first | exact PS.out _ HB.out | exact PS.out _ HG.out | exact PS.out _ ((Keeps.refl _).drew.alloc _) | exact PS.out _ (Keeps.refl _).drew | exact PS.out _ ((Keeps.refl _).drew.drewN _) | exact PS.out _ ((Keeps.refl _).drewN _).drew | exact PS.out _ ((Keeps.refl _).drewN _))
      (first | (go_at_call 43; refine (lay_any _ _ _ l _ 2 2 [a, a] _ hn (by omega) (H1.out.keeps ((Keeps.refl _).drew.alloc _)) (stk_at _ _ _ 2 _ (by simp) rfl (by decide))).mono ?_; rintro e w1 ⟨A1, n1, d1, rfl, ho, hb⟩; have HO := Lib.hid ho; have HB := Lib.hid (Keeps.trans ((Keeps.refl _).drew.alloc _) hb); clear ho hb))
    go_wp2
    go_ret2
    exact ⟨A1, n1, d1, rfl, HO.out, HB.out⟩
set_option maxHeartbeats 1000000 in
theorem p30_any (A : Option Addr) (n q : Nat) (l : List Int) (B : Option Addr) (m : Nat) (a : Int) (w : World) (hn : n ≤ 10000) (h1 : Stk w A n q l) (h2 : Stk w B 1 m [a]) (ha : InC a) :
    Calls Tryz.prog 55 #[.slice A n q, .slice B 1 m] w (PuPost w (unL (pickE l.length a) l [pickX l a]) (unE (pickE l.length a) l.length ([pickX l a] : List Int).length)) := by
  have H1 := Lib.hid h1
  obtain ⟨b0, o0, rfl, hb0, hcl⟩ := h2.at0 (by omega)
  have e0 : w.cell? ⟨b0, o0, none⟩ = some (.int .i64 a) := hcl 0 (by simp)
  have HL := Lib.hid h1.len
  have HIa := Lib.hid ha
  clear hcl h2 h1 ha
  go_enter Tryz.func55, Tryz.ntmps55
  go_wp2_with (first | (go_at_call 131; refine (pick_any _ _ _ l _ _ hn H1.out).mono ?_; rintro e w' ⟨rfl, rfl⟩) | (go_at_call 132; refine (layUnless_any _ _ _ _ l _ 1 1 [pickX l a] _ hn (by omega) (H1.out.keeps ((Keeps.refl _).alloc _)) (stk_at _ _ _ 1 _ (by simp) rfl (by decide))).mono ?_; rintro e w1 ⟨A1, n1, d1, rfl, ho, hb⟩; have HO := Lib.hid ho; have HB := Lib.hid (Keeps.trans ((Keeps.refl _).alloc _) hb); clear ho hb))
  go_ret2
  exact ⟨A1, n1, d1, rfl, HO.out, HB.out⟩
set_option maxHeartbeats 1000000 in
theorem p31_any (A : Option Addr) (n q : Nat) (l : List Int) (B : Option Addr) (m : Nat) (a : Int) (w : World) (hn : n ≤ 10000) (h1 : Stk w A n q l) (h2 : Stk w B 1 m [a]) (ha : InC a) :
    Calls Tryz.prog 56 #[.slice A n q, .slice B 1 m] w (PuPost w (rollL l a) (pickE l.length a)) := by
  have H1 := Lib.hid h1
  obtain ⟨b0, o0, rfl, hb0, hcl⟩ := h2.at0 (by omega)
  have e0 : w.cell? ⟨b0, o0, none⟩ = some (.int .i64 a) := hcl 0 (by simp)
  have HL := Lib.hid h1.len
  have HIa := Lib.hid ha
  clear hcl h2 h1 ha
  go_enter Tryz.func56, Tryz.ntmps56
  go_wp2_with (go_at_call 57; refine (roll_any _ _ _ l _ _ hn H1.out).mono ?_; rintro e w1 ⟨A1, n1, d1, rfl, ho, hb⟩; have HO := Lib.hid ho; have HB := Lib.hid (keeps_below hb); clear ho hb)
  go_ret2
  exact ⟨A1, n1, d1, rfl, HO.out, HB.out⟩
set_option maxHeartbeats 1000000 in
theorem p32_any (A : Option Addr) (n q : Nat) (l : List Int) (B : Option Addr) (m : Nat) (w : World) (hn : n ≤ 10000) (h1 : Stk w A n q l) (_ : Stk w B 0 m []) :
    Calls Tryz.prog 58 #[.slice A n q, .slice B 0 m] w (PuPost w (pushL l ([(l.length : Int)]) 64) (pushE (l.length + ([(l.length : Int)] : List Int).length) 64)) := by
  have H1 := Lib.hid h1
  have HL := Lib.hid h1.len
  clear h1
  go_enter Tryz.func58, Tryz.ntmps58
  go_wp2_with (go_at_call 43; refine (lay_any _ _ _ l _ 1 1 [(n : Int)] _ hn (by omega) (H1.out.keeps ((Keeps.refl _).alloc _)) (stk_at _ _ _ 1 _ (by simp) rfl (by decide))).mono ?_; rintro e w1 ⟨A1, n1, d1, rfl, ho, hb⟩; have HO := Lib.hid ho; have HB := Lib.hid (Keeps.trans ((Keeps.refl _).alloc _) hb); clear ho hb)
  go_ret2
  rw [HL.out]
  exact ⟨A1, n1, d1, rfl, HO.out, HB.out⟩
set_option maxHeartbeats 1000000 in
theorem p33_any (A : Option Addr) (n q : Nat) (l : List Int) (B : Option Addr) (m : Nat) (a b : Int) (w : World) (hn : n ≤ 10000) (h1 : Stk w A n q l) (h2 : Stk w B 2 m [a, b]) (ha : InC a) (hb : InC b) :
    Calls Tryz.prog 59 #[.slice A n q, .slice B 2 m] w (PuPost w (pushL l ([wrap64 (a + b)]) 64) (pushE (l.length + ([wrap64 (a + b)] : List Int).length) 64)) := by
  have H1 := Lib.hid h1
  obtain ⟨b0, o0, rfl, hb0, hcl⟩ := h2.at0 (by omega)
  have e0 : w.cell? ⟨b0, o0, none⟩ = some (.int .i64 a) := hcl 0 (by simp)
  have e1 : w.cell? ⟨b0, o0 + 1, none⟩ = some (.int .i64 b) := hcl 1 (by simp)
  have PS : Hid (∀ w', Keeps w w' → (w'.cell? ⟨b0, o0, none⟩ = some (.int .i64 a) ∧ w'.cell? ⟨b0, o0 + 1, none⟩ = some (.int .i64 b)) ∧ Keeps w w') := Lib.hid fun w' k => ⟨⟨k.cell_some hb0 e0, k.cell_some hb0 e1⟩, k⟩
  have HL := Lib.hid h1.len
  have HIa := Lib.hid ha
  have HIb := Lib.hid hb
  clear hcl h2 h1 ha hb
  have hw : IntKind.i64.wrap (a + b) = wrap64 (a + b) := wrapi64 _
  go_enter Tryz.func59, Tryz.ntmps59
  go_wp2
  go_region_held3 (fun w' => (w'.cell? ⟨b0, o0, none⟩ = some (.int .i64 a) ∧ w'.cell? ⟨b0, o0 + 1, none⟩ = some (.int .i64 b)) ∧ Keeps w w') (first | exact PS.out _ HB.out | exact PS.out _ HG.out | exact PS.out _ ((Keeps.refl _).drew.alloc _) | exact PS.out _ (Keeps.refl _).drew | exact PS.out _ ((Keeps.refl _).drew.drewN _) | exact PS.out _ ((Keeps.refl _).drewN _).drew | exact PS.out _ ((Keeps.refl _).drewN _))
    (first | (go_at_call 43; refine (lay_any _ _ _ l _ 1 1 [wrap64 (a + b)] _ hn (by omega) (H1.out.keeps ((Keeps.refl _).drew.alloc _)) (stk_at _ _ _ 1 _ (by simp) rfl (by decide))).mono ?_; rintro e w1 ⟨A1, n1, d1, rfl, ho, hb⟩; have HO := Lib.hid ho; have HB := Lib.hid (Keeps.trans ((Keeps.refl _).drew.alloc _) hb); clear ho hb))
  go_wp2
  go_ret2
  exact ⟨A1, n1, d1, rfl, HO.out, HB.out⟩
set_option maxHeartbeats 1000000 in
theorem p34_any (A : Option Addr) (n q : Nat) (l : List Int) (B : Option Addr) (m : Nat) (a b : Int) (w : World) (hn : n ≤ 10000) (h1 : Stk w A n q l) (h2 : Stk w B 2 m [a, b]) (ha : InC a) (hb : InC b) :
    Calls Tryz.prog 60 #[.slice A n q, .slice B 2 m] w (PuPost w (pushL l ([wrap64 (a - b)]) 64) (pushE (l.length + ([wrap64 (a - b)] : List Int).length) 64)) := by
  have H1 := Lib.hid h1
  obtain ⟨b0, o0, rfl, hb0, hcl⟩ := h2.at0 (by omega)
  have e0 : w.cell? ⟨b0, o0, none⟩ = some (.int .i64 a) := hcl 0 (by simp)
  have e1 : w.cell? ⟨b0, o0 + 1, none⟩ = some (.int .i64 b) := hcl 1 (by simp)
  have PS : Hid (∀ w', Keeps w w' → (w'.cell? ⟨b0, o0, none⟩ = some (.int .i64 a) ∧ w'.cell? ⟨b0, o0 + 1, none⟩ = some (.int .i64 b)) ∧ Keeps w w') := Lib.hid fun w' k => ⟨⟨k.cell_some hb0 e0, k.cell_some hb0 e1⟩, k⟩
  have HL := Lib.hid h1.len
  have HIa := Lib.hid ha
  have HIb := Lib.hid hb
  clear hcl h2 h1 ha hb
  have hw : IntKind.i64.wrap (a - b) = wrap64 (a - b) := wrapi64 _
  go_enter Tryz.func60, Tryz.ntmps60
  go_wp2
  go_region_held3 (fun w' => (w'.cell? ⟨b0, o0, none⟩ = some (.int .i64 a) ∧ w'.cell? ⟨b0, o0 + 1, none⟩ = some (.int .i64 b)) ∧ Keeps w w') (first | exact PS.out _ HB.out | exact PS.out _ HG.out | exact PS.out _ ((Keeps.refl _).drew.alloc _) | exact PS.out _ (Keeps.refl _).drew | exact PS.out _ ((Keeps.refl _).drew.drewN _) | exact PS.out _ ((Keeps.refl _).drewN _).drew | exact PS.out _ ((Keeps.refl _).drewN _))
    (first | (go_at_call 43; refine (lay_any _ _ _ l _ 1 1 [wrap64 (a - b)] _ hn (by omega) (H1.out.keeps ((Keeps.refl _).drew.alloc _)) (stk_at _ _ _ 1 _ (by simp) rfl (by decide))).mono ?_; rintro e w1 ⟨A1, n1, d1, rfl, ho, hb⟩; have HO := Lib.hid ho; have HB := Lib.hid (Keeps.trans ((Keeps.refl _).drew.alloc _) hb); clear ho hb))
  go_wp2
  go_ret2
  exact ⟨A1, n1, d1, rfl, HO.out, HB.out⟩
set_option maxHeartbeats 1000000 in
theorem p35_any (A : Option Addr) (n q : Nat) (l : List Int) (B : Option Addr) (m : Nat) (a b : Int) (w : World) (hn : n ≤ 10000) (h1 : Stk w A n q l) (h2 : Stk w B 2 m [a, b]) (ha : InC a) (hb : InC b) :
    Calls Tryz.prog 61 #[.slice A n q, .slice B 2 m] w (PuPost w (pushL l ([wrap64 (a * b)]) 64) (pushE (l.length + ([wrap64 (a * b)] : List Int).length) 64)) := by
  have H1 := Lib.hid h1
  obtain ⟨b0, o0, rfl, hb0, hcl⟩ := h2.at0 (by omega)
  have e0 : w.cell? ⟨b0, o0, none⟩ = some (.int .i64 a) := hcl 0 (by simp)
  have e1 : w.cell? ⟨b0, o0 + 1, none⟩ = some (.int .i64 b) := hcl 1 (by simp)
  have PS : Hid (∀ w', Keeps w w' → (w'.cell? ⟨b0, o0, none⟩ = some (.int .i64 a) ∧ w'.cell? ⟨b0, o0 + 1, none⟩ = some (.int .i64 b)) ∧ Keeps w w') := Lib.hid fun w' k => ⟨⟨k.cell_some hb0 e0, k.cell_some hb0 e1⟩, k⟩
  have HL := Lib.hid h1.len
  have HIa := Lib.hid ha
  have HIb := Lib.hid hb
  clear hcl h2 h1 ha hb
  have hw : IntKind.i64.wrap (a * b) = wrap64 (a * b) := wrapi64 _
  go_enter Tryz.func61, Tryz.ntmps61
  go_wp2
  go_region_held3 (fun w' => (w'.cell? ⟨b0, o0, none⟩ = some (.int .i64 a) ∧ w'.cell? ⟨b0, o0 + 1, none⟩ = some (.int .i64 b)) ∧ Keeps w w') (first | exact PS.out _ HB.out | exact PS.out _ HG.out | exact PS.out _ ((Keeps.refl _).drew.alloc _) | exact PS.out _ (Keeps.refl _).drew | exact PS.out _ ((Keeps.refl _).drew.drewN _) | exact PS.out _ ((Keeps.refl _).drewN _).drew | exact PS.out _ ((Keeps.refl _).drewN _))
    (first | (go_at_call 43; refine (lay_any _ _ _ l _ 1 1 [wrap64 (a * b)] _ hn (by omega) (H1.out.keeps ((Keeps.refl _).drew.alloc _)) (stk_at _ _ _ 1 _ (by simp) rfl (by decide))).mono ?_; rintro e w1 ⟨A1, n1, d1, rfl, ho, hb⟩; have HO := Lib.hid ho; have HB := Lib.hid (Keeps.trans ((Keeps.refl _).drew.alloc _) hb); clear ho hb))
  go_wp2
  go_ret2
  exact ⟨A1, n1, d1, rfl, HO.out, HB.out⟩
end Go.Proofs.YtnlkggfgloblcaaGreat
