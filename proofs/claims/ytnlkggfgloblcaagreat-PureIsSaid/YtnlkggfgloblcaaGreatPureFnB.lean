/-
  What each operation's own call answers of its cells and of those below them (36 to 54).
-/
import Derived.Test.YtnlkggfgloblcaaGreatPureHeld
import Derived.Test.YtnlkggfgloblcaaGreatDblDivs
namespace Go.Proofs.YtnlkggfgloblcaaGreat
open Go.RowKit

set_option maxHeartbeats 1000000 in
theorem p36_any (A : Option Addr) (n q : Nat) (l : List Int) (B : Option Addr) (m : Nat) (a b : Int) (w : World) (hn : n ≤ 10000) (h1 : Stk w A n q l) (h2 : Stk w B 2 m [a, b]) (ha : InC a) (hb : InC b) :
    Calls Tryz.prog 62 #[.slice A n q, .slice B 2 m] w (PuPost w (unL (cBad a b) l [cFq a b]) (unE (cBad a b) l.length ([cFq a b] : List Int).length)) := by
  have H1 := Lib.hid h1
  obtain ⟨b0, o0, rfl, hb0, hcl⟩ := h2.at0 (by omega)
  have e0 : w.cell? ⟨b0, o0, none⟩ = some (.int .i64 a) := hcl 0 (by simp)
  have e1 : w.cell? ⟨b0, o0 + 1, none⟩ = some (.int .i64 b) := hcl 1 (by simp)
  have PS : Hid (∀ w', Keeps w w' → (w'.cell? ⟨b0, o0, none⟩ = some (.int .i64 a) ∧ w'.cell? ⟨b0, o0 + 1, none⟩ = some (.int .i64 b)) ∧ Keeps w w') := Lib.hid fun w' k => ⟨⟨k.cell_some hb0 e0, k.cell_some hb0 e1⟩, k⟩
  have HL := Lib.hid h1.len
  have HIa := Lib.hid ha
  have HIb := Lib.hid hb
  clear hcl h2 h1 ha hb
  go_enter Tryz.func62, Tryz.ntmps62
  go_wp2
  go_region_held3 (fun w' => (w'.cell? ⟨b0, o0, none⟩ = some (.int .i64 a) ∧ w'.cell? ⟨b0, o0 + 1, none⟩ = some (.int .i64 b)) ∧ Keeps w w') (first | exact PS.out _ HB.out | exact PS.out _ HG.out | exact PS.out _ ((Keeps.refl _).drew.alloc _) | exact PS.out _ (Keeps.refl _).drew | exact PS.out _ ((Keeps.refl _).drew.drewN _) | exact PS.out _ ((Keeps.refl _).drewN _).drew | exact PS.out _ ((Keeps.refl _).drewN _))
    (first | (go_at_call 135; (with_reducible refine (floor_any _ _ HIa.out _).mono ?_); rintro e w' ⟨rfl, nf, rfl⟩; have HG := Lib.hid (((Keeps.refl w).drew).drewN nf)))
  go_wp2_with (go_at_call 132; refine (layUnless_any _ _ _ _ l _ 1 1 [cFq a b] _ hn (by omega) (H1.out.keeps (((Keeps.refl _).drewN _).alloc _)) (stk_at _ _ _ 1 _ (by simp) rfl (by decide))).mono ?_; rintro e w1 ⟨A1, n1, d1, rfl, ho, hb⟩; have HO := Lib.hid ho; have HB := Lib.hid (Keeps.trans (((Keeps.refl _).drewN _).alloc _) hb); clear ho hb)
  go_ret2
  exact ⟨A1, n1, d1, rfl, HO.out, HB.out⟩
set_option maxHeartbeats 1000000 in
theorem p37_any (A : Option Addr) (n q : Nat) (l : List Int) (B : Option Addr) (m : Nat) (a b : Int) (w : World) (hn : n ≤ 10000) (h1 : Stk w A n q l) (h2 : Stk w B 2 m [a, b]) (ha : InC a) (hb : InC b) :
    Calls Tryz.prog 63 #[.slice A n q, .slice B 2 m] w (PuPost w (unL (cBad a b) l [cFr a b]) (unE (cBad a b) l.length ([cFr a b] : List Int).length)) := by
  have H1 := Lib.hid h1
  obtain ⟨b0, o0, rfl, hb0, hcl⟩ := h2.at0 (by omega)
  have e0 : w.cell? ⟨b0, o0, none⟩ = some (.int .i64 a) := hcl 0 (by simp)
  have e1 : w.cell? ⟨b0, o0 + 1, none⟩ = some (.int .i64 b) := hcl 1 (by simp)
  have PS : Hid (∀ w', Keeps w w' → (w'.cell? ⟨b0, o0, none⟩ = some (.int .i64 a) ∧ w'.cell? ⟨b0, o0 + 1, none⟩ = some (.int .i64 b)) ∧ Keeps w w') := Lib.hid fun w' k => ⟨⟨k.cell_some hb0 e0, k.cell_some hb0 e1⟩, k⟩
  have HL := Lib.hid h1.len
  have HIa := Lib.hid ha
  have HIb := Lib.hid hb
  clear hcl h2 h1 ha hb
  go_enter Tryz.func63, Tryz.ntmps63
  go_wp2
  go_region_held3 (fun w' => (w'.cell? ⟨b0, o0, none⟩ = some (.int .i64 a) ∧ w'.cell? ⟨b0, o0 + 1, none⟩ = some (.int .i64 b)) ∧ Keeps w w') (first | exact PS.out _ HB.out | exact PS.out _ HG.out | exact PS.out _ ((Keeps.refl _).drew.alloc _) | exact PS.out _ (Keeps.refl _).drew | exact PS.out _ ((Keeps.refl _).drew.drewN _) | exact PS.out _ ((Keeps.refl _).drewN _).drew | exact PS.out _ ((Keeps.refl _).drewN _))
    (first | (go_at_call 135; (with_reducible refine (floor_any _ _ HIa.out _).mono ?_); rintro e w' ⟨rfl, nf, rfl⟩; have HG := Lib.hid (((Keeps.refl w).drew).drewN nf)))
  go_wp2_with (go_at_call 132; refine (layUnless_any _ _ _ _ l _ 1 1 [cFr a b] _ hn (by omega) (H1.out.keeps (((Keeps.refl _).drewN _).alloc _)) (stk_at _ _ _ 1 _ (by simp) rfl (by decide))).mono ?_; rintro e w1 ⟨A1, n1, d1, rfl, ho, hb⟩; have HO := Lib.hid ho; have HB := Lib.hid (Keeps.trans (((Keeps.refl _).drewN _).alloc _) hb); clear ho hb)
  go_ret2
  exact ⟨A1, n1, d1, rfl, HO.out, HB.out⟩
set_option maxHeartbeats 1000000 in
theorem p38_any (A : Option Addr) (n q : Nat) (l : List Int) (B : Option Addr) (m : Nat) (a b : Int) (w : World) (hn : n ≤ 10000) (h1 : Stk w A n q l) (h2 : Stk w B 2 m [a, b]) (ha : InC a) (hb : InC b) :
    Calls Tryz.prog 64 #[.slice A n q, .slice B 2 m] w (PuPost w (unL (cBad a b) l [cFr a b, cFq a b]) (unE (cBad a b) l.length ([cFr a b, cFq a b] : List Int).length)) := by
  have H1 := Lib.hid h1
  obtain ⟨b0, o0, rfl, hb0, hcl⟩ := h2.at0 (by omega)
  have e0 : w.cell? ⟨b0, o0, none⟩ = some (.int .i64 a) := hcl 0 (by simp)
  have e1 : w.cell? ⟨b0, o0 + 1, none⟩ = some (.int .i64 b) := hcl 1 (by simp)
  have PS : Hid (∀ w', Keeps w w' → (w'.cell? ⟨b0, o0, none⟩ = some (.int .i64 a) ∧ w'.cell? ⟨b0, o0 + 1, none⟩ = some (.int .i64 b)) ∧ Keeps w w') := Lib.hid fun w' k => ⟨⟨k.cell_some hb0 e0, k.cell_some hb0 e1⟩, k⟩
  have HL := Lib.hid h1.len
  have HIa := Lib.hid ha
  have HIb := Lib.hid hb
  clear hcl h2 h1 ha hb
  go_enter Tryz.func64, Tryz.ntmps64
  go_wp2
  go_region_held3 (fun w' => (w'.cell? ⟨b0, o0, none⟩ = some (.int .i64 a) ∧ w'.cell? ⟨b0, o0 + 1, none⟩ = some (.int .i64 b)) ∧ Keeps w w') (first | exact PS.out _ HB.out | exact PS.out _ HG.out | exact PS.out _ ((Keeps.refl _).drew.alloc _) | exact PS.out _ (Keeps.refl _).drew | exact PS.out _ ((Keeps.refl _).drew.drewN _) | exact PS.out _ ((Keeps.refl _).drewN _).drew | exact PS.out _ ((Keeps.refl _).drewN _))
    (first | (go_at_call 135; (with_reducible refine (floor_any _ _ HIa.out _).mono ?_); rintro e w' ⟨rfl, nf, rfl⟩; have HG := Lib.hid (((Keeps.refl w).drew).drewN nf)))
  go_wp2_with (go_at_call 132; refine (layUnless_any _ _ _ _ l _ 2 2 [cFr a b, cFq a b] _ hn (by omega) (H1.out.keeps (((Keeps.refl _).drewN _).alloc _)) (stk_at _ _ _ 2 _ (by simp) rfl (by decide))).mono ?_; rintro e w1 ⟨A1, n1, d1, rfl, ho, hb⟩; have HO := Lib.hid ho; have HB := Lib.hid (Keeps.trans (((Keeps.refl _).drewN _).alloc _) hb); clear ho hb)
  go_ret2
  exact ⟨A1, n1, d1, rfl, HO.out, HB.out⟩
set_option maxHeartbeats 1000000 in
theorem p39_any (A : Option Addr) (n q : Nat) (l : List Int) (B : Option Addr) (m : Nat) (a b c : Int) (w : World) (hn : n ≤ 10000) (h1 : Stk w A n q l) (h2 : Stk w B 3 m [a, b, c]) (ha : InC a) (hb : InC b) (hc : InC c) :
    Calls Tryz.prog 65 #[.slice A n q, .slice B 3 m] w (PuPost w (unL (fE (a * b) c) l [fQ (a * b) c]) (unE (fE (a * b) c) l.length ([fQ (a * b) c] : List Int).length)) := by
  have H1 := Lib.hid h1
  obtain ⟨b0, o0, rfl, hb0, hcl⟩ := h2.at0 (by omega)
  have e0 : w.cell? ⟨b0, o0, none⟩ = some (.int .i64 a) := hcl 0 (by simp)
  have e1 : w.cell? ⟨b0, o0 + 1, none⟩ = some (.int .i64 b) := hcl 1 (by simp)
  have e2 : w.cell? ⟨b0, o0 + 2, none⟩ = some (.int .i64 c) := hcl 2 (by simp)
  have PS : Hid (∀ w', Keeps w w' → (w'.cell? ⟨b0, o0, none⟩ = some (.int .i64 a) ∧ w'.cell? ⟨b0, o0 + 1, none⟩ = some (.int .i64 b) ∧ w'.cell? ⟨b0, o0 + 2, none⟩ = some (.int .i64 c)) ∧ Keeps w w') := Lib.hid fun w' k => ⟨⟨k.cell_some hb0 e0, k.cell_some hb0 e1, k.cell_some hb0 e2⟩, k⟩
  have HL := Lib.hid h1.len
  have HIa := Lib.hid ha
  have HIb := Lib.hid hb
  have HIc := Lib.hid hc
  clear hcl h2 h1 ha hb hc
  go_enter Tryz.func65, Tryz.ntmps65
  go_wp2
  go_region_held3 (fun w' => (w'.cell? ⟨b0, o0, none⟩ = some (.int .i64 a) ∧ w'.cell? ⟨b0, o0 + 1, none⟩ = some (.int .i64 b) ∧ w'.cell? ⟨b0, o0 + 2, none⟩ = some (.int .i64 c)) ∧ Keeps w w') (first | exact PS.out _ HB.out | exact PS.out _ HG.out | exact PS.out _ ((Keeps.refl _).drew.alloc _) | exact PS.out _ (Keeps.refl _).drew | exact PS.out _ ((Keeps.refl _).drew.drewN _) | exact PS.out _ ((Keeps.refl _).drewN _).drew | exact PS.out _ ((Keeps.refl _).drewN _))
    (first | (go_at_call 136; (with_reducible refine (dscale_any _ _ _ HIa.out HIb.out HIc.out _).mono ?_); rintro e w2 ⟨rfl, hg⟩; have HG := Lib.hid (((Keeps.refl w).drew).trans (Keeps.of_grown hg)); clear hg))
  go_wp2_with (go_at_call 132; refine (layUnless_any _ _ _ _ l _ 1 1 [fQ (a * b) c] _ hn (by omega) (H1.out.keeps (HG.out.alloc _)) (stk_at _ _ _ 1 _ (by simp) rfl (by decide))).mono ?_; rintro e w1 ⟨A1, n1, d1, rfl, ho, hb⟩; have HO := Lib.hid ho; have HB := Lib.hid (Keeps.trans (HG.out.alloc _) hb); clear ho hb)
  go_ret2
  exact ⟨A1, n1, d1, rfl, HO.out, HB.out⟩
set_option maxHeartbeats 1000000 in
theorem p40_any (A : Option Addr) (n q : Nat) (l : List Int) (B : Option Addr) (m : Nat) (a b c : Int) (w : World) (hn : n ≤ 10000) (h1 : Stk w A n q l) (h2 : Stk w B 3 m [a, b, c]) (ha : InC a) (hb : InC b) (hc : InC c) :
    Calls Tryz.prog 66 #[.slice A n q, .slice B 3 m] w (PuPost w (unL (fE (a * b) c) l [fR (a * b) c, fQ (a * b) c]) (unE (fE (a * b) c) l.length ([fR (a * b) c, fQ (a * b) c] : List Int).length)) := by
  have H1 := Lib.hid h1
  obtain ⟨b0, o0, rfl, hb0, hcl⟩ := h2.at0 (by omega)
  have e0 : w.cell? ⟨b0, o0, none⟩ = some (.int .i64 a) := hcl 0 (by simp)
  have e1 : w.cell? ⟨b0, o0 + 1, none⟩ = some (.int .i64 b) := hcl 1 (by simp)
  have e2 : w.cell? ⟨b0, o0 + 2, none⟩ = some (.int .i64 c) := hcl 2 (by simp)
  have PS : Hid (∀ w', Keeps w w' → (w'.cell? ⟨b0, o0, none⟩ = some (.int .i64 a) ∧ w'.cell? ⟨b0, o0 + 1, none⟩ = some (.int .i64 b) ∧ w'.cell? ⟨b0, o0 + 2, none⟩ = some (.int .i64 c)) ∧ Keeps w w') := Lib.hid fun w' k => ⟨⟨k.cell_some hb0 e0, k.cell_some hb0 e1, k.cell_some hb0 e2⟩, k⟩
  have HL := Lib.hid h1.len
  have HIa := Lib.hid ha
  have HIb := Lib.hid hb
  have HIc := Lib.hid hc
  clear hcl h2 h1 ha hb hc
  go_enter Tryz.func66, Tryz.ntmps66
  go_wp2
  go_region_held3 (fun w' => (w'.cell? ⟨b0, o0, none⟩ = some (.int .i64 a) ∧ w'.cell? ⟨b0, o0 + 1, none⟩ = some (.int .i64 b) ∧ w'.cell? ⟨b0, o0 + 2, none⟩ = some (.int .i64 c)) ∧ Keeps w w') (first | exact PS.out _ HB.out | exact PS.out _ HG.out | exact PS.out _ ((Keeps.refl _).drew.alloc _) | exact PS.out _ (Keeps.refl _).drew | exact PS.out _ ((Keeps.refl _).drew.drewN _) | exact PS.out _ ((Keeps.refl _).drewN _).drew | exact PS.out _ ((Keeps.refl _).drewN _))
    (first | (go_at_call 136; (with_reducible refine (dscale_any _ _ _ HIa.out HIb.out HIc.out _).mono ?_); rintro e w2 ⟨rfl, hg⟩; have HG := Lib.hid (((Keeps.refl w).drew).trans (Keeps.of_grown hg)); clear hg))
  go_wp2_with (go_at_call 132; refine (layUnless_any _ _ _ _ l _ 2 2 [fR (a * b) c, fQ (a * b) c] _ hn (by omega) (H1.out.keeps (HG.out.alloc _)) (stk_at _ _ _ 2 _ (by simp) rfl (by decide))).mono ?_; rintro e w1 ⟨A1, n1, d1, rfl, ho, hb⟩; have HO := Lib.hid ho; have HB := Lib.hid (Keeps.trans (HG.out.alloc _) hb); clear ho hb)
  go_ret2
  exact ⟨A1, n1, d1, rfl, HO.out, HB.out⟩
set_option maxHeartbeats 1000000 in
theorem p41_any (A : Option Addr) (n q : Nat) (l : List Int) (B : Option Addr) (m : Nat) (a : Int) (w : World) (hn : n ≤ 10000) (h1 : Stk w A n q l) (h2 : Stk w B 1 m [a]) (ha : InC a) :
    Calls Tryz.prog 67 #[.slice A n q, .slice B 1 m] w (PuPost w (pushL l ([wrap64 (a + 1)]) 64) (pushE (l.length + ([wrap64 (a + 1)] : List Int).length) 64)) := by
  have H1 := Lib.hid h1
  obtain ⟨b0, o0, rfl, hb0, hcl⟩ := h2.at0 (by omega)
  have e0 : w.cell? ⟨b0, o0, none⟩ = some (.int .i64 a) := hcl 0 (by simp)
  have HL := Lib.hid h1.len
  have HIa := Lib.hid ha
  clear hcl h2 h1 ha
  go_enter Tryz.func67, Tryz.ntmps67
  go_wp2_with (first | (go_at_call 43; refine (lay_any _ _ _ l _ 1 1 [wrap64 (a + 1)] _ hn (by omega) (H1.out.keeps ((Keeps.refl _).alloc _)) (stk_at _ _ _ 1 _ (by simp) rfl (by decide))).mono ?_; rintro e w1 ⟨A1, n1, d1, rfl, ho, hb⟩; have HO := Lib.hid ho; have HB := Lib.hid (Keeps.trans ((Keeps.refl _).alloc _) hb); clear ho hb))
  go_ret2
  exact ⟨A1, n1, d1, rfl, HO.out, HB.out⟩
set_option maxHeartbeats 1000000 in
theorem p42_any (A : Option Addr) (n q : Nat) (l : List Int) (B : Option Addr) (m : Nat) (a : Int) (w : World) (hn : n ≤ 10000) (h1 : Stk w A n q l) (h2 : Stk w B 1 m [a]) (ha : InC a) :
    Calls Tryz.prog 68 #[.slice A n q, .slice B 1 m] w (PuPost w (pushL l ([wrap64 (a - 1)]) 64) (pushE (l.length + ([wrap64 (a - 1)] : List Int).length) 64)) := by
  have H1 := Lib.hid h1
  obtain ⟨b0, o0, rfl, hb0, hcl⟩ := h2.at0 (by omega)
  have e0 : w.cell? ⟨b0, o0, none⟩ = some (.int .i64 a) := hcl 0 (by simp)
  have HL := Lib.hid h1.len
  have HIa := Lib.hid ha
  clear hcl h2 h1 ha
  go_enter Tryz.func68, Tryz.ntmps68
  go_wp2_with (first | (go_at_call 43; refine (lay_any _ _ _ l _ 1 1 [wrap64 (a - 1)] _ hn (by omega) (H1.out.keeps ((Keeps.refl _).alloc _)) (stk_at _ _ _ 1 _ (by simp) rfl (by decide))).mono ?_; rintro e w1 ⟨A1, n1, d1, rfl, ho, hb⟩; have HO := Lib.hid ho; have HB := Lib.hid (Keeps.trans ((Keeps.refl _).alloc _) hb); clear ho hb))
  go_ret2
  exact ⟨A1, n1, d1, rfl, HO.out, HB.out⟩
set_option maxHeartbeats 1000000 in
theorem p43_any (A : Option Addr) (n q : Nat) (l : List Int) (B : Option Addr) (m : Nat) (a : Int) (w : World) (hn : n ≤ 10000) (h1 : Stk w A n q l) (h2 : Stk w B 1 m [a]) (ha : InC a) :
    Calls Tryz.prog 69 #[.slice A n q, .slice B 1 m] w (PuPost w (pushL l ([cShl a 1]) 64) (pushE (l.length + ([cShl a 1] : List Int).length) 64)) := by
  have H1 := Lib.hid h1
  obtain ⟨b0, o0, rfl, hb0, hcl⟩ := h2.at0 (by omega)
  have e0 : w.cell? ⟨b0, o0, none⟩ = some (.int .i64 a) := hcl 0 (by simp)
  have HL := Lib.hid h1.len
  have HIa := Lib.hid ha
  clear hcl h2 h1 ha
  go_enter Tryz.func69, Tryz.ntmps69
  go_wp2_with (first | (go_at_call 70; (with_reducible refine (shl_any _ _ _).mono ?_); rintro e w' ⟨rfl, rfl⟩) | (go_at_call 43; refine (lay_any _ _ _ l _ 1 1 [cShl a 1] _ hn (by omega) (H1.out.keeps ((Keeps.refl _).alloc _)) (stk_at _ _ _ 1 _ (by simp) rfl (by decide))).mono ?_; rintro e w1 ⟨A1, n1, d1, rfl, ho, hb⟩; have HO := Lib.hid ho; have HB := Lib.hid (Keeps.trans ((Keeps.refl _).alloc _) hb); clear ho hb))
  go_ret2
  exact ⟨A1, n1, d1, rfl, HO.out, HB.out⟩
set_option maxHeartbeats 1000000 in
theorem p44_any (A : Option Addr) (n q : Nat) (l : List Int) (B : Option Addr) (m : Nat) (a : Int) (w : World) (hn : n ≤ 10000) (h1 : Stk w A n q l) (h2 : Stk w B 1 m [a]) (ha : InC a) :
    Calls Tryz.prog 71 #[.slice A n q, .slice B 1 m] w (PuPost w (pushL l ([a / 2]) 64) (pushE (l.length + ([a / 2] : List Int).length) 64)) := by
  have H1 := Lib.hid h1
  obtain ⟨b0, o0, rfl, hb0, hcl⟩ := h2.at0 (by omega)
  have e0 : w.cell? ⟨b0, o0, none⟩ = some (.int .i64 a) := hcl 0 (by simp)
  have HL := Lib.hid h1.len
  have HIa := Lib.hid ha
  clear hcl h2 h1 ha
  go_enter Tryz.func71, Tryz.ntmps71
  go_wp2_with (first | (go_at_call 43; refine (lay_any _ _ _ l _ 1 1 [a / 2] _ hn (by omega) (H1.out.keeps ((Keeps.refl _).alloc _)) (stk_at _ _ _ 1 _ (by simp) rfl (by decide))).mono ?_; rintro e w1 ⟨A1, n1, d1, rfl, ho, hb⟩; have HO := Lib.hid ho; have HB := Lib.hid (Keeps.trans ((Keeps.refl _).alloc _) hb); clear ho hb))
  go_ret2
  exact ⟨A1, n1, d1, rfl, HO.out, HB.out⟩
set_option maxHeartbeats 1000000 in
theorem p45_any (A : Option Addr) (n q : Nat) (l : List Int) (B : Option Addr) (m : Nat) (a : Int) (w : World) (hn : n ≤ 10000) (h1 : Stk w A n q l) (h2 : Stk w B 1 m [a]) (ha : InC a) :
    Calls Tryz.prog 72 #[.slice A n q, .slice B 1 m] w (PuPost w (pushL l ([wrap64 (-a)]) 64) (pushE (l.length + ([wrap64 (-a)] : List Int).length) 64)) := by
  have H1 := Lib.hid h1
  obtain ⟨b0, o0, rfl, hb0, hcl⟩ := h2.at0 (by omega)
  have e0 : w.cell? ⟨b0, o0, none⟩ = some (.int .i64 a) := hcl 0 (by simp)
  have HL := Lib.hid h1.len
  have HIa := Lib.hid ha
  clear hcl h2 h1 ha
  go_enter Tryz.func72, Tryz.ntmps72
  go_wp2_with (first | (go_at_call 43; refine (lay_any _ _ _ l _ 1 1 [wrap64 (-a)] _ hn (by omega) (H1.out.keeps ((Keeps.refl _).alloc _)) (stk_at _ _ _ 1 _ (by simp) rfl (by decide))).mono ?_; rintro e w1 ⟨A1, n1, d1, rfl, ho, hb⟩; have HO := Lib.hid ho; have HB := Lib.hid (Keeps.trans ((Keeps.refl _).alloc _) hb); clear ho hb))
  go_ret2
  exact ⟨A1, n1, d1, rfl, HO.out, HB.out⟩
set_option maxHeartbeats 1000000 in
theorem p46_any (A : Option Addr) (n q : Nat) (l : List Int) (B : Option Addr) (m : Nat) (a : Int) (w : World) (hn : n ≤ 10000) (h1 : Stk w A n q l) (h2 : Stk w B 1 m [a]) (ha : InC a) :
    Calls Tryz.prog 73 #[.slice A n q, .slice B 1 m] w (PuPost w (pushL l ([max a (wrap64 (-a))]) 64) (pushE (l.length + ([max a (wrap64 (-a))] : List Int).length) 64)) := by
  have H1 := Lib.hid h1
  obtain ⟨b0, o0, rfl, hb0, hcl⟩ := h2.at0 (by omega)
  have e0 : w.cell? ⟨b0, o0, none⟩ = some (.int .i64 a) := hcl 0 (by simp)
  have PS : Hid (∀ w', Keeps w w' → (w'.cell? ⟨b0, o0, none⟩ = some (.int .i64 a)) ∧ Keeps w w') := Lib.hid fun w' k => ⟨k.cell_some hb0 e0, k⟩
  have HL := Lib.hid h1.len
  have HIa := Lib.hid ha
  clear hcl h2 h1 ha
  have hw : IntKind.i64.wrap (-a) = wrap64 (-a) := wrapi64 _
  go_enter Tryz.func73, Tryz.ntmps73
  go_wp2
  go_region_held3 (fun w' => (w'.cell? ⟨b0, o0, none⟩ = some (.int .i64 a)) ∧ Keeps w w') (first | exact PS.out _ HB.out | exact PS.out _ HG.out | exact PS.out _ ((Keeps.refl _).drew.alloc _) | exact PS.out _ (Keeps.refl _).drew | exact PS.out _ ((Keeps.refl _).drew.drewN _) | exact PS.out _ ((Keeps.refl _).drewN _).drew | exact PS.out _ ((Keeps.refl _).drewN _))
    (first | (go_at_call 43; refine (lay_any _ _ _ l _ 1 1 [max a (wrap64 (-a))] _ hn (by omega) (H1.out.keeps ((Keeps.refl _).drew.alloc _)) (stk_at _ _ _ 1 _ (by simp) rfl (by decide))).mono ?_; rintro e w1 ⟨A1, n1, d1, rfl, ho, hb⟩; have HO := Lib.hid ho; have HB := Lib.hid (Keeps.trans ((Keeps.refl _).drew.alloc _) hb); clear ho hb))
  go_wp2
  go_ret2
  exact ⟨A1, n1, d1, rfl, HO.out, HB.out⟩
set_option maxHeartbeats 1000000 in
theorem p47_any (A : Option Addr) (n q : Nat) (l : List Int) (B : Option Addr) (m : Nat) (a b : Int) (w : World) (hn : n ≤ 10000) (h1 : Stk w A n q l) (h2 : Stk w B 2 m [a, b]) (ha : InC a) (hb : InC b) :
    Calls Tryz.prog 74 #[.slice A n q, .slice B 2 m] w (PuPost w (pushL l ([min a b]) 64) (pushE (l.length + ([min a b] : List Int).length) 64)) := by
  have H1 := Lib.hid h1
  obtain ⟨b0, o0, rfl, hb0, hcl⟩ := h2.at0 (by omega)
  have e0 : w.cell? ⟨b0, o0, none⟩ = some (.int .i64 a) := hcl 0 (by simp)
  have e1 : w.cell? ⟨b0, o0 + 1, none⟩ = some (.int .i64 b) := hcl 1 (by simp)
  have PS : Hid (∀ w', Keeps w w' → (w'.cell? ⟨b0, o0, none⟩ = some (.int .i64 a) ∧ w'.cell? ⟨b0, o0 + 1, none⟩ = some (.int .i64 b)) ∧ Keeps w w') := Lib.hid fun w' k => ⟨⟨k.cell_some hb0 e0, k.cell_some hb0 e1⟩, k⟩
  have HL := Lib.hid h1.len
  have HIa := Lib.hid ha
  have HIb := Lib.hid hb
  clear hcl h2 h1 ha hb
  go_enter Tryz.func74, Tryz.ntmps74
  go_wp2
  go_region_held3 (fun w' => (w'.cell? ⟨b0, o0, none⟩ = some (.int .i64 a) ∧ w'.cell? ⟨b0, o0 + 1, none⟩ = some (.int .i64 b)) ∧ Keeps w w') (first | exact PS.out _ HB.out | exact PS.out _ HG.out | exact PS.out _ ((Keeps.refl _).drew.alloc _) | exact PS.out _ (Keeps.refl _).drew | exact PS.out _ ((Keeps.refl _).drew.drewN _) | exact PS.out _ ((Keeps.refl _).drewN _).drew | exact PS.out _ ((Keeps.refl _).drewN _))
    (first | (go_at_call 43; refine (lay_any _ _ _ l _ 1 1 [min a b] _ hn (by omega) (H1.out.keeps ((Keeps.refl _).drew.alloc _)) (stk_at _ _ _ 1 _ (by simp) rfl (by decide))).mono ?_; rintro e w1 ⟨A1, n1, d1, rfl, ho, hb⟩; have HO := Lib.hid ho; have HB := Lib.hid (Keeps.trans ((Keeps.refl _).drew.alloc _) hb); clear ho hb))
  go_wp2
  go_ret2
  exact ⟨A1, n1, d1, rfl, HO.out, HB.out⟩
set_option maxHeartbeats 1000000 in
theorem p48_any (A : Option Addr) (n q : Nat) (l : List Int) (B : Option Addr) (m : Nat) (a b : Int) (w : World) (hn : n ≤ 10000) (h1 : Stk w A n q l) (h2 : Stk w B 2 m [a, b]) (ha : InC a) (hb : InC b) :
    Calls Tryz.prog 75 #[.slice A n q, .slice B 2 m] w (PuPost w (pushL l ([max a b]) 64) (pushE (l.length + ([max a b] : List Int).length) 64)) := by
  have H1 := Lib.hid h1
  obtain ⟨b0, o0, rfl, hb0, hcl⟩ := h2.at0 (by omega)
  have e0 : w.cell? ⟨b0, o0, none⟩ = some (.int .i64 a) := hcl 0 (by simp)
  have e1 : w.cell? ⟨b0, o0 + 1, none⟩ = some (.int .i64 b) := hcl 1 (by simp)
  have PS : Hid (∀ w', Keeps w w' → (w'.cell? ⟨b0, o0, none⟩ = some (.int .i64 a) ∧ w'.cell? ⟨b0, o0 + 1, none⟩ = some (.int .i64 b)) ∧ Keeps w w') := Lib.hid fun w' k => ⟨⟨k.cell_some hb0 e0, k.cell_some hb0 e1⟩, k⟩
  have HL := Lib.hid h1.len
  have HIa := Lib.hid ha
  have HIb := Lib.hid hb
  clear hcl h2 h1 ha hb
  go_enter Tryz.func75, Tryz.ntmps75
  go_wp2
  go_region_held3 (fun w' => (w'.cell? ⟨b0, o0, none⟩ = some (.int .i64 a) ∧ w'.cell? ⟨b0, o0 + 1, none⟩ = some (.int .i64 b)) ∧ Keeps w w') (first | exact PS.out _ HB.out | exact PS.out _ HG.out | exact PS.out _ ((Keeps.refl _).drew.alloc _) | exact PS.out _ (Keeps.refl _).drew | exact PS.out _ ((Keeps.refl _).drew.drewN _) | exact PS.out _ ((Keeps.refl _).drewN _).drew | exact PS.out _ ((Keeps.refl _).drewN _))
    (first | (go_at_call 43; refine (lay_any _ _ _ l _ 1 1 [max a b] _ hn (by omega) (H1.out.keeps ((Keeps.refl _).drew.alloc _)) (stk_at _ _ _ 1 _ (by simp) rfl (by decide))).mono ?_; rintro e w1 ⟨A1, n1, d1, rfl, ho, hb⟩; have HO := Lib.hid ho; have HB := Lib.hid (Keeps.trans ((Keeps.refl _).drew.alloc _) hb); clear ho hb))
  go_wp2
  go_ret2
  exact ⟨A1, n1, d1, rfl, HO.out, HB.out⟩
set_option maxHeartbeats 1000000 in
theorem p49_any (A : Option Addr) (n q : Nat) (l : List Int) (B : Option Addr) (m : Nat) (a b : Int) (w : World) (hn : n ≤ 10000) (h1 : Stk w A n q l) (h2 : Stk w B 2 m [a, b]) (ha : InC a) (hb : InC b) :
    Calls Tryz.prog 76 #[.slice A n q, .slice B 2 m] w (PuPost w (pushL l ([bits .and .i64 a b]) 64) (pushE (l.length + ([bits .and .i64 a b] : List Int).length) 64)) := by
  have H1 := Lib.hid h1
  obtain ⟨b0, o0, rfl, hb0, hcl⟩ := h2.at0 (by omega)
  have e0 : w.cell? ⟨b0, o0, none⟩ = some (.int .i64 a) := hcl 0 (by simp)
  have e1 : w.cell? ⟨b0, o0 + 1, none⟩ = some (.int .i64 b) := hcl 1 (by simp)
  have PS : Hid (∀ w', Keeps w w' → (w'.cell? ⟨b0, o0, none⟩ = some (.int .i64 a) ∧ w'.cell? ⟨b0, o0 + 1, none⟩ = some (.int .i64 b)) ∧ Keeps w w') := Lib.hid fun w' k => ⟨⟨k.cell_some hb0 e0, k.cell_some hb0 e1⟩, k⟩
  have HL := Lib.hid h1.len
  have HIa := Lib.hid ha
  have HIb := Lib.hid hb
  clear hcl h2 h1 ha hb
  go_enter Tryz.func76, Tryz.ntmps76
  go_wp2
  go_region_held3 (fun w' => (w'.cell? ⟨b0, o0, none⟩ = some (.int .i64 a) ∧ w'.cell? ⟨b0, o0 + 1, none⟩ = some (.int .i64 b)) ∧ Keeps w w') (first | exact PS.out _ HB.out | exact PS.out _ HG.out | exact PS.out _ ((Keeps.refl _).drew.alloc _) | exact PS.out _ (Keeps.refl _).drew | exact PS.out _ ((Keeps.refl _).drew.drewN _) | exact PS.out _ ((Keeps.refl _).drewN _).drew | exact PS.out _ ((Keeps.refl _).drewN _))
    (first | (go_at_call 43; refine (lay_any _ _ _ l _ 1 1 [bits .and .i64 a b] _ hn (by omega) (H1.out.keeps ((Keeps.refl _).drew.alloc _)) (stk_at _ _ _ 1 _ (by simp) rfl (by decide))).mono ?_; rintro e w1 ⟨A1, n1, d1, rfl, ho, hb⟩; have HO := Lib.hid ho; have HB := Lib.hid (Keeps.trans ((Keeps.refl _).drew.alloc _) hb); clear ho hb))
  go_wp2
  go_ret2
  exact ⟨A1, n1, d1, rfl, HO.out, HB.out⟩
set_option maxHeartbeats 1000000 in
theorem p50_any (A : Option Addr) (n q : Nat) (l : List Int) (B : Option Addr) (m : Nat) (a b : Int) (w : World) (hn : n ≤ 10000) (h1 : Stk w A n q l) (h2 : Stk w B 2 m [a, b]) (ha : InC a) (hb : InC b) :
    Calls Tryz.prog 77 #[.slice A n q, .slice B 2 m] w (PuPost w (pushL l ([bits .or .i64 a b]) 64) (pushE (l.length + ([bits .or .i64 a b] : List Int).length) 64)) := by
  have H1 := Lib.hid h1
  obtain ⟨b0, o0, rfl, hb0, hcl⟩ := h2.at0 (by omega)
  have e0 : w.cell? ⟨b0, o0, none⟩ = some (.int .i64 a) := hcl 0 (by simp)
  have e1 : w.cell? ⟨b0, o0 + 1, none⟩ = some (.int .i64 b) := hcl 1 (by simp)
  have PS : Hid (∀ w', Keeps w w' → (w'.cell? ⟨b0, o0, none⟩ = some (.int .i64 a) ∧ w'.cell? ⟨b0, o0 + 1, none⟩ = some (.int .i64 b)) ∧ Keeps w w') := Lib.hid fun w' k => ⟨⟨k.cell_some hb0 e0, k.cell_some hb0 e1⟩, k⟩
  have HL := Lib.hid h1.len
  have HIa := Lib.hid ha
  have HIb := Lib.hid hb
  clear hcl h2 h1 ha hb
  go_enter Tryz.func77, Tryz.ntmps77
  go_wp2
  go_region_held3 (fun w' => (w'.cell? ⟨b0, o0, none⟩ = some (.int .i64 a) ∧ w'.cell? ⟨b0, o0 + 1, none⟩ = some (.int .i64 b)) ∧ Keeps w w') (first | exact PS.out _ HB.out | exact PS.out _ HG.out | exact PS.out _ ((Keeps.refl _).drew.alloc _) | exact PS.out _ (Keeps.refl _).drew | exact PS.out _ ((Keeps.refl _).drew.drewN _) | exact PS.out _ ((Keeps.refl _).drewN _).drew | exact PS.out _ ((Keeps.refl _).drewN _))
    (first | (go_at_call 43; refine (lay_any _ _ _ l _ 1 1 [bits .or .i64 a b] _ hn (by omega) (H1.out.keeps ((Keeps.refl _).drew.alloc _)) (stk_at _ _ _ 1 _ (by simp) rfl (by decide))).mono ?_; rintro e w1 ⟨A1, n1, d1, rfl, ho, hb⟩; have HO := Lib.hid ho; have HB := Lib.hid (Keeps.trans ((Keeps.refl _).drew.alloc _) hb); clear ho hb))
  go_wp2
  go_ret2
  exact ⟨A1, n1, d1, rfl, HO.out, HB.out⟩
set_option maxHeartbeats 1000000 in
theorem p51_any (A : Option Addr) (n q : Nat) (l : List Int) (B : Option Addr) (m : Nat) (a b : Int) (w : World) (hn : n ≤ 10000) (h1 : Stk w A n q l) (h2 : Stk w B 2 m [a, b]) (ha : InC a) (hb : InC b) :
    Calls Tryz.prog 78 #[.slice A n q, .slice B 2 m] w (PuPost w (pushL l ([bits .xor .i64 a b]) 64) (pushE (l.length + ([bits .xor .i64 a b] : List Int).length) 64)) := by
  have H1 := Lib.hid h1
  obtain ⟨b0, o0, rfl, hb0, hcl⟩ := h2.at0 (by omega)
  have e0 : w.cell? ⟨b0, o0, none⟩ = some (.int .i64 a) := hcl 0 (by simp)
  have e1 : w.cell? ⟨b0, o0 + 1, none⟩ = some (.int .i64 b) := hcl 1 (by simp)
  have PS : Hid (∀ w', Keeps w w' → (w'.cell? ⟨b0, o0, none⟩ = some (.int .i64 a) ∧ w'.cell? ⟨b0, o0 + 1, none⟩ = some (.int .i64 b)) ∧ Keeps w w') := Lib.hid fun w' k => ⟨⟨k.cell_some hb0 e0, k.cell_some hb0 e1⟩, k⟩
  have HL := Lib.hid h1.len
  have HIa := Lib.hid ha
  have HIb := Lib.hid hb
  clear hcl h2 h1 ha hb
  go_enter Tryz.func78, Tryz.ntmps78
  go_wp2
  go_region_held3 (fun w' => (w'.cell? ⟨b0, o0, none⟩ = some (.int .i64 a) ∧ w'.cell? ⟨b0, o0 + 1, none⟩ = some (.int .i64 b)) ∧ Keeps w w') (first | exact PS.out _ HB.out | exact PS.out _ HG.out | exact PS.out _ ((Keeps.refl _).drew.alloc _) | exact PS.out _ (Keeps.refl _).drew | exact PS.out _ ((Keeps.refl _).drew.drewN _) | exact PS.out _ ((Keeps.refl _).drewN _).drew | exact PS.out _ ((Keeps.refl _).drewN _))
    (first | (go_at_call 43; refine (lay_any _ _ _ l _ 1 1 [bits .xor .i64 a b] _ hn (by omega) (H1.out.keeps ((Keeps.refl _).drew.alloc _)) (stk_at _ _ _ 1 _ (by simp) rfl (by decide))).mono ?_; rintro e w1 ⟨A1, n1, d1, rfl, ho, hb⟩; have HO := Lib.hid ho; have HB := Lib.hid (Keeps.trans ((Keeps.refl _).drew.alloc _) hb); clear ho hb))
  go_wp2
  go_ret2
  exact ⟨A1, n1, d1, rfl, HO.out, HB.out⟩
set_option maxHeartbeats 1000000 in
theorem p52_any (A : Option Addr) (n q : Nat) (l : List Int) (B : Option Addr) (m : Nat) (a : Int) (w : World) (hn : n ≤ 10000) (h1 : Stk w A n q l) (h2 : Stk w B 1 m [a]) (ha : InC a) :
    Calls Tryz.prog 79 #[.slice A n q, .slice B 1 m] w (PuPost w (pushL l ([-a - 1]) 64) (pushE (l.length + ([-a - 1] : List Int).length) 64)) := by
  have H1 := Lib.hid h1
  obtain ⟨b0, o0, rfl, hb0, hcl⟩ := h2.at0 (by omega)
  have e0 : w.cell? ⟨b0, o0, none⟩ = some (.int .i64 a) := hcl 0 (by simp)
  have HL := Lib.hid h1.len
  have HIa := Lib.hid ha
  clear hcl h2 h1 ha
  have hw : bits .xor .i64 (-1) a = -a - 1 := bits_not a HIa.out
  go_enter Tryz.func79, Tryz.ntmps79
  go_wp2_with (first | (go_at_call 43; refine (lay_any _ _ _ l _ 1 1 [-a - 1] _ hn (by omega) (H1.out.keeps ((Keeps.refl _).alloc _)) (stk_at _ _ _ 1 _ (by simp) rfl (by decide))).mono ?_; rintro e w1 ⟨A1, n1, d1, rfl, ho, hb⟩; have HO := Lib.hid ho; have HB := Lib.hid (Keeps.trans ((Keeps.refl _).alloc _) hb); clear ho hb))
  go_ret2
  exact ⟨A1, n1, d1, rfl, HO.out, HB.out⟩
set_option maxHeartbeats 1000000 in
theorem p53_any (A : Option Addr) (n q : Nat) (l : List Int) (B : Option Addr) (m : Nat) (a b : Int) (w : World) (hn : n ≤ 10000) (h1 : Stk w A n q l) (h2 : Stk w B 2 m [a, b]) (ha : InC a) (hb : InC b) :
    Calls Tryz.prog 80 #[.slice A n q, .slice B 2 m] w (PuPost w (pushL l ([cShl a b]) 64) (pushE (l.length + ([cShl a b] : List Int).length) 64)) := by
  have H1 := Lib.hid h1
  obtain ⟨b0, o0, rfl, hb0, hcl⟩ := h2.at0 (by omega)
  have e0 : w.cell? ⟨b0, o0, none⟩ = some (.int .i64 a) := hcl 0 (by simp)
  have e1 : w.cell? ⟨b0, o0 + 1, none⟩ = some (.int .i64 b) := hcl 1 (by simp)
  have PS : Hid (∀ w', Keeps w w' → (w'.cell? ⟨b0, o0, none⟩ = some (.int .i64 a) ∧ w'.cell? ⟨b0, o0 + 1, none⟩ = some (.int .i64 b)) ∧ Keeps w w') := Lib.hid fun w' k => ⟨⟨k.cell_some hb0 e0, k.cell_some hb0 e1⟩, k⟩
  have HL := Lib.hid h1.len
  have HIa := Lib.hid ha
  have HIb := Lib.hid hb
  clear hcl h2 h1 ha hb
  go_enter Tryz.func80, Tryz.ntmps80
  go_wp2
  go_region_held3 (fun w' => (w'.cell? ⟨b0, o0, none⟩ = some (.int .i64 a) ∧ w'.cell? ⟨b0, o0 + 1, none⟩ = some (.int .i64 b)) ∧ Keeps w w') (first | exact PS.out _ HB.out | exact PS.out _ HG.out | exact PS.out _ ((Keeps.refl _).drew.alloc _) | exact PS.out _ (Keeps.refl _).drew | exact PS.out _ ((Keeps.refl _).drew.drewN _) | exact PS.out _ ((Keeps.refl _).drewN _).drew | exact PS.out _ ((Keeps.refl _).drewN _))
    (first | (go_at_call 70; (with_reducible refine (shl_any _ _ _).mono ?_); rintro e w' ⟨rfl, rfl⟩) | (go_at_call 43; refine (lay_any _ _ _ l _ 1 1 [cShl a b] _ hn (by omega) (H1.out.keeps ((Keeps.refl _).drew.alloc _)) (stk_at _ _ _ 1 _ (by simp) rfl (by decide))).mono ?_; rintro e w1 ⟨A1, n1, d1, rfl, ho, hb⟩; have HO := Lib.hid ho; have HB := Lib.hid (Keeps.trans ((Keeps.refl _).drew.alloc _) hb); clear ho hb))
  go_wp2
  go_ret2
  exact ⟨A1, n1, d1, rfl, HO.out, HB.out⟩
set_option maxHeartbeats 1000000 in
theorem p54_any (A : Option Addr) (n q : Nat) (l : List Int) (B : Option Addr) (m : Nat) (a b : Int) (w : World) (hn : n ≤ 10000) (h1 : Stk w A n q l) (h2 : Stk w B 2 m [a, b]) (ha : InC a) (hb : InC b) :
    Calls Tryz.prog 81 #[.slice A n q, .slice B 2 m] w (PuPost w (pushL l ([cShr a b]) 64) (pushE (l.length + ([cShr a b] : List Int).length) 64)) := by
  have H1 := Lib.hid h1
  obtain ⟨b0, o0, rfl, hb0, hcl⟩ := h2.at0 (by omega)
  have e0 : w.cell? ⟨b0, o0, none⟩ = some (.int .i64 a) := hcl 0 (by simp)
  have e1 : w.cell? ⟨b0, o0 + 1, none⟩ = some (.int .i64 b) := hcl 1 (by simp)
  have PS : Hid (∀ w', Keeps w w' → (w'.cell? ⟨b0, o0, none⟩ = some (.int .i64 a) ∧ w'.cell? ⟨b0, o0 + 1, none⟩ = some (.int .i64 b)) ∧ Keeps w w') := Lib.hid fun w' k => ⟨⟨k.cell_some hb0 e0, k.cell_some hb0 e1⟩, k⟩
  have HL := Lib.hid h1.len
  have HIa := Lib.hid ha
  have HIb := Lib.hid hb
  clear hcl h2 h1 ha hb
  go_enter Tryz.func81, Tryz.ntmps81
  go_wp2
  go_region_held3 (fun w' => (w'.cell? ⟨b0, o0, none⟩ = some (.int .i64 a) ∧ w'.cell? ⟨b0, o0 + 1, none⟩ = some (.int .i64 b)) ∧ Keeps w w') (first | exact PS.out _ HB.out | exact PS.out _ HG.out | exact PS.out _ ((Keeps.refl _).drew.alloc _) | exact PS.out _ (Keeps.refl _).drew | exact PS.out _ ((Keeps.refl _).drew.drewN _) | exact PS.out _ ((Keeps.refl _).drewN _).drew | exact PS.out _ ((Keeps.refl _).drewN _))
    (first | (go_at_call 82; (with_reducible refine (shr_any _ _ _).mono ?_); rintro e w' ⟨rfl, rfl⟩) | (go_at_call 43; refine (lay_any _ _ _ l _ 1 1 [cShr a b] _ hn (by omega) (H1.out.keeps ((Keeps.refl _).drew.alloc _)) (stk_at _ _ _ 1 _ (by simp) rfl (by decide))).mono ?_; rintro e w1 ⟨A1, n1, d1, rfl, ho, hb⟩; have HO := Lib.hid ho; have HB := Lib.hid (Keeps.trans ((Keeps.refl _).drew.alloc _) hb); clear ho hb))
  go_wp2
  go_ret2
  exact ⟨A1, n1, d1, rfl, HO.out, HB.out⟩
end Go.Proofs.YtnlkggfgloblcaaGreat
