/-
  Each word has its pair (FlowPairs): its walk.
-/
import Derived.Test.YtkcpmjccggfpiaaFlowPairs
import Derived.Test.YtkcpmjccggfpiaaFlowOpen
import Derived.Deep.CutRange
namespace Go.Proofs.Ytkcpmjccggfpiaa
open Go.RowKit

/-- Block g holds the six texts T. -/
def Tab (w : World) (g : Nat) (T : Nat → List UInt8) : Prop := g < w.heap.size ∧ ∀ q, q < 6 → w.cell? ⟨g, q, none⟩ = some (.string ⟨(T q).toArray⟩)
theorem Tab.keep {w w' : World} {g : Nat} {T : Nat → List UInt8} (h : Tab w g T) (hb : Below w.heap.size w w') : Tab w' g T := ⟨Nat.lt_of_lt_of_le h.1 hb.size, fun q hq => (hb.cell (p := ⟨g, _, none⟩) h.1).trans (h.2 q hq)⟩
theorem Tab.alloc {w : World} {g : Nat} {T : Nat → List UInt8} (h : Tab w g T) (o : Obj) : Tab (w.alloc o) g T := h.keep (below_one _ _)
theorem Tab.set3 {w : World} {g g' : Nat} {T : Nat → List UInt8} (h : Tab w g T) (hg : g ≠ g') (x y z : Value) : Tab (((w.setCell ⟨g', 0, none⟩ x).setCell ⟨g', 1, none⟩ y).setCell ⟨g', 2, none⟩ z) g T := by
  refine ⟨by simpa [World.setCell] using h.1, fun q hq => ?_⟩
  have hne : ∀ i j, (⟨g', i, none⟩ : Addr) ≠ ⟨g, j, none⟩ := fun i j e => hg (by injection e with e1 _ _; exact e1.symm)
  rw [World.cell?_setCell_other _ _ _ _ (hne _ _), World.cell?_setCell_other _ _ _ _ (hne _ _), World.cell?_setCell_other _ _ _ _ (hne _ _)]
  exact h.2 q hq
theorem Tab.new (w : World) (T : Nat → List UInt8) (t : TypeId) : Tab (w.alloc (.cells #[.string ⟨(T 0).toArray⟩, .string ⟨(T 1).toArray⟩, .string ⟨(T 2).toArray⟩, .string ⟨(T 3).toArray⟩, .string ⟨(T 4).toArray⟩, .string ⟨(T 5).toArray⟩] t)) w.heap.size T := by
  refine ⟨by simp, fun q hq => ?_⟩
  match q, hq with
  | 0, _ | 1, _ | 2, _ | 3, _ | 4, _ | 5, _ => rw [cell_of_row _ _ _ _ t (0, 0) (heap_alloc_new w _)]; rfl
set_option maxRecDepth 8000 in
set_option maxHeartbeats 4000000 in
theorem flowPairs_any (A : Option Addr) (n c : Nat) (l : List Int) (W : World) (h1 : Ints W A n l) :
    Calls Try.prog 5 #[.slice A n c] W fun e w' => e = .returned (.bool true) ∧ Below W.heap.size W w' := by
  have IA := Lib.hid h1
  have LA := Lib.hid h1.1
  clear h1
  go_enter Try.func5, Try.ntmps5
  go_upto_region 2 with ((go_at_call 9; refine (awake_any _).mono ?_; rintro e w0 ⟨rfl, hb0⟩; have HB0 := Lib.hid hb0; clear hb0))
  by_cases hn : 20 < n
  · have hd : (20 : Int) < (n : Int) := by omega
    go_wp2
    go_ret
    exact ⟨rfl, HB0.out⟩
  · have hd : ¬ (20 : Int) < (n : Int) := by omega
    have hg : W.heap.size ≤ w0.heap.size := HB0.out.size
    have T1 : Hid (Tab ((((w0.alloc (.cells #[.string ⟨#[105, 102]⟩, .string ⟨#[98, 101, 103, 105, 110]⟩, .string ⟨#[100, 111]⟩, .string ⟨#[63, 100, 111]⟩, .string ⟨#[98, 101, 103, 105, 110]⟩, .string ⟨#[105, 102]⟩] 9)).alloc (.cells #[.string ⟨#[101, 108, 115, 101]⟩, .string ⟨#[]⟩, .string ⟨#[108, 101, 97, 118, 101]⟩, .string ⟨#[]⟩, .string ⟨#[119, 104, 105, 108, 101]⟩, .string ⟨#[]⟩] 9)).alloc (.cells #[.string ⟨#[116, 104, 101, 110]⟩, .string ⟨#[117, 110, 116, 105, 108]⟩, .string ⟨#[108, 111, 111, 112]⟩, .string ⟨#[43, 108, 111, 111, 112]⟩, .string ⟨#[114, 101, 112, 101, 97, 116]⟩, .string ⟨#[116, 104, 101, 110]⟩] 9)).alloc (.cells #[.slice none 0 0, .slice none 0 0, .slice none 0 0] 30)) w0.heap.size pFst) := Lib.hid ((((Tab.new w0 pFst 9).alloc _).alloc _).alloc _)
    have T2 : Hid (Tab ((((w0.alloc (.cells #[.string ⟨#[105, 102]⟩, .string ⟨#[98, 101, 103, 105, 110]⟩, .string ⟨#[100, 111]⟩, .string ⟨#[63, 100, 111]⟩, .string ⟨#[98, 101, 103, 105, 110]⟩, .string ⟨#[105, 102]⟩] 9)).alloc (.cells #[.string ⟨#[101, 108, 115, 101]⟩, .string ⟨#[]⟩, .string ⟨#[108, 101, 97, 118, 101]⟩, .string ⟨#[]⟩, .string ⟨#[119, 104, 105, 108, 101]⟩, .string ⟨#[]⟩] 9)).alloc (.cells #[.string ⟨#[116, 104, 101, 110]⟩, .string ⟨#[117, 110, 116, 105, 108]⟩, .string ⟨#[108, 111, 111, 112]⟩, .string ⟨#[43, 108, 111, 111, 112]⟩, .string ⟨#[114, 101, 112, 101, 97, 116]⟩, .string ⟨#[116, 104, 101, 110]⟩] 9)).alloc (.cells #[.slice none 0 0, .slice none 0 0, .slice none 0 0] 30)) (w0.heap.size + 1) pMid) := Lib.hid (by have h := ((Tab.new (w0.alloc (.cells #[.string ⟨#[105, 102]⟩, .string ⟨#[98, 101, 103, 105, 110]⟩, .string ⟨#[100, 111]⟩, .string ⟨#[63, 100, 111]⟩, .string ⟨#[98, 101, 103, 105, 110]⟩, .string ⟨#[105, 102]⟩] 9)) pMid 9).alloc (.cells #[.string ⟨#[116, 104, 101, 110]⟩, .string ⟨#[117, 110, 116, 105, 108]⟩, .string ⟨#[108, 111, 111, 112]⟩, .string ⟨#[43, 108, 111, 111, 112]⟩, .string ⟨#[114, 101, 112, 101, 97, 116]⟩, .string ⟨#[116, 104, 101, 110]⟩] 9)).alloc (.cells #[.slice none 0 0, .slice none 0 0, .slice none 0 0] 30); rw [World.size_alloc] at h; exact h)
    have T3 : Hid (Tab ((((w0.alloc (.cells #[.string ⟨#[105, 102]⟩, .string ⟨#[98, 101, 103, 105, 110]⟩, .string ⟨#[100, 111]⟩, .string ⟨#[63, 100, 111]⟩, .string ⟨#[98, 101, 103, 105, 110]⟩, .string ⟨#[105, 102]⟩] 9)).alloc (.cells #[.string ⟨#[101, 108, 115, 101]⟩, .string ⟨#[]⟩, .string ⟨#[108, 101, 97, 118, 101]⟩, .string ⟨#[]⟩, .string ⟨#[119, 104, 105, 108, 101]⟩, .string ⟨#[]⟩] 9)).alloc (.cells #[.string ⟨#[116, 104, 101, 110]⟩, .string ⟨#[117, 110, 116, 105, 108]⟩, .string ⟨#[108, 111, 111, 112]⟩, .string ⟨#[43, 108, 111, 111, 112]⟩, .string ⟨#[114, 101, 112, 101, 97, 116]⟩, .string ⟨#[116, 104, 101, 110]⟩] 9)).alloc (.cells #[.slice none 0 0, .slice none 0 0, .slice none 0 0] 30)) (w0.heap.size + 1 + 1) pLst) := Lib.hid (by have h := (Tab.new ((w0.alloc (.cells #[.string ⟨#[105, 102]⟩, .string ⟨#[98, 101, 103, 105, 110]⟩, .string ⟨#[100, 111]⟩, .string ⟨#[63, 100, 111]⟩, .string ⟨#[98, 101, 103, 105, 110]⟩, .string ⟨#[105, 102]⟩] 9)).alloc (.cells #[.string ⟨#[101, 108, 115, 101]⟩, .string ⟨#[]⟩, .string ⟨#[108, 101, 97, 118, 101]⟩, .string ⟨#[]⟩, .string ⟨#[119, 104, 105, 108, 101]⟩, .string ⟨#[]⟩] 9)) pLst 9).alloc (.cells #[.slice none 0 0, .slice none 0 0, .slice none 0 0] 30); rw [World.size_alloc, World.size_alloc] at h; exact h)
    have X7 : Hid (Bx ((((w0.alloc (.cells #[.string ⟨#[105, 102]⟩, .string ⟨#[98, 101, 103, 105, 110]⟩, .string ⟨#[100, 111]⟩, .string ⟨#[63, 100, 111]⟩, .string ⟨#[98, 101, 103, 105, 110]⟩, .string ⟨#[105, 102]⟩] 9)).alloc (.cells #[.string ⟨#[101, 108, 115, 101]⟩, .string ⟨#[]⟩, .string ⟨#[108, 101, 97, 118, 101]⟩, .string ⟨#[]⟩, .string ⟨#[119, 104, 105, 108, 101]⟩, .string ⟨#[]⟩] 9)).alloc (.cells #[.string ⟨#[116, 104, 101, 110]⟩, .string ⟨#[117, 110, 116, 105, 108]⟩, .string ⟨#[108, 111, 111, 112]⟩, .string ⟨#[43, 108, 111, 111, 112]⟩, .string ⟨#[114, 101, 112, 101, 97, 116]⟩, .string ⟨#[116, 104, 101, 110]⟩] 9)).alloc (.cells #[.slice none 0 0, .slice none 0 0, .slice none 0 0] 30)) (w0.heap.size + 1 + 1 + 1) 30 (.slice none 0 0) (.slice none 0 0) (.slice none 0 0)) := Lib.hid (by have h := Bx.new (((w0.alloc (.cells #[.string ⟨#[105, 102]⟩, .string ⟨#[98, 101, 103, 105, 110]⟩, .string ⟨#[100, 111]⟩, .string ⟨#[63, 100, 111]⟩, .string ⟨#[98, 101, 103, 105, 110]⟩, .string ⟨#[105, 102]⟩] 9)).alloc (.cells #[.string ⟨#[101, 108, 115, 101]⟩, .string ⟨#[]⟩, .string ⟨#[108, 101, 97, 118, 101]⟩, .string ⟨#[]⟩, .string ⟨#[119, 104, 105, 108, 101]⟩, .string ⟨#[]⟩] 9)).alloc (.cells #[.string ⟨#[116, 104, 101, 110]⟩, .string ⟨#[117, 110, 116, 105, 108]⟩, .string ⟨#[108, 111, 111, 112]⟩, .string ⟨#[43, 108, 111, 111, 112]⟩, .string ⟨#[114, 101, 112, 101, 97, 116]⟩, .string ⟨#[116, 104, 101, 110]⟩] 9)) 30 (.slice none 0 0) (.slice none 0 0) (.slice none 0 0); rw [World.size_alloc, World.size_alloc, World.size_alloc] at h; exact h)
    have HB : Hid (Below W.heap.size W ((((w0.alloc (.cells #[.string ⟨#[105, 102]⟩, .string ⟨#[98, 101, 103, 105, 110]⟩, .string ⟨#[100, 111]⟩, .string ⟨#[63, 100, 111]⟩, .string ⟨#[98, 101, 103, 105, 110]⟩, .string ⟨#[105, 102]⟩] 9)).alloc (.cells #[.string ⟨#[101, 108, 115, 101]⟩, .string ⟨#[]⟩, .string ⟨#[108, 101, 97, 118, 101]⟩, .string ⟨#[]⟩, .string ⟨#[119, 104, 105, 108, 101]⟩, .string ⟨#[]⟩] 9)).alloc (.cells #[.string ⟨#[116, 104, 101, 110]⟩, .string ⟨#[117, 110, 116, 105, 108]⟩, .string ⟨#[108, 111, 111, 112]⟩, .string ⟨#[43, 108, 111, 111, 112]⟩, .string ⟨#[114, 101, 112, 101, 97, 116]⟩, .string ⟨#[116, 104, 101, 110]⟩] 9)).alloc (.cells #[.slice none 0 0, .slice none 0 0, .slice none 0 0] 30))) := Lib.hid (below_then HB0.out ((((below_one w0 _).alloc (by simp) _).alloc (by simp <;> omega) _).alloc (by simp <;> omega) _))
    go_upto_region 8 with (fail)
    generalize (((w0.alloc (.cells #[.string ⟨#[105, 102]⟩, .string ⟨#[98, 101, 103, 105, 110]⟩, .string ⟨#[100, 111]⟩, .string ⟨#[63, 100, 111]⟩, .string ⟨#[98, 101, 103, 105, 110]⟩, .string ⟨#[105, 102]⟩] 9)).alloc (.cells #[.string ⟨#[101, 108, 115, 101]⟩, .string ⟨#[]⟩, .string ⟨#[108, 101, 97, 118, 101]⟩, .string ⟨#[]⟩, .string ⟨#[119, 104, 105, 108, 101]⟩, .string ⟨#[]⟩] 9)).alloc (.cells #[.string ⟨#[116, 104, 101, 110]⟩, .string ⟨#[117, 110, 116, 105, 108]⟩, .string ⟨#[108, 111, 111, 112]⟩, .string ⟨#[43, 108, 111, 111, 112]⟩, .string ⟨#[114, 101, 112, 101, 97, 116]⟩, .string ⟨#[116, 104, 101, 110]⟩] 9)).alloc (.cells #[.slice none 0 0, .slice none 0 0, .slice none 0 0] 30) = W1 at *
    generalize hg7 : w0.heap.size + 1 + 1 + 1 = g7 at *
    generalize hg3 : w0.heap.size + 1 + 1 = gL at *
    generalize hg2 : w0.heap.size + 1 = gM at *
    generalize hg1 : w0.heap.size = gF at *
    have hgg : W.heap.size ≤ gF ∧ gF < g7 ∧ gM < g7 ∧ gL < g7 := by omega
    clear hg1 hg2 hg3 hg7
    go_wp2
    go_loopw [8] (fun i wr => ∃ j : Nat, i = .int .i64 j ∧ ∃ (A1 : Option Addr) (n1 c1 : Nat) (B1 : Option Addr) (m1 d1 : Nat) (C1 : Option Addr) (k1 f1 : Nat) (b : Bd), j ≤ n ∧ True ∧ Bx wr g7 30 (.slice A1 n1 c1) (.slice B1 m1 d1) (.slice C1 k1 f1) ∧ Bl wr A1 n1 c1 B1 m1 d1 C1 k1 f1 b ∧ flSane b = true ∧ flInv b ∧ Few (4 * j) b ∧ flK b = pKs (l.take j) ∧ Tab wr gF pFst ∧ Tab wr gM pMid ∧ Tab wr gL pLst ∧ Below W.heap.size W wr) (fun i _ => ((n : Int) - intOf i).toNat)
    case atStart => exact ⟨0, rfl, none, 0, 0, none, 0, 0, none, 0, 0, ⟨[], [], []⟩, by omega, trivial, X7.out, Bl.nil, rfl, (fun i hi => by cases hi), ⟨by simp, by simp, by simp⟩, rfl, T1.out, T2.out, T3.out, HB.out⟩
    case round =>
      obtain ⟨j, rfl, A1, n1, c1, B1, m1, d1, C1, k1, f1, b, hj, _, hX, hL, hs, hi, hF, hK, hTF, hTM, hTL, hb⟩ := hrel
      have R7 := Lib.hid hX
      have HL := Lib.hid hL
      have HS := Lib.hid hs
      have HI := Lib.hid hi
      have HF := Lib.hid hF
      have HK := Lib.hid hK
      have RF := Lib.hid hTF
      have RM := Lib.hid hTM
      have RL := Lib.hid hTL
      have RB := Lib.hid hb
      clear hX hL hs hi hF hK hTF hTM hTL hb
      have a0 := R7.out.c0; have a1 := R7.out.c1; have a2 := R7.out.c2; have af0 := R7.out.f0; have af1 := R7.out.f1; have af2 := R7.out.f2
      have hr7 := R7.out.lt
      by_cases hlt : j < n
      · have hjl : j < l.length := by rw [LA.out]; exact hlt
        obtain ⟨xb, xo, rfl, hbl, e0'⟩ := IA.out.at_ j hlt
        have e0 := (RB.out.cell (p := ⟨xb, _, none⟩) hbl).trans e0'
        have hxr : xb < wr.heap.size := Nat.lt_of_lt_of_le hbl RB.out.size
        clear e0'
        have HN := Lib.hid (pKs_next l j hjl)
        generalize l.getD j 0 = x at *
        have hk := pQ_is x
        have hq := pQ_lt x
        generalize pQ x = q at *
        have hq0 : (0 : Int) ≤ (q : Int) := by omega
        have hq1 : (q : Int) < 6 := by omega
        obtain ⟨BB, ok, t1, k1', f1', K1'⟩ := pair_first HS.out HF.out (by omega) q hq
        rw [HK.out] at K1'
        obtain ⟨DD, ok2, t2, k2', f2', K2'⟩ := pair_mid k1'.sane f1' (by omega) q hq K1'
        rw [← HN.out] at K2'
        have TA := Lib.hid t1
        have TB := Lib.hid t2
        have TK := Lib.hid (k1'.trans k2')
        have FD := Lib.hid f2'
        have KD := Lib.hid K2'
        have erow := RF.out.2 q hq
        have hrow := RF.out.1
        clear t1 t2 k1' k2' f1' f2' K1' K2'
        generalize (⟨(pFst q).toArray⟩ : ByteArray) = S at *
        go_upto_region 12 with (fail)
        have SKF : Hid (∀ w', Below wr.heap.size wr w' → Below wr.heap.size wr w' ∧ (w'.cell? ⟨g7, 0, none⟩ = some (.slice A1 n1 c1) ∧ w'.cell? ⟨g7, 1, none⟩ = some (.slice B1 m1 d1) ∧ w'.cell? ⟨g7, 2, none⟩ = some (.slice C1 k1 f1)) ∧ w'.cell? ⟨gF, q, none⟩ = some (.string S)) := Lib.hid fun w' h => ⟨h, ⟨(R7.out.keep h).c0, (R7.out.keep h).c1, (R7.out.keep h).c2⟩, (h.cell (p := ⟨gF, _, none⟩) hrow).trans erow⟩
        have HU : Hid (Below wr.heap.size wr wr.drew) := Lib.hid (Below.refl _ _).drew
        have HUa : Hid (Below wr.heap.size wr (wr.alloc (.cells #[.slice none 0 0, .slice none 0 0, .slice none 0 0] 30)).drew) := Lib.hid (below_one _ _).drew
        have Z0 : Hid (Bx (wr.alloc (.cells #[.slice none 0 0, .slice none 0 0, .slice none 0 0] 30)).drew wr.heap.size 30 (.slice none 0 0) (.slice none 0 0) (.slice none 0 0)) := Lib.hid (Bx.new wr _ _ _ _)
        go_cut [10, 11, 12] from 34 to 72 (fun p o e wx => ∃ (g : Nat) (A2 : Option Addr) (n2 c2 : Nat) (B2 : Option Addr) (m2 d2 : Nat) (C2 : Option Addr) (k2 f2 : Nat), p = .pointer (some ⟨g, 0, none⟩) ∧ o = .bool ok ∧ e = .int .i64 0 ∧ wr.heap.size ≤ g ∧ Bx wx g 30 (.slice A2 n2 c2) (.slice B2 m2 d2) (.slice C2 k2 f2) ∧ Bl wx A2 n2 c2 B2 m2 d2 C2 k2 f2 BB ∧ Below wr.heap.size wr wx)
        case first =>
          go_region_held3 (fun w' => Below wr.heap.size wr w' ∧ (w'.cell? ⟨g7, 0, none⟩ = some (.slice A1 n1 c1) ∧ w'.cell? ⟨g7, 1, none⟩ = some (.slice B1 m1 d1) ∧ w'.cell? ⟨g7, 2, none⟩ = some (.slice C1 k1 f1)) ∧ w'.cell? ⟨gF, q, none⟩ = some (.string S)) (first | assumption | exact SKF.out _ HU.out | exact SKF.out _ (HU.out.alloc HU.out.size _) | exact SKF.out _ (below_set3 HU.out (Nat.le_refl _) _ _ _) | exact SKF.out _ (below_set3 (HU.out.alloc HU.out.size _) HU.out.size _ _ _) | exact SKF.out _ HUa.out)
            (first
              | (go_at_call 14; (with_reducible refine (TA.out _ _ _ _ _ _ _ _ _ _ (HL.out.below HU.out)).mono ?_); rintro e w2 ⟨A2, n2, c2, B2, m2, d2, C2, k2, f2, rfl, h2, hb2⟩; have HU := Lib.hid (below_then HU.out hb2); have H2 := Lib.hid h2; have Y0 := Lib.hid (Bx.new w2 30 (.slice none 0 0) (.slice none 0 0) (.slice none 0 0)); clear h2 hb2; have y0 := Y0.out.c0; have y1 := Y0.out.c1; have y2 := Y0.out.c2; have yf0 := Y0.out.f0; have yf1 := Y0.out.f1; have yf2 := Y0.out.f2; have hy0 := Y0.out.lt)
              | (go_at_call 14; (with_reducible refine (TA.out _ _ _ _ _ _ _ _ _ _ (HL.out.below HUa.out)).mono ?_); rintro e w2 ⟨A2, n2, c2, B2, m2, d2, C2, k2, f2, rfl, h2, hb2⟩; have HU := Lib.hid (below_then HUa.out hb2); have H2 := Lib.hid h2; have Z2 := Lib.hid (Z0.out.keep hb2); clear h2 hb2; have z0 := Z2.out.c0; have z1 := Z2.out.c1; have z2 := Z2.out.c2; have zf0 := Z2.out.f0; have zf1 := Z2.out.f1; have zf2 := Z2.out.f2; have hz2 := Z2.out.lt))
          all_goals
            go_wp2_with fail
            go_meet
            case rel => first | exact ⟨_, _, _, _, _, _, _, _, _, _, rfl, rfl, rfl, Nat.le_refl _, Z2.out.set3 (.slice A2 n2 c2) (.slice B2 m2 d2) (.slice C2 k2 f2), H2.out.set3 Z2.out (B1 := A2) (p1 := n2) (e1 := c2) (B2 := B2) (p2 := m2) (e2 := d2) (B3 := C2) (p3 := k2) (e3 := f2), below_set3 HU.out (Nat.le_refl _) _ _ _⟩ | exact ⟨_, _, _, _, _, _, _, _, _, _, rfl, rfl, rfl, HU.out.size, Bx.new w2 30 (.slice A2 n2 c2) (.slice B2 m2 d2) (.slice C2 k2 f2), H2.out.alloc _, HU.out.alloc HU.out.size _⟩
        case rest =>
          obtain ⟨g, A2, n2, c2, B2, m2, d2, C2, k2, f2, rfl, rfl, rfl, hgr, hXc, hLc, hbc⟩ := hcut
          have R10 := Lib.hid hXc
          have L10 := Lib.hid hLc
          have N7 := Lib.hid (R7.out.keep hbc)
          have NF := Lib.hid (RF.out.keep hbc)
          have NM := Lib.hid (RM.out.keep hbc)
          have NL := Lib.hid (RL.out.keep hbc)
          have NB := Lib.hid (below_then RB.out hbc)
          have hgr2 : g7 < g := by omega
          clear hXc hLc hbc SKF HU HUa Z0 a0 a1 a2 af0 af1 af2 erow hrow hxr e0 R7 RF RM RL RB hr7 hgr HL
          clear S TA
          have a0 := R10.out.c0; have a1 := R10.out.c1; have a2 := R10.out.c2; have af0 := R10.out.f0; have af1 := R10.out.f1; have af2 := R10.out.f2
          have hr10 := R10.out.lt
          have erow := NM.out.2 q hq
          have hrow := NM.out.1
          generalize (⟨(pMid q).toArray⟩ : ByteArray) = S at *
          go_upto_region 13 with (fail)
          have SKF : Hid (∀ w', Below wc.heap.size wc w' → Below wc.heap.size wc w' ∧ (w'.cell? ⟨g, 0, none⟩ = some (.slice A2 n2 c2) ∧ w'.cell? ⟨g, 1, none⟩ = some (.slice B2 m2 d2) ∧ w'.cell? ⟨g, 2, none⟩ = some (.slice C2 k2 f2)) ∧ w'.cell? ⟨gM, q, none⟩ = some (.string S)) := Lib.hid fun w' h => ⟨h, ⟨(R10.out.keep h).c0, (R10.out.keep h).c1, (R10.out.keep h).c2⟩, (h.cell (p := ⟨gM, _, none⟩) hrow).trans erow⟩
          have HU : Hid (Below wc.heap.size wc wc.drew) := Lib.hid (Below.refl _ _).drew
          have HUa : Hid (Below wc.heap.size wc (wc.alloc (.cells #[.slice none 0 0, .slice none 0 0, .slice none 0 0] 30)).drew) := Lib.hid (below_one _ _).drew
          have Z0 : Hid (Bx (wc.alloc (.cells #[.slice none 0 0, .slice none 0 0, .slice none 0 0] 30)).drew wc.heap.size 30 (.slice none 0 0) (.slice none 0 0) (.slice none 0 0)) := Lib.hid (Bx.new wc _ _ _ _)
          go_cut [13, 14, 15] from 34 to 72 (fun p o e wx => ∃ (g : Nat) (A3 : Option Addr) (n3 c3 : Nat) (B3 : Option Addr) (m3 d3 : Nat) (C3 : Option Addr) (k3 f3 : Nat), p = .pointer (some ⟨g, 0, none⟩) ∧ o = .bool ok2 ∧ e = .int .i64 0 ∧ wc.heap.size ≤ g ∧ Bx wx g 30 (.slice A3 n3 c3) (.slice B3 m3 d3) (.slice C3 k3 f3) ∧ Bl wx A3 n3 c3 B3 m3 d3 C3 k3 f3 DD ∧ Below wc.heap.size wc wx)
          case first =>
            go_region_held3 (fun w' => Below wc.heap.size wc w' ∧ (w'.cell? ⟨g, 0, none⟩ = some (.slice A2 n2 c2) ∧ w'.cell? ⟨g, 1, none⟩ = some (.slice B2 m2 d2) ∧ w'.cell? ⟨g, 2, none⟩ = some (.slice C2 k2 f2)) ∧ w'.cell? ⟨gM, q, none⟩ = some (.string S)) (first | assumption | exact SKF.out _ HU.out | exact SKF.out _ (HU.out.alloc HU.out.size _) | exact SKF.out _ (below_set3 HU.out (Nat.le_refl _) _ _ _) | exact SKF.out _ (below_set3 (HU.out.alloc HU.out.size _) HU.out.size _ _ _) | exact SKF.out _ HUa.out)
              (first
                | (go_at_call 14; (with_reducible refine (TB.out _ _ _ _ _ _ _ _ _ _ (L10.out.below HU.out)).mono ?_); rintro e w2 ⟨A3, n3, c3, B3, m3, d3, C3, k3, f3, rfl, h2, hb2⟩; have HU := Lib.hid (below_then HU.out hb2); have H2 := Lib.hid h2; have Y0 := Lib.hid (Bx.new w2 30 (.slice none 0 0) (.slice none 0 0) (.slice none 0 0)); clear h2 hb2; have y0 := Y0.out.c0; have y1 := Y0.out.c1; have y2 := Y0.out.c2; have yf0 := Y0.out.f0; have yf1 := Y0.out.f1; have yf2 := Y0.out.f2; have hy0 := Y0.out.lt)
                | (go_at_call 14; (with_reducible refine (TB.out _ _ _ _ _ _ _ _ _ _ (L10.out.below HUa.out)).mono ?_); rintro e w2 ⟨A3, n3, c3, B3, m3, d3, C3, k3, f3, rfl, h2, hb2⟩; have HU := Lib.hid (below_then HUa.out hb2); have H2 := Lib.hid h2; have Z2 := Lib.hid (Z0.out.keep hb2); clear h2 hb2; have z0 := Z2.out.c0; have z1 := Z2.out.c1; have z2 := Z2.out.c2; have zf0 := Z2.out.f0; have zf1 := Z2.out.f1; have zf2 := Z2.out.f2; have hz2 := Z2.out.lt))
            all_goals
              go_wp2_with fail
              go_meet
              case rel => first | exact ⟨_, _, _, _, _, _, _, _, _, _, rfl, rfl, rfl, Nat.le_refl _, Z2.out.set3 (.slice A3 n3 c3) (.slice B3 m3 d3) (.slice C3 k3 f3), H2.out.set3 Z2.out (B1 := A3) (p1 := n3) (e1 := c3) (B2 := B3) (p2 := m3) (e2 := d3) (B3 := C3) (p3 := k3) (e3 := f3), below_set3 HU.out (Nat.le_refl _) _ _ _⟩ | exact ⟨_, _, _, _, _, _, _, _, _, _, rfl, rfl, rfl, HU.out.size, Bx.new w2 30 (.slice A3 n3 c3) (.slice B3 m3 d3) (.slice C3 k3 f3), H2.out.alloc _, HU.out.alloc HU.out.size _⟩
          case rest =>
            obtain ⟨g13, A3, n3, c3, B3, m3, d3, C3, k3, f3, rfl, rfl, rfl, hgr, hXc, hLc, hbc⟩ := hcut
            have R13 := Lib.hid hXc
            have L13 := Lib.hid hLc
            have M7 := Lib.hid (N7.out.keep hbc)
            have MF := Lib.hid (NF.out.keep hbc)
            have MM := Lib.hid (NM.out.keep hbc)
            have ML := Lib.hid (NL.out.keep hbc)
            have MB := Lib.hid (below_then NB.out hbc)
            clear hXc hLc hbc SKF HU HUa Z0 a0 a1 a2 af0 af1 af2 erow hrow
            have a0 := R13.out.c0; have a1 := R13.out.c1; have a2 := R13.out.c2; have af0 := R13.out.f0; have af1 := R13.out.f1; have af2 := R13.out.f2
            have z0 := M7.out.c0; have z1 := M7.out.c1; have z2 := M7.out.c2; have zf0 := M7.out.f0; have zf1 := M7.out.f1; have zf2 := M7.out.f2
            have hr13 := R13.out.lt
            have hm7 := M7.out.lt
            go_wp2
            go_roundw
            case rel => exact ⟨j + 1, by go_num, _, _, _, _, _, _, _, _, _, DD, by omega, trivial, M7.out.set3 (.slice A3 n3 c3) (.slice B3 m3 d3) (.slice C3 k3 f3), L13.out.set3 M7.out (B1 := A3) (p1 := n3) (e1 := c3) (B2 := B3) (p2 := m3) (e2 := d3) (B3 := C3) (p3 := k3) (e3 := f3), TK.out.sane, TK.out.inv HI.out, FD.out.mono (by omega), KD.out, MF.out.set3 (by omega) (.slice A3 n3 c3) (.slice B3 m3 d3) (.slice C3 k3 f3), MM.out.set3 (by omega) (.slice A3 n3 c3) (.slice B3 m3 d3) (.slice C3 k3 f3), ML.out.set3 (by omega) (.slice A3 n3 c3) (.slice B3 m3 d3) (.slice C3 k3 f3), below_set3 MB.out (by omega) (.slice A3 n3 c3) (.slice B3 m3 d3) (.slice C3 k3 f3)⟩
            case measure => simp [intOf]; omega
      · obtain rfl : n = j := by omega
        go_wp2
        go_loopw [16] (fun i wr => ∃ (j : Nat) (z : Int), z = (j : Int) - 1 ∧ i = .int .i64 z ∧ ∃ (A1 : Option Addr) (n1 c1 : Nat) (B1 : Option Addr) (m1 d1 : Nat) (C1 : Option Addr) (k1 f1 : Nat) (b : Bd), j ≤ n ∧ True ∧ Bx wr g7 30 (.slice A1 n1 c1) (.slice B1 m1 d1) (.slice C1 k1 f1) ∧ Bl wr A1 n1 c1 B1 m1 d1 C1 k1 f1 b ∧ flSane b = true ∧ flInv b ∧ Few (4 * n + 2 * (n - j)) b ∧ flK b = pKs (l.take j) ∧ Tab wr gF pFst ∧ Tab wr gM pMid ∧ Tab wr gL pLst ∧ Below W.heap.size W wr) (fun i _ => (intOf i + 1).toNat)
        case atStart => exact ⟨n, (n : Int) - 1, rfl, by first | rfl | go_num, _, _, _, _, _, _, _, _, _, b, Nat.le_refl _, trivial, R7.out, HL.out, HS.out, HI.out, HF.out.mono (by omega), HK.out, RF.out, RM.out, RL.out, RB.out⟩
        case round =>
          clear R7 HL HS HI HF HK RF RM RL RB a0 a1 a2 af0 af1 af2 hr7
          obtain ⟨j, z, hz, rfl, A1, n1, c1, B1, m1, d1, C1, k1, f1, b, hj, _, hX, hL, hs, hi, hF, hK, hTF, hTM, hTL, hb⟩ := hrel
          have R7 := Lib.hid hX
          have HL := Lib.hid hL
          have HS := Lib.hid hs
          have HI := Lib.hid hi
          have HF := Lib.hid hF
          have HK := Lib.hid hK
          have RF := Lib.hid hTF
          have RM := Lib.hid hTM
          have RL := Lib.hid hTL
          have RB := Lib.hid hb
          clear hX hL hs hi hF hK hTF hTM hTL hb
          have a0 := R7.out.c0; have a1 := R7.out.c1; have a2 := R7.out.c2; have af0 := R7.out.f0; have af1 := R7.out.f1; have af2 := R7.out.f2
          have hr7 := R7.out.lt
          by_cases hj0 : j = 0
          · subst hj0
            obtain rfl : z = -1 := by omega
            clear hz
            have hmk : b.marks = [] := List.eq_nil_of_length_eq_zero (by rw [← flK_len, HK.out]; rfl)
            have hE := fin_yes (b := b) (by have := HF.out.1; omega) (by rw [hmk]; simp)
            have hW := wd_whole HI.out hE
            have KE := Lib.hid (fun w' (h : Below wr.heap.size wr w') => end_any A1 B1 C1 n1 c1 m1 d1 k1 f1 b w' (HF.out.mono (by omega)) (HL.out.below h))
            rw [snd_of HS.out, hE] at KE
            have HW1 := Lib.hid hW.1
            have hn300 : (finL b).length ≤ 3000 := by rw [hW.2]; have := HF.out.1; omega
            clear hW hE hmk
            go_wp2_with (first
              | (go_at_call 16; refine (KE.out _ (Below.refl _ _)).mono ?_; rintro e w3 ⟨A3, n3, c3, rfl, h3, hb3⟩; have HU := Lib.hid hb3; have H3 := Lib.hid h3; have hn3 : n3 ≤ 3000 := Nat.le_trans (Nat.le_of_eq h3.len.symm) hn300; clear h3 hb3)
              | (go_at_call 23; refine (whole_any _ _ _ _ _ _ (by omega) H3.out HW1.out).mono ?_; rintro e w5 ⟨rfl, hb5⟩; have HU := Lib.hid (below_then HU.out hb5); clear hb5))
            go_ret
            exact ⟨rfl, below_then RB.out HU.out⟩
          · obtain ⟨r, rfl⟩ : ∃ r, j = r + 1 := ⟨j - 1, by omega⟩
            obtain rfl : z = (r : Int) := by omega
            clear hz
            have hrl : r < l.length := by rw [LA.out]; omega
            have hrn : r < n := by omega
            have hr0 : (0 : Int) ≤ (r : Int) := by omega
            have hr1 : (r : Int) < (n : Int) := by omega
            obtain ⟨xb, xo, rfl, hbl, e0'⟩ := IA.out.at_ r hrn
            have e0 := (RB.out.cell (p := ⟨xb, _, none⟩) hbl).trans e0'
            have hxr : xb < wr.heap.size := Nat.lt_of_lt_of_le hbl RB.out.size
            clear e0'
            have HN := Lib.hid (pKs_next l r hrl)
            generalize l.getD r 0 = x at *
            have hk := pQ_is x
            have hq := pQ_lt x
            generalize pQ x = q at *
            have hq0 : (0 : Int) ≤ (q : Int) := by omega
            have hq1 : (q : Int) < 6 := by omega
            obtain ⟨⟨BB, t1, k1', f1', K1'⟩, hm⟩ := pair_last HS.out HF.out (by omega) q hq (HK.out.trans HN.out)
            have TA := Lib.hid t1
            have TK := Lib.hid k1'
            have FD := Lib.hid f1'
            have KD := Lib.hid K1'
            have hfin := fin_no hm
            have KE := Lib.hid (fun w' (h : Below wr.heap.size wr w') => end_any A1 B1 C1 n1 c1 m1 d1 k1 f1 b w' (HF.out.mono (by omega)) (HL.out.below h))
            rw [snd_of HS.out, hfin.1] at KE
            clear t1 k1' f1' K1' hm hfin
            go_upto_region 22 with ((go_at_call 16; refine (KE.out _ (Below.refl _ _)).mono ?_; rintro e w3 ⟨A3, n3, c3, rfl, h3, hb3⟩; have HU3 := Lib.hid hb3; clear h3 hb3))
            have N7 := Lib.hid (R7.out.keep HU3.out)
            have NF := Lib.hid (RF.out.keep HU3.out)
            have NM := Lib.hid (RM.out.keep HU3.out)
            have NL := Lib.hid (RL.out.keep HU3.out)
            have NB := Lib.hid (below_then RB.out HU3.out)
            have NH := Lib.hid (HL.out.below HU3.out)
            clear a0 a1 a2 af0 af1 af2 R7 RF RM RL RB HL hr7 hxr e0 KE
            have a0 := N7.out.c0; have a1 := N7.out.c1; have a2 := N7.out.c2; have af0 := N7.out.f0; have af1 := N7.out.f1; have af2 := N7.out.f2
            have hr7 := N7.out.lt
            have erow := NL.out.2 q hq
            have hrow := NL.out.1
            generalize (⟨(pLst q).toArray⟩ : ByteArray) = S at *
            go_upto_region 22 with (fail)
            have SKF : Hid (∀ w', Below w3.heap.size w3 w' → Below w3.heap.size w3 w' ∧ (w'.cell? ⟨g7, 0, none⟩ = some (.slice A1 n1 c1) ∧ w'.cell? ⟨g7, 1, none⟩ = some (.slice B1 m1 d1) ∧ w'.cell? ⟨g7, 2, none⟩ = some (.slice C1 k1 f1)) ∧ w'.cell? ⟨gL, q, none⟩ = some (.string S)) := Lib.hid fun w' h => ⟨h, ⟨(N7.out.keep h).c0, (N7.out.keep h).c1, (N7.out.keep h).c2⟩, (h.cell (p := ⟨gL, _, none⟩) hrow).trans erow⟩
            have HU : Hid (Below w3.heap.size w3 w3.drew) := Lib.hid (Below.refl _ _).drew
            have HUa : Hid (Below w3.heap.size w3 (w3.alloc (.cells #[.slice none 0 0, .slice none 0 0, .slice none 0 0] 30)).drew) := Lib.hid (below_one _ _).drew
            have Z0 : Hid (Bx (w3.alloc (.cells #[.slice none 0 0, .slice none 0 0, .slice none 0 0] 30)).drew w3.heap.size 30 (.slice none 0 0) (.slice none 0 0) (.slice none 0 0)) := Lib.hid (Bx.new w3 _ _ _ _)
            go_cut [20, 21, 22] from 76 to 111 (fun p o e wx => ∃ (g : Nat) (A4 : Option Addr) (n4 c4 : Nat) (B4 : Option Addr) (m4 d4 : Nat) (C4 : Option Addr) (k4 f4 : Nat), p = .pointer (some ⟨g, 0, none⟩) ∧ o = .bool true ∧ e = .int .i64 0 ∧ w3.heap.size ≤ g ∧ Bx wx g 30 (.slice A4 n4 c4) (.slice B4 m4 d4) (.slice C4 k4 f4) ∧ Bl wx A4 n4 c4 B4 m4 d4 C4 k4 f4 BB ∧ Below w3.heap.size w3 wx)
            case first =>
              go_region_held3 (fun w' => Below w3.heap.size w3 w' ∧ (w'.cell? ⟨g7, 0, none⟩ = some (.slice A1 n1 c1) ∧ w'.cell? ⟨g7, 1, none⟩ = some (.slice B1 m1 d1) ∧ w'.cell? ⟨g7, 2, none⟩ = some (.slice C1 k1 f1)) ∧ w'.cell? ⟨gL, q, none⟩ = some (.string S)) (first | assumption | exact SKF.out _ HU.out | exact SKF.out _ (HU.out.alloc HU.out.size _) | exact SKF.out _ (below_set3 HU.out (Nat.le_refl _) _ _ _) | exact SKF.out _ (below_set3 (HU.out.alloc HU.out.size _) HU.out.size _ _ _) | exact SKF.out _ HUa.out)
                (first
                  | (go_at_call 14; (with_reducible refine (TA.out _ _ _ _ _ _ _ _ _ _ (NH.out.below HU.out)).mono ?_); rintro e w2 ⟨A4, n4, c4, B4, m4, d4, C4, k4, f4, rfl, h2, hb2⟩; have HU := Lib.hid (below_then HU.out hb2); have H2 := Lib.hid h2; have Y0 := Lib.hid (Bx.new w2 30 (.slice none 0 0) (.slice none 0 0) (.slice none 0 0)); clear h2 hb2; have y0 := Y0.out.c0; have y1 := Y0.out.c1; have y2 := Y0.out.c2; have yf0 := Y0.out.f0; have yf1 := Y0.out.f1; have yf2 := Y0.out.f2; have hy0 := Y0.out.lt)
                  | (go_at_call 14; (with_reducible refine (TA.out _ _ _ _ _ _ _ _ _ _ (NH.out.below HUa.out)).mono ?_); rintro e w2 ⟨A4, n4, c4, B4, m4, d4, C4, k4, f4, rfl, h2, hb2⟩; have HU := Lib.hid (below_then HUa.out hb2); have H2 := Lib.hid h2; have Z2 := Lib.hid (Z0.out.keep hb2); clear h2 hb2; have z0 := Z2.out.c0; have z1 := Z2.out.c1; have z2 := Z2.out.c2; have zf0 := Z2.out.f0; have zf1 := Z2.out.f1; have zf2 := Z2.out.f2; have hz2 := Z2.out.lt))
              all_goals
                go_wp2_with fail
                go_meet
                case rel => first | exact ⟨_, _, _, _, _, _, _, _, _, _, rfl, rfl, rfl, Nat.le_refl _, Z2.out.set3 (.slice A4 n4 c4) (.slice B4 m4 d4) (.slice C4 k4 f4), H2.out.set3 Z2.out (B1 := A4) (p1 := n4) (e1 := c4) (B2 := B4) (p2 := m4) (e2 := d4) (B3 := C4) (p3 := k4) (e3 := f4), below_set3 HU.out (Nat.le_refl _) _ _ _⟩ | exact ⟨_, _, _, _, _, _, _, _, _, _, rfl, rfl, rfl, HU.out.size, Bx.new w2 30 (.slice A4 n4 c4) (.slice B4 m4 d4) (.slice C4 k4 f4), H2.out.alloc _, HU.out.alloc HU.out.size _⟩
            case rest =>
              obtain ⟨g20, A4, n4, c4, B4, m4, d4, C4, k4, f4, rfl, rfl, rfl, hgr, hXc, hLc, hbc⟩ := hcut
              have R20 := Lib.hid hXc
              have L20 := Lib.hid hLc
              have M7 := Lib.hid (N7.out.keep hbc)
              have MF := Lib.hid (NF.out.keep hbc)
              have MM := Lib.hid (NM.out.keep hbc)
              have ML := Lib.hid (NL.out.keep hbc)
              have MB := Lib.hid (below_then NB.out hbc)
              clear hXc hLc hbc SKF HU HUa Z0 a0 a1 a2 af0 af1 af2 erow hrow
              have a0 := R20.out.c0; have a1 := R20.out.c1; have a2 := R20.out.c2; have af0 := R20.out.f0; have af1 := R20.out.f1; have af2 := R20.out.f2
              have z0 := M7.out.c0; have z1 := M7.out.c1; have z2 := M7.out.c2; have zf0 := M7.out.f0; have zf1 := M7.out.f1; have zf2 := M7.out.f2
              have hr20 := R20.out.lt
              have hm7 := M7.out.lt
              go_wp2
              go_roundw
              case rel => exact ⟨r, (r : Int) - 1, rfl, by first | rfl | go_num, _, _, _, _, _, _, _, _, _, BB, by omega, trivial, M7.out.set3 (.slice A4 n4 c4) (.slice B4 m4 d4) (.slice C4 k4 f4), L20.out.set3 M7.out (B1 := A4) (p1 := n4) (e1 := c4) (B2 := B4) (p2 := m4) (e2 := d4) (B3 := C4) (p3 := k4) (e3 := f4), TK.out.sane, TK.out.inv HI.out, FD.out.mono (by omega), KD.out, MF.out.set3 (by omega) (.slice A4 n4 c4) (.slice B4 m4 d4) (.slice C4 k4 f4), MM.out.set3 (by omega) (.slice A4 n4 c4) (.slice B4 m4 d4) (.slice C4 k4 f4), ML.out.set3 (by omega) (.slice A4 n4 c4) (.slice B4 m4 d4) (.slice C4 k4 f4), below_set3 MB.out (by omega) (.slice A4 n4 c4) (.slice B4 m4 d4) (.slice C4 k4 f4)⟩
              case measure => simp [intOf] <;> omega
end Go.Proofs.Ytkcpmjccggfpiaa
