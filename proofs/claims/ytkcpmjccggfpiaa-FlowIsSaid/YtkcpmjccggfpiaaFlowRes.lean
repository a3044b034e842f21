/-
  What package flow's own step resolve answers: places are given the number of instructions, in a copy. Rows of ints.
-/
import Derived.Test.YtkcpmjccggfpiaaFlowTake
import Derived.Laws.IdiomStrings
namespace Go.Proofs.Ytkcpmjccggfpiaa
open Go.RowKit

/-- The slice A, n, c holds the ints l. -/
def Ints (w : World) (A : Option Addr) (n : Nat) (l : List Int) : Prop :=
  l.length = n ∧ (0 < n → ∃ b o, A = some ⟨b, o, none⟩ ∧ b < w.heap.size ∧ ∀ j (hj : j < l.length), w.cell? ⟨b, o + j, none⟩ = some (.int .i64 l[j]))
theorem Ints.below {w w' : World} {A : Option Addr} {n : Nat} {l : List Int} (h : Ints w A n l) (hb : Below w.heap.size w w') : Ints w' A n l :=
  ⟨h.1, fun hn => by
    obtain ⟨b, o, e, hbl, hc⟩ := h.2 hn
    exact ⟨b, o, e, Nat.lt_of_lt_of_le hbl hb.size, fun j hj => (hb.cell (p := ⟨b, _, none⟩) hbl).trans (hc j hj)⟩⟩
theorem Ints.alloc {w : World} {A : Option Addr} {n : Nat} {l : List Int} (h : Ints w A n l) (o : Obj) : Ints (w.alloc o) A n l := h.below (below_one _ _)
theorem Ints.at_ {w : World} {A : Option Addr} {n : Nat} {l : List Int} (h : Ints w A n l) (q : Nat) (hq : q < n) : ∃ b o, A = some ⟨b, o, none⟩ ∧ b < w.heap.size ∧ w.cell? ⟨b, o + q, none⟩ = some (.int .i64 (l.getD q 0)) := by
  obtain ⟨b, o, rfl, hb, hc⟩ := h.2 (by omega)
  have hl : q < l.length := by rw [h.1]; exact hq
  exact ⟨b, o, rfl, hb, by rw [hc q hl]; simp [List.getD, hl]⟩
theorem Ints.new1 (w : World) (a : Int) (t : TypeId) : Ints (w.alloc (.cells #[.int .i64 a] t)) (some ⟨w.heap.size, 0, none⟩) 1 [a] := by
  refine ⟨rfl, fun _ => ⟨_, 0, rfl, by simp, fun j hj => ?_⟩⟩
  match j, hj with
  | 0, _ => exact cell_of_row _ _ 0 _ t (0, 0) (heap_alloc_new w _)

theorem prsOf_set (l : List (Int × Int)) (q : Nat) (v : Int) (hq : q < l.length) : (prsOf l).set (q * 2 + 1) (.int .i64 v) = prsOf (l.set q ((l.getD q (0, 0)).1, v)) := by
  induction l generalizing q with
  | nil => simp at hq
  | cons p l ih =>
    cases q with
    | zero => rfl
    | succ q =>
      have := ih q (by simpa using hq)
      rw [prsOf_cons, show (q + 1) * 2 + 1 = q * 2 + 1 + 1 + 1 by omega, List.set_cons_succ, List.set_cons_succ, this, List.set_cons_succ, prsOf_cons]
      simp [List.getD]
theorem take_set_lt {α : Type} (l : List α) (i k : Nat) (v : α) : (l.set i v).take k = (l.take k).set i v := by
  rw [List.take_set]
/-- A place of a row of the call's own is given another Arg. -/
theorem own_set {w : World} {B0 : Nat} {E : TypeId} {A : Option Addr} {n c : Nat} {l : List (Int × Int)} (h : w.ownsRow B0 E 2 (.slice A n c) n (prsOf l)) (q : Nat) (hq : q < n) (v : Int) :
    ∃ g x y, A = some ⟨g, 0, none⟩ ∧ B0 ≤ g ∧ g < w.heap.size ∧ w.cell? ⟨g, q * 2, none⟩ = some (.int .i64 x) ∧ w.cell? ⟨g, q * 2 + 1, none⟩ = some (.int .i64 y) ∧ w.frozen? ⟨g, q * 2 + 1, none⟩ = false ∧
      (w.setCell ⟨g, q * 2 + 1, none⟩ (.int .i64 v)).ownsRow B0 E 2 (.slice A n c) n (prsOf (l.set q ((l.getD q (0, 0)).1, v))) := by
  have hl : l.length = n := by have := h.1; rw [prsOf_length] at this; omega
  rcases h.2 with ⟨_, e⟩ | ⟨g, cap, cur, hv, hb, hg, hnc, hcm, hsz, htk⟩
  · omega
  · injection hv with h1 h2 h3
    subst h1 h3
    have hp := (Prs.of_own h).at_ q hq
    obtain ⟨b, o, e, hbl, c0, c1⟩ := hp
    cases e
    refine ⟨g, _, _, rfl, hb, hbl, by rw [← Nat.zero_add (q * 2)]; exact c0, by rw [← Nat.zero_add (q * 2)]; exact c1, by simp [World.frozen?, hg], ?_⟩
    refine ⟨by rw [prsOf_length, List.length_set, hl], .inr ⟨g, _, cur.setIfInBounds (q * 2 + 1) (.int .i64 v), rfl, hb, ?_, hnc, hcm, by simpa using hsz, ?_⟩⟩
    · simp [World.setCell, Array.getElem?_modify, hg]
    · rw [Array.toList_setIfInBounds, take_set_lt, htk, prsOf_set _ _ _ (by omega)]

set_option maxHeartbeats 1000000 in
theorem resolve_any (A B C : Option Addr) (n c m d k f : Nat) (b : Bd) (Y : Option Addr) (p q : Nat) (x : List Int) (w : World) (hF : Few 50000 b) (hp : p ≤ 100000) (h : Bl w A n c B m d C k f b) (hx : Ints w Y p x) (hz : ∀ a ∈ x, flThere b.code.length a = true) :
    Calls Try.prog 65 #[.agg #[.slice A n c, .slice B m d, .slice C k f], .slice Y p q] w (BdPost w (resB b x)) := by
  have HX := Lib.hid hx
  have HZ := Lib.hid hz
  clear hx hz
  obtain ⟨hn, hm, hk⟩ := h.ns hF
  have LC := Lib.hid h.1.len
  have LM := Lib.hid h.2.1.len
  have LO := Lib.hid h.2.2.len
  have H := Lib.hid h
  clear h hF
  have X1 := Lib.hid ((Bx.new w 30 (.slice A n c) (.slice B m d) (.slice C k f)).alloc (.cells #[.slice none 0 0, .slice none 0 0, .slice none 0 0] 30))
  have X2 := Lib.hid (Bx.new2 w (.cells #[.slice A n c, .slice B m d, .slice C k f] 30) 30 (.slice none 0 0) (.slice none 0 0) (.slice none 0 0))
  have HB := Lib.hid (below_two w (.cells #[.slice A n c, .slice B m d, .slice C k f] 30) (.cells #[.slice none 0 0, .slice none 0 0, .slice none 0 0] 30))
  go_enter Try.func65, Try.ntmps65
  go_upto_region 1 with (fail)
  generalize (w.alloc (.cells #[.slice A n c, .slice B m d, .slice C k f] 30)).alloc (.cells #[.slice none 0 0, .slice none 0 0, .slice none 0 0] 30) = W at *
  have hg1 : w.heap.size < W.heap.size := X1.out.lt
  have hg2 : w.heap.size + 1 < W.heap.size := X2.out.lt
  have HL := Lib.hid (H.out.below HB.out)
  have a0 := X1.out.c0; have a1 := X1.out.c1; have a2 := X1.out.c2; have af0 := X1.out.f0; have af1 := X1.out.f1; have af2 := X1.out.f2
  have z0 := X2.out.c0; have z1 := X2.out.c1; have z2 := X2.out.c2; have zf0 := X2.out.f0; have zf1 := X2.out.f1; have zf2 := X2.out.f2
  go_wp2_with (go_at_call 72; refine (cloneI_any _ _ _ _ _ (by omega) HL.out.pc).mono ?_; rintro e w1 ⟨A1, c1, rfl, ho⟩; have HO := Lib.hid ho; have HB1 := Lib.hid ho.below; clear ho; have Y1 := Lib.hid (X1.out.keep HB1.out); have Y2 := Lib.hid (X2.out.keep HB1.out); clear a0 a1 a2 af0 af1 af2 z0 z1 z2 zf0 zf1 zf2; have a0 := Y1.out.c0; have a1 := Y1.out.c1; have a2 := Y1.out.c2; have af0 := Y1.out.f0; have af1 := Y1.out.f1; have af2 := Y1.out.f2; have z0 := Y2.out.c0; have z1 := Y2.out.c1; have z2 := Y2.out.c2; have zf0 := Y2.out.f0; have zf1 := Y2.out.f1; have zf2 := Y2.out.f2)
  clear a0 a1 a2 af0 af1 af2 z0 z1 z2 zf0 zf1 zf2
  have V1 := Lib.hid (Y1.out.s0 (.slice A1 n c1))
  have V2 := Lib.hid (Y2.out.other (p := ⟨w.heap.size, 0, none⟩) (by simp) (.slice A1 n c1))
  have VB := Lib.hid ((below_then HB.out HB1.out).setCell (p := ⟨w.heap.size, 0, none⟩) (Nat.le_refl _) (.slice A1 n c1))
  have VO : Hid ((w1.setCell ⟨w.heap.size, 0, none⟩ (.slice A1 n c1)).ownsRow W.heap.size 53 2 (.slice A1 n c1) n (prsOf b.code)) := by
    refine Lib.hid ⟨HO.out.1.1, ?_⟩
    rcases HO.out.1.2 with h1 | ⟨g, cap, cur, hv, hb, hg, h4⟩
    · exact .inl h1
    · exact .inr ⟨g, cap, cur, hv, hb, (Below.heap_setCell w1 ⟨w.heap.size, 0, none⟩ _ g (by simp; omega)).trans hg, h4⟩
  generalize w1.setCell ⟨w.heap.size, 0, none⟩ (.slice A1 n c1) = w2 at *
  go_loopw [13] (fun i wr => ∃ j : Nat, j ≤ p ∧ i = .int .i64 j ∧ wr.ownsRow W.heap.size 53 2 (.slice A1 n c1) n (prsOf (flRes n b.code (x.take j))) ∧ Below w.heap.size w wr ∧ Bx wr w.heap.size 30 (.slice A1 n c1) (.slice B m d) (.slice C k f) ∧ Bx wr (w.heap.size + 1) 30 (.slice none 0 0) (.slice none 0 0) (.slice none 0 0)) (fun i _ => ((p : Int) - intOf i).toNat)
  case atStart => exact ⟨0, by omega, rfl, VO.out, VB.out, V1.out, V2.out⟩
  case round =>
    obtain ⟨j, hj, rfl, hO, hb, hv1, hv2⟩ := hrel
    have RO := Lib.hid hO
    have RB := Lib.hid hb
    have R1 := Lib.hid hv1
    have R2 := Lib.hid hv2
    clear hO hb hv1 hv2
    have a0 := R1.out.c0; have a1 := R1.out.c1; have a2 := R1.out.c2; have af0 := R1.out.f0; have af1 := R1.out.f1; have af2 := R1.out.f2
    have z0 := R2.out.c0; have z1 := R2.out.c1; have z2 := R2.out.c2; have zf0 := R2.out.f0; have zf1 := R2.out.f1; have zf2 := R2.out.f2
    by_cases hlt : j < p
    · have hjl : j < x.length := by have := HX.out.1; omega
      obtain ⟨xb, xo, rfl, hxb, hc⟩ := (HX.out.below RB.out).at_ j hlt
      have hq := HZ.out (x.getD j 0) (by simp [List.getD, hjl])
      rw [LC.out] at hq
      unfold flThere at hq
      have hq2 := of_decide_eq_true hq
      have HE : Hid (x.take (j + 1) = x.take j ++ [x.getD j 0]) := Lib.hid (by rw [List.take_succ_eq_append_getElem hjl]; simp [List.getD, hjl])
      generalize x.getD j 0 = y at *
      obtain ⟨r, rfl⟩ : ∃ r : Nat, y = (r : Int) := ⟨y.toNat, by omega⟩
      obtain ⟨g, u, v, rfl, hgb, hgl, e0, e1, ef, hO2⟩ := own_set RO.out r (by omega) (n : Int)
      have HO2 := Lib.hid hO2
      clear hq hO2
      have hr0 : (0 : Int) ≤ (r : Int) := by omega
      have hr1 : (r : Int) < (n : Int) := hq2.2
      clear hq2
      go_wp2
      go_roundw
      case rel =>
        refine ⟨j + 1, by omega, by go_num, ?_, RB.out.setCell (by have := X2.out.lt; simp; omega) _, R1.out.other (by simp; omega) _, R2.out.other (by simp; omega) _⟩
        rw [HE.out, flRes_snoc]
        exact HO2.out
      case measure => simp [intOf]; omega
    · obtain rfl : j = p := by omega
      go_wp2
      have hO := RO.out
      rw [List.take_of_length_le (by have := HX.out.1; omega)] at hO
      have hl := H.out.below RB.out
      refine bodyPost_ret (v := .agg #[.slice A1 n c1, .slice B m d, .slice C k f]) (by simp [results, Try.results65, go_sem, z0, z1, z2]) rfl (bd_fin (b' := ⟨flRes n b.code x, b.marks, b.outs⟩) (Bl.set3 ⟨Prs.of_own hO, hl.pm, hl.po⟩ R2.out) (below_set3 RB.out (by simp) _ _ _) (by unfold resB; rw [LC.out]))
end Go.Proofs.Ytkcpmjccggfpiaa
