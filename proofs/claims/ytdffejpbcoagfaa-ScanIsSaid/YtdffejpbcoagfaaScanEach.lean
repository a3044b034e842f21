/-
  What Lines answers: a new slice of the text's lines, told one by one by a range over a function.
-/
import Derived.Test.YtdffejpbcoagfaaScanLib
import Derived.RangeFuncBox
import Derived.RangeFuncLeaves
import Derived.Shelf.Abstract
import Derived.WalkKit
import Derived.OwnWalkIn
import Derived.TacticsInMore
import Derived.LoopNIn
import Derived.LoopIn
import Derived.Maps.AppendAt
import Derived.Deep.OwnRows
namespace Go.Proofs.Ytdffejpbcoagfaa
open Go.RowKit Go.Shelf
attribute [local go_sem] Oper.semAt_some

def lenOf : Value → Nat | .string s => s.size | _ => 0
def oneOf : Value → Nat | .bool true => 1 | _ => 0
/-- What is still to come. -/
def toCome (b : Bool) (q : List UInt8) : List (List UInt8) := if b then scL q else []
theorem grown_drewN (w : World) (n : Nat) : w.grownBy (w.drewN n) none := ⟨rfl, rfl, rfl, Nat.le_refl _, fun _ _ _ => rfl⟩
theorem below_drewN (B : Nat) (w : World) (n : Nat) : Below B w (w.drewN n) := ⟨rfl, rfl, rfl, Nat.le_refl _, fun _ _ => rfl⟩

set_option maxRecDepth 100000 in
set_option maxHeartbeats 1000000 in
theorem each1_in (l : List UInt8) (hl : l.length ≤ 2000) (n lp Bn n₀ : Nat) (hg : 0 < n₀) (hn : 1 ≤ n) (J Jx : List (List UInt8) → World → Prop) (hJ : ∀ s W W', J s W → W.grownBy W' none → J s W')
    (hY : ∀ pre x W, J pre W → pre.length < (scL l).length → YieldAt Fence.wide (n - 1) Try.prog lp #[.string ⟨x.toArray⟩] W fun e W' =>
      (e = .returned (.bool true) ∧ J (pre ++ [x]) W' ∧ Below n₀ W W') ∨ (e = .returned (.bool false) ∧ Jx (pre ++ [x]) W'))
    (W : World) (hm : MaxL W) (hBn : W.cell? ⟨Bn, 0, none⟩ = some (.string ⟨l.toArray⟩)) (h0 : J [] W) :
    CallsIn Fence.wide n Try.prog 30 #[.func (.yield lp) #[] #[], .pointer (some ⟨Bn, 0, none⟩)] W fun e W' => (∃ v, e = .returned v) ∧
      ((∃ ys, ys = scL l ∧ J ys W') ∨ (∃ pre, pre <+: scL l ∧ Jx pre W')) := by
  refine callsIn_of_wp Try.func30 rfl trivial ?_ rfl
  simp only [Try.ntmps30, List.size_toArray, List.length_cons, List.length_nil, Nat.reduceAdd, Nat.reduceSub, Array.replicate_succ, Array.replicate_zero, List.push_toArray, List.append_toArray, List.nil_append, List.cons_append]
  gi_wp2
  clear hBn
  gi_loopw [3, 4, 5] (fun r m _ wr => ∃ (pre : List (List UInt8)) (q : List UInt8) (b : Bool), r = .string ⟨q.toArray⟩ ∧ m = .bool b ∧ q.length ≤ 2000 ∧ scL l = pre ++ toCome b q ∧ MaxL wr ∧ J pre wr)
    (fun r m _ _ => lenOf r + oneOf m)
  case atStart => exact ⟨[], l, true, rfl, rfl, hl, rfl, hm, h0⟩
  case round =>
    obtain ⟨pre, q, b, rfl, rfl, hq, hx, hmr, hJs⟩ := hrel
    cases b with
    | false =>
      gi_wp2
      go_end0
      exact ⟨⟨_, rfl⟩, .inl ⟨pre, by rw [hx]; simp [toCome], hJs⟩⟩
    | true =>
      obtain ⟨x, r, b, hc, hle, hst⟩ : ∃ x r b, Lib.cut q [10] = (x, r, b) ∧ r.length + oneOf (.bool b) ≤ q.length ∧ scL l = (pre ++ [x]) ++ toCome b r := by
        rcases cut_lines q with ⟨x, r, h1, h2, h3⟩ | ⟨h1, h3⟩
        · refine ⟨x, r, true, h1, by rw [h2]; simp [oneOf], ?_⟩
          rw [hx]; simp [toCome, h3]
        · refine ⟨q, [], false, h1, by simp [oneOf], ?_⟩
          rw [hx]; simp [toCome, h3]
      have HC := Lib.hid hc
      have HX := Lib.hid hx
      have HT := Lib.hid hst
      have HM := Lib.hid hmr
      have HJ := Lib.hid hJs
      have hlt : pre.length < (scL l).length := by rw [hst]; simp
      clear hc hx hst hmr hJs
      gi_wp2_with (refine ⟨trivial, ?_⟩; gi_at_call 31; refine (callsIn_wide.2 (cut_any q x r b hq HC.out _ HM.out)).mono ?_; rintro e w2 ⟨rfl, k, rfl⟩; obtain ⟨fn, tmps, assign, body, hy, hR⟩ := hY pre x (wr.drewN k) (hJ _ _ _ HJ.out (grown_drewN wr k)) hlt)
      refine hR.mono ?_
      rintro e W3 (⟨rfl, hJ3, hk3⟩ | ⟨rfl, hJx3⟩)
      · gi_wp2
        go_roundw
        case rel => exact ⟨pre ++ [x], r, b, rfl, rfl, by omega, HT.out, (HM.out.below hg (below_drewN _ wr k)).below hg hk3, hJ3⟩
        case measure => simp [lenOf, oneOf, size_mk] at hle ⊢; omega
      · gi_wp2
        refine bodyPost_ret (results_none rfl _ _ _) rfl ?_
        exact ⟨⟨_, rfl⟩, .inr ⟨pre ++ [x], ⟨toCome b r, by rw [HT.out]⟩, hJx3⟩⟩

set_option maxHeartbeats 1000000 in
theorem each_in (S : ByteArray) (n : Nat) (w : World) :
    CallsIn Fence.wide n Try.prog 29 #[.string S] w fun e w' => e = .returned (.func (.func 30) #[] #[.pointer (some ⟨w.heap.size, 0, none⟩)]) ∧ w' = w.alloc (.cells #[.string S] 9) := by
  refine callsIn_of_wp Try.func29 rfl trivial ?_ rfl
  simp only [Try.ntmps29, List.size_toArray, List.length_cons, List.length_nil, Nat.reduceAdd, Nat.reduceSub, Array.replicate_succ, Array.replicate_zero, List.push_toArray, List.append_toArray, List.nil_append, List.cons_append]
  gi_wp2
  go_ret
  exact ⟨rfl, rfl⟩
theorem each_stops (l : List UInt8) (hl : l.length ≤ 2000) (n Bn n₀ : Nat) (hg : 0 < n₀) (hn : 1 ≤ n) (w : World) (hBn : Bn < w.heap.size) (hm : MaxL w) (hc : w.cell? ⟨Bn, 0, none⟩ = some (.string ⟨l.toArray⟩)) :
    SeqStopsK Fence.wide n Try.prog 30 #[.pointer (some ⟨Bn, 0, none⟩)] (fun x : List UInt8 => #[Value.string ⟨x.toArray⟩]) (Below n₀) (fun ys => ys = scL l) (fun pre => pre <+: scL l) (scL l).length w := fun lp J Jx W hW hJ _ hY h0 =>
  each1_in l hl n lp Bn n₀ hg hn J Jx (fun s A B hs hgr => hJ s A B none hs hgr (fun r e => by cases e)) hY W (hm.keep hW) ((hW.cell (p := ⟨Bn, 0, none⟩) hBn).trans hc) h0
theorem infoS : (Try.prog.info? 9).map (fun i => (i.zero, i.size, i.bytes)) = some (some (.string ⟨#[]⟩), 1, 16) := by kernel_rfl
/-- The cells of some texts. -/
def textsOf (L : List (List UInt8)) : List Value := L.map fun x => Value.string ⟨x.toArray⟩
/-- The slice A, n, c holds the texts L. -/
def Txts (w : World) (A : Option Addr) (n : Nat) (L : List (List UInt8)) : Prop :=
  L.length = n ∧ (0 < n → ∃ b o, A = some ⟨b, o, none⟩ ∧ b < w.heap.size ∧ ∀ j (hj : j < L.length), w.cell? ⟨b, o + j, none⟩ = some (.string ⟨L[j].toArray⟩))
theorem Txts.keep {w w' : World} {A : Option Addr} {n : Nat} {L : List (List UInt8)} (h : Txts w A n L) (hb : Below w.heap.size w w') : Txts w' A n L :=
  ⟨h.1, fun hn => by
    obtain ⟨b, o, e, hlt, hc⟩ := h.2 hn
    exact ⟨b, o, e, Nat.lt_of_lt_of_le hlt hb.size, fun j hj => (hb.cell (p := ⟨b, o + j, none⟩) hlt).trans (hc j hj)⟩⟩
theorem Txts.of_own {w : World} {base : Nat} {e : TypeId} {v : Value} {L : List (List UInt8)} (h : w.ownsRow base e 1 v L.length (textsOf L)) : ∃ A c, v = .slice A L.length c ∧ Txts w A L.length L := by
  have h2 := h.2
  rcases h2 with ⟨e1, e2⟩ | ⟨g, cap, cur, hv, hrest⟩
  · exact ⟨none, 0, by rw [e1, e2], rfl, fun h0 => by omega⟩
  · obtain ⟨_, hg, _, _, _, htk⟩ := hrest
    refine ⟨_, _, hv, rfl, fun _ => ⟨g, 0, rfl, (Array.getElem?_eq_some_iff.1 hg).1, fun j hj => ?_⟩⟩
    have e1 : (List.take (L.length * 1) cur.toList)[j]? = some (.string ⟨L[j].toArray⟩) := by rw [htk]; simp [textsOf, hj]
    rw [List.getElem?_take, if_pos (by omega)] at e1
    simp only [World.cell?, hg, Nat.zero_add]
    simpa using e1

set_option maxRecDepth 100000 in
set_option maxHeartbeats 2000000 in
theorem lines_in (l : List UInt8) (hl : l.length ≤ 2000) (w : World) (hm : MaxL w) :
    CallsIn Fence.wide 3 Try.prog 22 #[.string ⟨l.toArray⟩] w fun e W' => ∃ v, e = .returned v ∧ W'.ownsRow w.heap.size 9 1 v (scL l).length (textsOf (scL l)) ∧ Below w.heap.size w W' := by
  obtain ⟨i0, hi, hz0, hz1, hz2⟩ := info_parts infoS
  have hll := scL_length l
  obtain ⟨S, hS⟩ : ∃ S : ByteArray, S = ⟨l.toArray⟩ := ⟨_, rfl⟩
  have HS := Lib.hid hS
  rw [← hS]
  clear hS
  refine callsIn_of_wp_marks Try.func22 rfl trivial ?_ rfl
  simp only [Try.ntmps22, List.size_toArray, List.length_cons, List.length_nil, Nat.reduceAdd, Nat.reduceSub, Array.replicate_succ, Array.replicate_zero, List.push_toArray, List.append_toArray, List.nil_append, List.cons_append]
  gi_wp2_with (refine ⟨trivial, ?_⟩; gi_at_call 29; refine (each_in _ 2 _).mono ?_; rintro e w' ⟨rfl, rfl⟩)
  have bO := Boxed.new w 39 (.slice none 0 0)
  have bN := Boxed.new (w.alloc (.cells #[.slice none 0 0] 39)) 9 (.string S)
  rw [World.size_alloc] at bN
  have hB0 : Below w.heap.size w ((w.alloc (.cells #[.slice none 0 0] 39)).alloc (.cells #[.string S] 9)) := ((Below.refl _ w).alloc (Nat.le_refl _) _).alloc (by simp) _
  have hgl := hm.lt
  refine wpIn_rangeFunc_ownG rfl (by omega) (gf := 30) (lb := #[.pointer (some ⟨w.heap.size + 1, 0, none⟩)]) rfl trivial (enters_of Try.func30 (by kernel_rfl) rfl)
    (each_stops l hl 2 (w.heap.size + 1) w.heap.size hgl (by omega) _ (by simp) ((hm.alloc _).alloc _) (by rw [← HS.out]; exact bN.cell)) belowK_t (belowK_b (by simp; omega)) (Below.refl _ _) (fun _ => rfl)
    (fun pre W => (∃ v, Boxed W w.heap.size 39 v ∧ W.ownsRow w.heap.size 9 1 v pre.length (textsOf pre) ∧ (v = .slice none 0 0 ↔ pre = [])) ∧ Below w.heap.size w W)
    (fun _ _ _ => False)
    (OwnFrom.and (Own.from (holdsRow_own w.heap.size w.heap.size 39 9 1 (fun pre => pre.length) (fun pre => textsOf pre) (fun pre v => v = .slice none 0 0 ↔ pre = [])) _) (ownFrom_below (Nat.le_refl _) (by simp; omega)))
    (fun _ _ _ _ _ hs _ _ => hs)
    ⟨⟨_, bO.alloc _, World.ownsRow_nil _ _ _ _, by simp⟩, hB0⟩
    (fun x => { tmps := #[.string S, undef, .slice none 0 0, .pointer (some ⟨w.heap.size, 0, none⟩), .string ⟨x.toArray⟩, .string S, .func (.func 30) #[] #[.pointer (some ⟨w.heap.size + 1, 0, none⟩)], .string ⟨x.toArray⟩, undef, undef, undef, undef, undef], defers := [] }) ?assign ?body ?done ?stop
  case assign =>
    intro l x W K hK
    gi_wp2
    exact hK
  case body =>
    rintro lp pre x W ⟨⟨v, hv, hrow, hnil⟩, hB⟩ hlt
    have hc := hv.cell
    gi_wp2_with (gi_at_builtin; refine wpListIn_append_own _ rfl _ _ 39 rfl w.heap.size 9 i0 (.string ⟨#[]⟩) 1 16 Try.underlying39 hi hz0 hz1 hz2 rfl (by decide) _ _ _ rfl (hrow.alloc _) ⟨W.heap.size, 0, none⟩ 1 1 [.string ⟨x.toArray⟩] rfl rfl (cell_one_new _ _ _) (by simp [Value.oneCell']) (by unfold maxLen; omega) (by omega) (by have := hB.size; simp; omega) ?_; intro v' w1 hown' hgrow _; obtain ⟨g', cap', rfl⟩ := ownsRow_succ hown'; obtain ⟨hv1, hv2, hr2, hk2, hb2⟩ := hv.appended (by decide) hrow hB.size (Nat.le_refl _) hown' hgrow; have hc1 := hv1.cell; have hf1 := hv1.frozen)
    exact ⟨hk2.from _, hb2, ⟨_, hv2, by simpa [textsOf] using hr2, by simp⟩, hB.trans hb2⟩
  case done =>
    rintro D ys W hD rfl ⟨⟨v, hv, hrow, hnil⟩, hB⟩ hK
    have hc := hv.cell
    gi_wp2
    refine ⟨by simp, .inl ⟨_, _, rfl, run_takeDeferred hK, ?_⟩⟩
    exact ⟨_, results_tmp rfl _ _ _, v, rfl, ownsRow_putObj hrow _ hK rfl, hB.trans (belowK_b (w := w) (Nat.le_refl _) W D _ _ (by simp at hD; omega) hK rfl rfl)⟩
  case stop =>
    rintro D c pre W _ _ h _
    exact h.elim
/-- What Lines answers. -/
def LinesPost (w : World) (L : List (List UInt8)) (e : Ending) (w' : World) : Prop := ∃ A c, e = .returned (.slice A L.length c) ∧ Txts w' A L.length L ∧ Below w.heap.size w w'
theorem lines_any (l : List UInt8) (hl : l.length ≤ 2000) (S : ByteArray) (hS : S = ⟨l.toArray⟩) (w : World) (hm : MaxL w) :
    Calls Try.prog 22 #[.string S] w (LinesPost w (scL l)) := by
  subst hS
  refine (callsIn_wide.1 (lines_in l hl w hm)).mono ?_
  rintro e w' ⟨v, rfl, hrow, hb⟩
  obtain ⟨A, c, rfl, ht⟩ := Txts.of_own hrow
  exact ⟨A, c, rfl, ht, hb⟩
end Go.Proofs.Ytdffejpbcoagfaa
