/-
  Who is due, told one by one: the iterator that package timer's own due hands back, at a list whose times do not fall.
-/
import Derived.Test.YtpkfmbknbdlnpaaTimerHeld
import Derived.Test.YtpkfmbknbdlnpaaTimerPlaceMath
import Derived.Test.YtpkfmbknbdlnpaaTimerArr
import Derived.RangeFuncBox
import Derived.RangeFuncLeaves
import Derived.Shelf.Abstract
import Derived.WalkKit
import Derived.OwnWalkIn
import Derived.TacticsInMore
import Derived.LoopNIn
import Derived.LoopIn
import Derived.Maps.AppendAt
import Derived.Deep.OwnRows
namespace Go.Proofs.Ytpkfmbknbdlnpaa
open Go.RowKit Go.Shelf
attribute [local go_sem] Oper.semAt_some

/-- Of what lies below m only block b may have changed. -/
structure KB (b m : Nat) (W W' : World) : Prop where
  size : W.heap.size ≤ W'.heap.size
  same : ∀ k, k < m → k ≠ b → W'.heap[k]? = W.heap[k]?
section
variable {b m : Nat} {w0 W W' W2 : World} {A : Option Addr} {n c : Nat} {l : List Np}
theorem KB.refl (b m : Nat) (W : World) : KB b m W W := ⟨Nat.le_refl _, fun _ _ _ => rfl⟩
theorem KB.trans (h : KB b m W W') (k : KB b m W' W2) : KB b m W W2 := ⟨Nat.le_trans h.size k.size, fun i hi hb => (k.same i hi hb).trans (h.same i hi hb)⟩
theorem KB.of_below (h : Below m W W') : KB b m W W' := ⟨h.size, fun k hk _ => h.block k hk⟩
theorem KB.put {w : World} (hm : m ≤ w.heap.size) (W : World) (l : Nat) (o o' : Obj) (hl : w.heap.size ≤ l) (h : W.heap[l]? = some o) (h1 : o.isCells = false) (h2 : o.isWalk = false) : KB b m W (W.putObj l o') :=
  .of_below (belowK_b hm W l o o' hl h h1 h2)
theorem KB.set (W : World) (k : Nat) (v : Value) : KB b m W (W.setCell ⟨b, k, none⟩ v) := ⟨by simp [World.setCell], fun i _ hb => Below.heap_setCell W ⟨b, k, none⟩ v i hb⟩
theorem KB.alloc (hm : m ≤ W.heap.size) (o : Obj) : KB b m W (W.alloc o) := .of_below ((Below.refl m W).alloc hm o)
theorem KB.cell (h : KB b m W W') {k i : Nat} (hk : k < m) (hb : k ≠ b) : W'.cell? ⟨k, i, none⟩ = W.cell? ⟨k, i, none⟩ := World.cell?_of_block (w := W) (h.same k hk hb)
theorem Nps.kb (h : Nps w0 A n c l) (ha : Apt A n b) (hm : w0.heap.size ≤ m) (k : KB b m w0 W) : Nps W A n c l := by
  refine ⟨h.1, h.2.1, fun h0 => ?_, h.2.2.2⟩
  obtain ⟨x, o, e, hb, hc⟩ := h.at0 h0
  exact ⟨x, o, e, Nat.lt_of_lt_of_le hb k.size, fun j hj => (k.cell (Nat.lt_of_lt_of_le hb hm) (ha h0 x o e)).trans (hc j hj)⟩
end
theorem ni_next (l : List Np) (j : Nat) (h : j < l.length) : niL (l.take (j + 1)) = niL (l.take j) ++ [(l.getD j nz).d] := by
  unfold niL
  rw [ntake_snoc l j h, List.map_append]; rfl

set_option maxRecDepth 100000 in
set_option maxHeartbeats 1000000 in
theorem ndue1_in (A : Option Addr) (n c : Nat) (l : List Np) (t : Int) (b Bl Bt k lp : Nat) (w0 : World) (hn8 : n ≤ 8) (hg : Gn l) (h : Nps w0 A n c l) (ha : Apt A n b) (hBl : Bl < w0.heap.size) (hBt : Bt < w0.heap.size) (hlb : Bl ≠ b) (htb : Bt ≠ b)
    (cl : w0.cell? ⟨Bl, 0, none⟩ = some (.slice A n c)) (ct : w0.cell? ⟨Bt, 0, none⟩ = some (.int .i64 t)) (hk : 1 ≤ k) (J Jx : List Int → World → Prop) (hJ : ∀ s W W', J s W → W.grownBy W' none → J s W')
    (hY : ∀ pre x W, J pre W → pre.length < n → YieldAt Fence.wide (k - 1) Try.prog lp #[.int .i64 x] W fun e W' =>
      (e = .returned (.bool true) ∧ J (pre ++ [x]) W' ∧ KB b w0.heap.size W W') ∨ (e = .returned (.bool false) ∧ Jx (pre ++ [x]) W'))
    (W : World) (hb : Below w0.heap.size w0 W) (h0 : J [] W) :
    CallsIn Fence.wide k Try.prog 32 #[.func (.yield lp) #[] #[], .pointer (some ⟨Bl, 0, none⟩), .pointer (some ⟨Bt, 0, none⟩)] W fun e W' => (∃ v, e = .returned v) ∧
      ((∃ ys, ys = niL (upL l t) ∧ J ys W') ∨ (∃ pre : List Int, True ∧ Jx pre W')) := by
  have H := Lib.hid h
  have HL := Lib.hid h.len
  have HG := Lib.hid hg
  have HK := Lib.hid (KB.of_below (b := b) hb)
  have HC := Lib.hid ct
  have c1 := (HK.out.cell (i := 0) hBl hlb).trans cl
  clear h hg hb ct cl
  refine callsIn_of_wp Try.func32 rfl trivial ?_ rfl
  simp only [Try.ntmps32, List.size_toArray, List.length_cons, List.length_nil, Nat.reduceAdd, Nat.reduceSub, Array.replicate_succ, Array.replicate_zero, List.push_toArray, List.append_toArray, List.nil_append, List.cons_append]
  gi_wp2
  clear c1
  gi_loopw [8] (fun i wr => ∃ j : Nat, j ≤ n ∧ i = .int .i64 j ∧ (∀ q, q < j → (l.getD q nz).t ≤ t) ∧ J (niL (l.take j)) wr ∧ KB b w0.heap.size w0 wr) (fun i _ => ((n : Int) - intOf i).toNat)
  case atStart => exact ⟨0, by omega, rfl, fun q hq => absurd hq (by omega), h0, HK.out⟩
  case round =>
    obtain ⟨j, hj, rfl, hp, hJs, hkb⟩ := hrel
    have HP := Lib.hid hp
    have HJ := Lib.hid hJs
    have HV := Lib.hid hkb
    clear hp hJs hkb HK
    have c2 := (HV.out.cell (i := 0) hBt htb).trans HC.out
    by_cases hlt : j < n
    · have hjl : j < l.length := by rw [HL.out]; exact hlt
      obtain ⟨xb, xo, rfl, hbl, f0, f1⟩ := (H.out.kb ha (Nat.le_refl _) HV.out).at_ j hlt
      have HX := Lib.hid (ni_next l j hjl)
      obtain ⟨e, he⟩ : ∃ e, l.getD j nz = e := ⟨_, rfl⟩
      have HE := Lib.hid he
      rw [he] at f0 f1 HX
      clear he
      obtain ⟨d, t1⟩ := e
      simp only at f0 f1
      have HJ2 := Lib.hid (hJ _ _ _ HJ.out (World.grownBy_alloc wr (.cells #[.int .i64 d, .int .i64 t1] 49) none))
      have HV2 := Lib.hid (HV.out.trans (KB.alloc HV.out.size (.cells #[.int .i64 d, .int .i64 t1] 49)))
      have c3 := (HV2.out.cell (i := 0) hBt htb).trans HC.out
      by_cases hgt : t < t1
      · gi_wp2
        refine ⟨fun f hf => (by cases hf), ?_⟩
        gi_wp2
        refine bodyPost_ret (results_none rfl _ _ _) rfl ?_
        refine ⟨⟨_, rfl⟩, .inl ⟨_, rfl, ?_⟩⟩
        rw [up_stop HG.out t j hjl HP.out (by rw [HE.out]; exact hgt)]
        exact HJ2.out
      · obtain ⟨fn, tmps, assign, body, hy, hR⟩ := hY (niL (l.take j)) d _ HJ2.out (by unfold niL; simp; omega)
        gi_wp2
        refine hR.mono ?_
        rintro e W3 (⟨rfl, hJ3, hk3⟩ | ⟨rfl, hJx3⟩)
        · gi_wp2
          go_roundw
          case rel => exact ⟨j + 1, by omega, by go_num, fun q hq => by
            rcases Nat.lt_succ_iff_lt_or_eq.1 hq with g | rfl
            · exact HP.out q g
            · rw [HE.out]; simp only; omega, by rw [HX.out]; exact hJ3, HV2.out.trans hk3⟩
          case measure => simp [intOf]; omega
        · gi_wp2
          refine bodyPost_ret (results_none rfl _ _ _) rfl ?_
          exact ⟨⟨_, rfl⟩, .inr ⟨_, trivial, hJx3⟩⟩
    · obtain rfl : j = n := by omega
      gi_wp2
      go_end0
      refine ⟨⟨_, rfl⟩, .inl ⟨_, rfl, ?_⟩⟩
      have := HJ.out
      rw [List.take_of_length_le (by rw [HL.out]; exact Nat.le_refl _)] at this
      rw [up_whole t (fun q hq => HP.out q (by rw [← HL.out]; exact hq))]
      exact this
set_option maxHeartbeats 1000000 in
theorem ndue_in (A : Option Addr) (n c : Nat) (t : Int) (k : Nat) (w : World) :
    CallsIn Fence.wide k Try.prog 25 #[.slice A n c, .int .i64 t] w fun e w' => e = .returned (.func (.func 32) #[] #[.pointer (some ⟨w.heap.size, 0, none⟩), .pointer (some ⟨w.heap.size + 1, 0, none⟩)]) ∧ w' = (w.alloc (.cells #[.slice A n c] 24)).alloc (.cells #[.int .i64 t] 3) := by
  refine callsIn_of_wp Try.func25 rfl trivial ?_ rfl
  simp only [Try.ntmps25, List.size_toArray, List.length_cons, List.length_nil, Nat.reduceAdd, Nat.reduceSub, Array.replicate_succ, Array.replicate_zero, List.push_toArray, List.append_toArray, List.nil_append, List.cons_append]
  gi_wp2
  go_ret
  exact ⟨rfl, rfl⟩
theorem ndue_stops (A : Option Addr) (n c : Nat) (l : List Np) (t : Int) (b Bl Bt k : Nat) (w0 : World) (hn8 : n ≤ 8) (hg : Gn l) (h : Nps w0 A n c l) (ha : Apt A n b) (hBl : Bl < w0.heap.size) (hBt : Bt < w0.heap.size) (hlb : Bl ≠ b) (htb : Bt ≠ b)
    (cl : w0.cell? ⟨Bl, 0, none⟩ = some (.slice A n c)) (ct : w0.cell? ⟨Bt, 0, none⟩ = some (.int .i64 t)) (hk : 1 ≤ k) :
    SeqStopsK Fence.wide k Try.prog 32 #[.pointer (some ⟨Bl, 0, none⟩), .pointer (some ⟨Bt, 0, none⟩)] (fun x : Int => #[Value.int .i64 x]) (KB b w0.heap.size) (fun ys => ys = niL (upL l t)) (fun _ => True) n w0 := fun lp J Jx W hW hJ _ hY h0 =>
  ndue1_in A n c l t b Bl Bt k lp w0 hn8 hg h ha hBl hBt hlb htb cl ct hk J Jx (fun s A B hs hgr => hJ s A B none hs hgr (fun r e => by cases e)) hY W hW h0
end Go.Proofs.Ytpkfmbknbdlnpaa
