/-
  What Ops of package hist answers: the operations of an object, by their calls; nothing, and false, if what is told of it leads to none.
-/
import Derived.Test.YtpkjepbeeebdoaaDoorHistHolders
import Derived.Test.YtpkjepbeeebdoaaDoorHistOpsMath
import Derived.Test.YtpkjepbeeebdoaaDoorAnyStore
import Derived.Deep.RegionHeld
namespace Go.Proofs.YtpkjepbeeebdoaaDoor
open Go.RowKit

theorem dl_T {S : List (Int × Nat)} (hn : (S.map (·.1)).Nodup) (t : Int) : dlT S (dl mkI.eq t S) t := ⟨dl_nodup t hn, fun p => dl_mem eqI hn t p⟩
theorem OwnR.len {α : Type} {K : Kd α} {E : TypeId} {B : Nat} {w : World} {A : Option Addr} {n c : Nat} {l : List α} (hk : 0 < K.k) (h : OwnR K E B w A n c l) : l.length = n := (h.rw hk).len
section
variable {ops : Array Oper} {rest : List Oper} {o : Oper} {a : Act} {Q : Exit → Act → World → Prop} {w : World} {ρ : Nat} {S : List (Int × Nat)}
theorem wpList_lookI (hg : o.guard = none) (m x : Operand) (hop : o.op = Op.lookup 39 m x true)
    (h : Mp mkI w ρ S) (hm : a.eval m = .map (some ρ)) (k : Int) (hx : a.eval x = .int .i64 k) (v : Nat) (hv : mkI.got S k = v) (b : Bool) (hb : mkI.has S k = b)
    (hK : wpList Tryd.prog ops Q rest (a.put o.dst (.tuple #[.int .i64 (v : Int), .bool b])) w) : wpList Tryd.prog ops Q (o :: rest) a w := wpList_lookMp (M := mkI) hg m x hop h hm k hx v hv b hb hK
end
/-- What Ops answers. -/
def HOPost (l : List Hop) (b : Bool) (w : World) (e : Ending) (w' : World) : Prop :=
  ∃ A' n' c', e = .returned (.tuple #[.slice A' n' c', .bool b]) ∧ Rw hpK w' A' n' c' l ∧ Below w.heap.size w w'
theorem ho_none' {h : List Evt} {a : Int} (hb : hoB h a = false) : hoL h a = [] := by unfold hoL; rw [if_neg (by rw [hb]; decide)]
set_option maxHeartbeats 4000000 in
set_option maxRecDepth 4000 in
theorem hops_is (A : Option Addr) (n c : Nat) (l : List Evt) (a : Int) (w : World) (hn : n ≤ 1000) (h : Rw evK w A n c l) (hT : TabH w) :
    Calls Tryd.prog 6 #[.slice A n c, .int .i64 a] w (HOPost (hoL l a) (hoB l a) w) := by
  have H := Lib.hid h
  have HL := Lib.hid h.len
  have HT := Lib.hid hT
  have M0 := Lib.hid (Mp.made (M := mkI) w w.heap.size rfl)
  clear h hT
  have hmm := @run_makeMap Tryd.prog
  go_enter Tryd.func6, Tryd.ntmps6
  go_wp2
  go_loopw [6, 16] (fun v i wr => ∃ (j : Nat) (A' : Option Addr) (n' c' : Nat) (S : List (Int × Nat)), j ≤ n ∧ v = .slice A' n' c' ∧ i = .int .i64 j ∧ OwnR hpK 28 (w.heap.size + 1) wr A' n' c' (lkL l a j) ∧ Mp mkI wr w.heap.size S ∧ opn l a j S ∧ tld l a j ∧ Below w.heap.size w wr) (fun _ i _ => ((n : Int) - intOf i).toNat)
  case atStart => exact ⟨0, none, 0, 0, [], by omega, rfl, rfl, OwnR.nil _ _ _ _, M0.out, opn_zero l a, tld_zero l a, below_one _ _⟩
  case round =>
    obtain ⟨j, A', n', c', S, hj, rfl, rfl, ho, hm, hs, ht, hb⟩ := hrel
    have HB := Lib.hid hb
    have HS := Lib.hid hs
    have MP := Lib.hid hm
    have HD := Lib.hid ht
    have HLE := lk_le l a j
    have HLN := ho.len (by decide)
    obtain ⟨L, hL⟩ : ∃ L, lkL l a j = L := ⟨_, rfl⟩
    rw [hL] at ho HLE HLN
    have HO := Lib.hid ho
    have HLK := Lib.hid hL
    clear hb hs hm ht ho hL M0
    by_cases hlt : j < n
    · have hjl : j < l.length := by rw [HL.out]; exact hlt
      obtain ⟨xb, xo, rfl, hbl, f0, f1, f2, f3⟩ := ev_at (H.out.below HB.out) j hlt
      obtain ⟨x, hx⟩ : ∃ x, l.getD j ez = x := ⟨_, rfl⟩
      have HX := Lib.hid hx
      rw [hx] at f0 f1 f2 f3
      clear hx
      have HA' := Lib.hid (below_one wr (.cells #[.int .i64 x.t, .int .i64 x.k, .int .i64 x.a, .int .i64 x.v] 30))
      have hρ := MP.out.lt
      obtain ⟨r, hr⟩ : ∃ r, kR x.k = r := ⟨_, rfl⟩
      obtain ⟨s, o, f, d, b⟩ := r
      have hks := kR_s x.k
      rw [hr] at hks
      dsimp only at hks
      by_cases hc : 0 ≤ clK x.k
      · rw [if_pos hc] at hks
        subst hks
        have HCK : Hid (o = clK x.k) := Lib.hid (by have := (kR_call hc).2; rw [hr] at this; exact this)
        have HR := Lib.hid hr
        have HC0 := Lib.hid hc
        clear hr hc
        obtain ⟨S', hS'⟩ : ∃ S', dl mkI.eq x.t S = S' := ⟨_, rfl⟩
        have HDL : Hid (dlT S S' (l.getD j ez).t) := Lib.hid (by rw [HX.out, ← hS']; exact dl_T HS.out.1 x.t)
        have HS' := Lib.hid hS'
        clear hS'
        by_cases ha : x.a = a
        · have hne : (x.a != a) = false := by simp [ha]
          have HAA := Lib.hid ha
          clear ha
          have HC : Hid (mkI.has S' x.t = false) := Lib.hid (has_no eqI fun v hv => ((HDL.out.2 _).1 hv).2 (by rw [HX.out]))
          go_upto_region 7 with (go_at_call 11; (with_reducible refine (look_at x ⟨1, o, f, d, b⟩ HR.out _ ((HT.out.keep HB.out).keep HA'.out)).mono ?_); rintro z w1 ⟨rfl, hb⟩; have hz : wr.heap.size < w1.heap.size := (by have := hb.size; simp at this; omega); have P1 : Hid (Bk evK w1 wr.heap.size 30 x) := Lib.hid ((Bk.at_ (K := evK) wr _ x _ rfl _ rfl).keep hb); have HB1 := Lib.hid (HB.out.trans ((HA'.out.mono HB.out.size).trans (hb.mono (by have := HB.out.size; simp; omega)))); have M1 := Lib.hid ((MP.out.keep HA'.out).keep hb); have O1 := Lib.hid ((HO.out.keep HA'.out).keep hb); clear hb)
          have P3 := Lib.hid (Bk.at_ (K := rwK) w1 41 ⟨1, o, f, d, b⟩ (#[.int .i64 1, .int .i64 o, .int .i64 f, .int .i64 d, .bool b]) rfl _ rfl)
          have HB3 := Lib.hid (HB1.out.alloc HB1.out.size (.cells #[.int .i64 1, .int .i64 o, .int .i64 f, .int .i64 d, .bool b] 41))
          have P1 := Lib.hid (P1.out.alloc (.cells #[.int .i64 1, .int .i64 o, .int .i64 f, .int .i64 d, .bool b] 41))
          have M1 := Lib.hid (M1.out.keep (below_one w1 (.cells #[.int .i64 1, .int .i64 o, .int .i64 f, .int .i64 d, .bool b] 41)))
          have O1 := Lib.hid (O1.out.keep (below_one w1 (.cells #[.int .i64 1, .int .i64 o, .int .i64 f, .int .i64 d, .bool b] 41)))
          have hρ3 : w.heap.size ≠ w1.heap.size := by omega
          have hρ1 : w.heap.size ≠ wr.heap.size := by omega
          generalize w1.alloc (.cells #[.int .i64 1, .int .i64 o, .int .i64 f, .int .i64 d, .bool b] 41) = W at *
          generalize w1.heap.size = b3 at *
          have t0 : W.cell? ⟨wr.heap.size, 0, none⟩ = some (.int .i64 x.t) := P1.out.cell 0
          have t1 : W.cell? ⟨wr.heap.size, 1, none⟩ = some (.int .i64 x.k) := P1.out.cell 1
          have t2 : W.cell? ⟨wr.heap.size, 2, none⟩ = some (.int .i64 x.a) := P1.out.cell 2
          have t3 : W.cell? ⟨wr.heap.size, 3, none⟩ = some (.int .i64 x.v) := P1.out.cell 3
          have r0 : W.cell? ⟨b3, 0, none⟩ = some (.int .i64 1) := P3.out.cell 0
          have r1 : W.cell? ⟨b3, 1, none⟩ = some (.int .i64 o) := P3.out.cell 1
          have r2 : W.cell? ⟨b3, 2, none⟩ = some (.int .i64 f) := P3.out.cell 2
          have r3 : W.cell? ⟨b3, 3, none⟩ = some (.int .i64 d) := P3.out.cell 3
          have r4 : W.cell? ⟨b3, 4, none⟩ = some (.bool b) := P3.out.cell 4
          go_wp2_with (first
            | (at_delete; refine wpList_delMp (M := mkI) rfl _ _ rfl M1.out rfl x.t rfl ?_; intro w4 hm4 hb4; have P1 := Lib.hid (hb4.bk P1.out hρ1.symm); have P3 := Lib.hid (hb4.bk P3.out hρ3.symm); have HB3 := Lib.hid (HB3.out.trans (hb4.below (Nat.le_refl _) HB3.out.size)); have O1 := Lib.hid (O1.out.but hb4 (Nat.lt_succ_self _)); have M1 : Hid (Mp mkI w4 w.heap.size S') := Lib.hid (HS'.out ▸ hm4); clear hm4 hb4; have t0 : _ = some (Value.int .i64 x.t) := P1.out.cell 0; have t1 : _ = some (Value.int .i64 x.k) := P1.out.cell 1; have t2 : _ = some (Value.int .i64 x.a) := P1.out.cell 2; have t3 : _ = some (Value.int .i64 x.v) := P1.out.cell 3; have r0 : _ = some (Value.int .i64 1) := P3.out.cell 0; have r1 : _ = some (Value.int .i64 o) := P3.out.cell 1; have r2 : _ = some (Value.int .i64 f) := P3.out.cell 2; have r3 : _ = some (Value.int .i64 d) := P3.out.cell 3; have r4 : _ = some (Value.bool b) := P3.out.cell 4)
            | (at_mapUpdate; refine wpList_putMp (M := mkI) rfl _ _ _ rfl M1.out rfl x.t rfl n' rfl HC.out ?_; intro w4 hm4 hb4; have P1 := Lib.hid (hb4.bk P1.out hρ1.symm); have P3 := Lib.hid (hb4.bk P3.out hρ3.symm); have HB3 := Lib.hid (HB3.out.trans (hb4.below (Nat.le_refl _) HB3.out.size)); have O1 := Lib.hid (O1.out.but hb4 (Nat.lt_succ_self _)); have M1 : Hid (Mp mkI w4 w.heap.size (S' ++ [(x.t, n')])) := Lib.hid (hm4); clear hm4 hb4; have t0 : _ = some (Value.int .i64 x.t) := P1.out.cell 0; have t1 : _ = some (Value.int .i64 x.k) := P1.out.cell 1; have t2 : _ = some (Value.int .i64 x.a) := P1.out.cell 2; have t3 : _ = some (Value.int .i64 x.v) := P1.out.cell 3; have r0 : _ = some (Value.int .i64 1) := P3.out.cell 0; have r1 : _ = some (Value.int .i64 o) := P3.out.cell 1; have r2 : _ = some (Value.int .i64 f) := P3.out.cell 2; have r3 : _ = some (Value.int .i64 d) := P3.out.cell 3; have r4 : _ = some (Value.bool b) := P3.out.cell 4)
            | (at_builtin; refine wpList_appRw ktHp (B := w.heap.size + 1) rfl (.tmp 44) (.tmp 53) rfl rfl rfl (by have := HB3.out.size; have := M1.out.lt; simp; omega) (O1.out.keep (below_one _ (.cells #[.int .i64 x.t, .int .i64 o, .int .i64 x.v, .int .i64 0, .bool false, .int .i64 (j : Int), .int .i64 (-1)] 28))) (Rw.new (K := hpK) _ 28 [(⟨x.t, o, x.v, 0, false, (j : Int), -1⟩ : Hop)] 1 rfl _ rfl _ rfl) (by omega) ?_; intro A5 c5 w5 hw5 hb5; have O5 := Lib.hid hw5; have M5 := Lib.hid ((M1.out.keep (below_one _ (.cells #[.int .i64 x.t, .int .i64 o, .int .i64 x.v, .int .i64 0, .bool false, .int .i64 (j : Int), .int .i64 (-1)] 28))).keepB hb5 (Nat.lt_succ_self _)); have HB5 := Lib.hid ((HB3.out.alloc HB3.out.size (.cells #[.int .i64 x.t, .int .i64 o, .int .i64 x.v, .int .i64 0, .bool false, .int .i64 (j : Int), .int .i64 (-1)] 28)).trans (hb5.mono (Nat.le_succ _))); clear hw5 hb5))
          go_roundw
          case rel => exact ⟨j + 1, A5, n' + 1, c5, S' ++ [(x.t, n')], by omega, rfl, by go_num, O5.out.as (by rw [lk_call hjl (by rw [HX.out]; exact HAA.out) (by rw [HX.out]; exact HC0.out), HLK.out, HX.out, HCK.out]), M5.out, by have := opn_call hjl HS.out HDL.out (by rw [HX.out]; exact HC0.out) (by rw [HX.out]; exact HAA.out); rw [HX.out, HLK.out, HLN] at this; exact this, tld_more HD.out (fun _ => .inl (by rw [HX.out]; exact HC0.out)), HB5.out⟩
          case measure => simp [intOf]; omega
        · have hne : (x.a != a) = true := by simp [ha]
          have HAA := Lib.hid ha
          clear ha
          go_upto_region 7 with (go_at_call 11; (with_reducible refine (look_at x ⟨1, o, f, d, b⟩ HR.out _ ((HT.out.keep HB.out).keep HA'.out)).mono ?_); rintro z w1 ⟨rfl, hb⟩; have hz : wr.heap.size < w1.heap.size := (by have := hb.size; simp at this; omega); have P1 : Hid (Bk evK w1 wr.heap.size 30 x) := Lib.hid ((Bk.at_ (K := evK) wr _ x _ rfl _ rfl).keep hb); have HB1 := Lib.hid (HB.out.trans ((HA'.out.mono HB.out.size).trans (hb.mono (by have := HB.out.size; simp; omega)))); have M1 := Lib.hid ((MP.out.keep HA'.out).keep hb); have O1 := Lib.hid ((HO.out.keep HA'.out).keep hb); clear hb)
          have P3 := Lib.hid (Bk.at_ (K := rwK) w1 41 ⟨1, o, f, d, b⟩ (#[.int .i64 1, .int .i64 o, .int .i64 f, .int .i64 d, .bool b]) rfl _ rfl)
          have HB3 := Lib.hid (HB1.out.alloc HB1.out.size (.cells #[.int .i64 1, .int .i64 o, .int .i64 f, .int .i64 d, .bool b] 41))
          have P1 := Lib.hid (P1.out.alloc (.cells #[.int .i64 1, .int .i64 o, .int .i64 f, .int .i64 d, .bool b] 41))
          have M1 := Lib.hid (M1.out.keep (below_one w1 (.cells #[.int .i64 1, .int .i64 o, .int .i64 f, .int .i64 d, .bool b] 41)))
          have O1 := Lib.hid (O1.out.keep (below_one w1 (.cells #[.int .i64 1, .int .i64 o, .int .i64 f, .int .i64 d, .bool b] 41)))
          have hρ3 : w.heap.size ≠ w1.heap.size := by omega
          have hρ1 : w.heap.size ≠ wr.heap.size := by omega
          generalize w1.alloc (.cells #[.int .i64 1, .int .i64 o, .int .i64 f, .int .i64 d, .bool b] 41) = W at *
          generalize w1.heap.size = b3 at *
          have t0 : W.cell? ⟨wr.heap.size, 0, none⟩ = some (.int .i64 x.t) := P1.out.cell 0
          have t1 : W.cell? ⟨wr.heap.size, 1, none⟩ = some (.int .i64 x.k) := P1.out.cell 1
          have t2 : W.cell? ⟨wr.heap.size, 2, none⟩ = some (.int .i64 x.a) := P1.out.cell 2
          have t3 : W.cell? ⟨wr.heap.size, 3, none⟩ = some (.int .i64 x.v) := P1.out.cell 3
          have r0 : W.cell? ⟨b3, 0, none⟩ = some (.int .i64 1) := P3.out.cell 0
          have r1 : W.cell? ⟨b3, 1, none⟩ = some (.int .i64 o) := P3.out.cell 1
          have r2 : W.cell? ⟨b3, 2, none⟩ = some (.int .i64 f) := P3.out.cell 2
          have r3 : W.cell? ⟨b3, 3, none⟩ = some (.int .i64 d) := P3.out.cell 3
          have r4 : W.cell? ⟨b3, 4, none⟩ = some (.bool b) := P3.out.cell 4
          go_wp2_with (first
            | (at_delete; refine wpList_delMp (M := mkI) rfl _ _ rfl M1.out rfl x.t rfl ?_; intro w4 hm4 hb4; have P1 := Lib.hid (hb4.bk P1.out hρ1.symm); have P3 := Lib.hid (hb4.bk P3.out hρ3.symm); have HB3 := Lib.hid (HB3.out.trans (hb4.below (Nat.le_refl _) HB3.out.size)); have O1 := Lib.hid (O1.out.but hb4 (Nat.lt_succ_self _)); have M1 : Hid (Mp mkI w4 w.heap.size S') := Lib.hid (HS'.out ▸ hm4); clear hm4 hb4; have t0 : _ = some (Value.int .i64 x.t) := P1.out.cell 0; have t1 : _ = some (Value.int .i64 x.k) := P1.out.cell 1; have t2 : _ = some (Value.int .i64 x.a) := P1.out.cell 2; have t3 : _ = some (Value.int .i64 x.v) := P1.out.cell 3; have r0 : _ = some (Value.int .i64 1) := P3.out.cell 0; have r1 : _ = some (Value.int .i64 o) := P3.out.cell 1; have r2 : _ = some (Value.int .i64 f) := P3.out.cell 2; have r3 : _ = some (Value.int .i64 d) := P3.out.cell 3; have r4 : _ = some (Value.bool b) := P3.out.cell 4))
          go_roundw
          case rel => exact ⟨j + 1, A', n', c', S', by omega, rfl, by go_num, O1.out.as (by rw [← HLK.out]; exact ((opn_away hjl HS.out HDL.out (by rw [HX.out]; exact HC0.out) (by rw [HX.out]; exact HAA.out)).1).symm), M1.out, (opn_away hjl HS.out HDL.out (by rw [HX.out]; exact HC0.out) (by rw [HX.out]; exact HAA.out)).2, tld_more HD.out (fun _ => .inl (by rw [HX.out]; exact HC0.out)), HB3.out⟩
          case measure => simp [intOf]; omega
      · rw [if_neg hc] at hks
        have HC0 : Hid (clK (l.getD j ez).k < 0) := Lib.hid (by rw [HX.out]; omega)
        by_cases ha : x.a = a
        · have hne : (x.a != a) = false := by simp [ha]
          have HAA : Hid ((l.getD j ez).a = a) := Lib.hid (by rw [HX.out]; exact ha)
          clear ha
          by_cases hbk : 0 ≤ rtK x.k
          · rw [if_pos hbk] at hks
            subst hks
            have HK := Lib.hid (kR_back hbk)
            have HK2 := Lib.hid (kR_ok (e := x) hbk)
            rw [hr] at HK HK2
            dsimp only at HK HK2
            have HR := Lib.hid hr
            clear hr hc hbk
            cases hcb : mkI.has S x.t
            · have HC := Lib.hid hcb
              have HNO : Hid (hoB l a = false) := Lib.hid (told_none hjl HS.out HC0.out HAA.out fun q hq => by
                rw [HX.out] at hq
                have := (has_iff eqI S x.t).2 ⟨q, hq⟩
                rw [HC.out] at this
                cases this)
              clear hcb
              obtain ⟨q0, hq0⟩ : ∃ q0, mkI.got S x.t = q0 := ⟨_, rfl⟩
              have HQ0 := Lib.hid hq0
              clear hq0
              go_upto_region 7 with (go_at_call 11; (with_reducible refine (look_at x ⟨2, o, f, d, b⟩ HR.out _ ((HT.out.keep HB.out).keep HA'.out)).mono ?_); rintro z w1 ⟨rfl, hb⟩; have hz : wr.heap.size < w1.heap.size := (by have := hb.size; simp at this; omega); have P1 : Hid (Bk evK w1 wr.heap.size 30 x) := Lib.hid ((Bk.at_ (K := evK) wr _ x _ rfl _ rfl).keep hb); have HB1 := Lib.hid (HB.out.trans ((HA'.out.mono HB.out.size).trans (hb.mono (by have := HB.out.size; simp; omega)))); have M1 := Lib.hid ((MP.out.keep HA'.out).keep hb); have O1 := Lib.hid ((HO.out.keep HA'.out).keep hb); clear hb)
              have P3 := Lib.hid (Bk.at_ (K := rwK) w1 41 ⟨2, o, f, d, b⟩ (#[.int .i64 2, .int .i64 o, .int .i64 f, .int .i64 d, .bool b]) rfl _ rfl)
              have HB3 := Lib.hid (HB1.out.alloc HB1.out.size (.cells #[.int .i64 2, .int .i64 o, .int .i64 f, .int .i64 d, .bool b] 41))
              have P1 := Lib.hid (P1.out.alloc (.cells #[.int .i64 2, .int .i64 o, .int .i64 f, .int .i64 d, .bool b] 41))
              have M1 := Lib.hid (M1.out.keep (below_one w1 (.cells #[.int .i64 2, .int .i64 o, .int .i64 f, .int .i64 d, .bool b] 41)))
              have O1 := Lib.hid (O1.out.keep (below_one w1 (.cells #[.int .i64 2, .int .i64 o, .int .i64 f, .int .i64 d, .bool b] 41)))
              have hρ3 : w.heap.size ≠ w1.heap.size := by omega
              have hρ1 : w.heap.size ≠ wr.heap.size := by omega
              generalize w1.alloc (.cells #[.int .i64 2, .int .i64 o, .int .i64 f, .int .i64 d, .bool b] 41) = W at *
              generalize w1.heap.size = b3 at *
              have t0 : W.cell? ⟨wr.heap.size, 0, none⟩ = some (.int .i64 x.t) := P1.out.cell 0
              have t1 : W.cell? ⟨wr.heap.size, 1, none⟩ = some (.int .i64 x.k) := P1.out.cell 1
              have t2 : W.cell? ⟨wr.heap.size, 2, none⟩ = some (.int .i64 x.a) := P1.out.cell 2
              have t3 : W.cell? ⟨wr.heap.size, 3, none⟩ = some (.int .i64 x.v) := P1.out.cell 3
              have r0 : W.cell? ⟨b3, 0, none⟩ = some (.int .i64 2) := P3.out.cell 0
              have r1 : W.cell? ⟨b3, 1, none⟩ = some (.int .i64 o) := P3.out.cell 1
              have r2 : W.cell? ⟨b3, 2, none⟩ = some (.int .i64 f) := P3.out.cell 2
              have r3 : W.cell? ⟨b3, 3, none⟩ = some (.int .i64 d) := P3.out.cell 3
              have r4 : W.cell? ⟨b3, 4, none⟩ = some (.bool b) := P3.out.cell 4
              go_upto_region 18 with ((at_lookup; refine wpList_lookI rfl _ _ rfl M1.out rfl x.t rfl q0 HQ0.out false HC.out ?_))
              go_quiet (fail)
              go_wp2
              refine bodyPost_ret (v := .tuple #[.slice none 0 0, .bool false]) ?_ rfl ⟨none, 0, 0, by rw [HNO.out], Rw.nil.as (ho_none' HNO.out).symm, belowN HB3.out _⟩
              simp [results, Tryd.results6, go_sem]
            · have HC := Lib.hid hcb
              obtain ⟨q, hqm⟩ := (has_iff eqI S x.t).1 hcb
              have HG := Lib.hid (got_of eqI HS.out.1 hqm)
              have HQM := Lib.hid hqm
              obtain ⟨S', hS'⟩ : ∃ S', dl mkI.eq x.t S = S' := ⟨_, rfl⟩
              have HDL : Hid (dlT S S' (l.getD j ez).t) := Lib.hid (by rw [HX.out, ← hS']; exact dl_T HS.out.1 x.t)
              have HS' := Lib.hid hS'
              obtain ⟨i, hij, hia, hic, hbk2, hq, hge, hop, hnx, hopn⟩ := opn_back hjl HS.out HDL.out HC0.out HAA.out (by rw [HX.out]; exact hqm)
              rw [HLK.out] at hq hge hnx
              rw [HLN] at hq
              obtain ⟨y, hy⟩ : ∃ y, l.getD i ez = y := ⟨_, rfl⟩
              have HY := Lib.hid hy
              rw [hy] at hge hop hic
              rw [HX.out] at hop
              have HGE := Lib.hid hge
              have HBK := Lib.hid hbk2
              have HIC : Hid (0 ≤ clK (l.getD i ez).k) := Lib.hid (by rw [hy]; exact hic)
              have HOP := Lib.hid hopn
              clear hcb hqm hS' hia hge hbk2 hopn hy
              have hin : i < n := by omega
              have hi0 : (i : Int) < (n : Int) := by omega
              have hi1 : (0 : Int) ≤ (i : Int) := by omega
              have hq1 : (0 : Int) ≤ (q : Int) := by omega
              have hq0 : (q : Int) < (n' : Int) := by omega
              obtain ⟨g, rfl, hg1, hg2, hfz⟩ := HO.out.free (show 0 < n' by omega)
              have hiff := HK.out.2.2.2 y.k hic
              by_cases hyk : y.k = f
              · have hyn : (y.k != f) = false := by simp [hyk]
                have hn0 : decide (x.v ≠ 0) = (x.v != 0) := by by_cases h : x.v = 0 <;> simp [h]
                have HCR : Hid (clK (l.getD i ez).k = rtK (l.getD j ez).k) := Lib.hid (by rw [HX.out, HY.out]; exact hiff.1 hyk)
                obtain ⟨Y, hYY⟩ : ∃ Y, (d == 2 || (d == 1 && x.v != 0)) = Y := ⟨_, rfl⟩
                obtain ⟨X, hXX⟩ : ∃ X, (if b then x.v else (0 : Int)) = X := ⟨_, rfl⟩
                have HNX : Hid (L.set q (⟨y.t, clK y.k, y.v, X, Y, (i : Int), (j : Int)⟩ : Hop) = lkL l a (j + 1)) := Lib.hid (by rw [hnx, hop, HK2.out.1, HK2.out.2, hn0, ← hXX, ← hYY])
                have HYY := Lib.hid hYY
                have HXX := Lib.hid hXX
                clear hYY hXX hnx hop hyk hiff hic hn0
                go_upto_region 7 with (go_at_call 11; (with_reducible refine (look_at x ⟨2, o, f, d, b⟩ HR.out _ ((HT.out.keep HB.out).keep HA'.out)).mono ?_); rintro z w1 ⟨rfl, hb⟩; have hz : wr.heap.size < w1.heap.size := (by have := hb.size; simp at this; omega); have P1 : Hid (Bk evK w1 wr.heap.size 30 x) := Lib.hid ((Bk.at_ (K := evK) wr _ x _ rfl _ rfl).keep hb); have HB1 := Lib.hid (HB.out.trans ((HA'.out.mono HB.out.size).trans (hb.mono (by have := HB.out.size; simp; omega)))); have M1 := Lib.hid ((MP.out.keep HA'.out).keep hb); have O1 := Lib.hid ((HO.out.keep HA'.out).keep hb); clear hb)
                have P3 := Lib.hid (Bk.at_ (K := rwK) w1 41 ⟨2, o, f, d, b⟩ (#[.int .i64 2, .int .i64 o, .int .i64 f, .int .i64 d, .bool b]) rfl _ rfl)
                have HB3 := Lib.hid (HB1.out.alloc HB1.out.size (.cells #[.int .i64 2, .int .i64 o, .int .i64 f, .int .i64 d, .bool b] 41))
                have P1 := Lib.hid (P1.out.alloc (.cells #[.int .i64 2, .int .i64 o, .int .i64 f, .int .i64 d, .bool b] 41))
                have M1 := Lib.hid (M1.out.keep (below_one w1 (.cells #[.int .i64 2, .int .i64 o, .int .i64 f, .int .i64 d, .bool b] 41)))
                have O1 := Lib.hid (O1.out.keep (below_one w1 (.cells #[.int .i64 2, .int .i64 o, .int .i64 f, .int .i64 d, .bool b] 41)))
                have hρ3 : w.heap.size ≠ w1.heap.size := by omega
                have hρ1 : w.heap.size ≠ wr.heap.size := by omega
                generalize w1.alloc (.cells #[.int .i64 2, .int .i64 o, .int .i64 f, .int .i64 d, .bool b] 41) = W at *
                generalize w1.heap.size = b3 at *
                have t0 : W.cell? ⟨wr.heap.size, 0, none⟩ = some (.int .i64 x.t) := P1.out.cell 0
                have t1 : W.cell? ⟨wr.heap.size, 1, none⟩ = some (.int .i64 x.k) := P1.out.cell 1
                have t2 : W.cell? ⟨wr.heap.size, 2, none⟩ = some (.int .i64 x.a) := P1.out.cell 2
                have t3 : W.cell? ⟨wr.heap.size, 3, none⟩ = some (.int .i64 x.v) := P1.out.cell 3
                have r0 : W.cell? ⟨b3, 0, none⟩ = some (.int .i64 2) := P3.out.cell 0
                have r1 : W.cell? ⟨b3, 1, none⟩ = some (.int .i64 o) := P3.out.cell 1
                have r2 : W.cell? ⟨b3, 2, none⟩ = some (.int .i64 f) := P3.out.cell 2
                have r3 : W.cell? ⟨b3, 3, none⟩ = some (.int .i64 d) := P3.out.cell 3
                have r4 : W.cell? ⟨b3, 4, none⟩ = some (.bool b) := P3.out.cell 4
                obtain ⟨gb_, go_, ge_, _, m0, m1, m2, m3, m4, m5, m6⟩ := hp_at (O1.out.rw (by decide)) q hq
                cases ge_
                rw [Nat.zero_add] at m0 m1 m2 m3 m4 m5 m6
                rw [HGE.out] at m0 m1 m2 m3 m4 m5 m6
                dsimp only at m0 m1 m2 m3 m4 m5 m6
                obtain ⟨eb_, eo_, ee_, _, u0, u1, u2, u3⟩ := ev_at (H.out.below HB3.out) i hin
                cases ee_
                rw [HY.out] at u0 u1 u2 u3
                go_upto_region 18 with ((at_lookup; refine wpList_lookI rfl _ _ rfl M1.out rfl x.t rfl q HG.out true HC.out ?_))
                go_quiet (fail)
                go_upto_region 20 with (fail)
                have DW := Lib.hid (belowN (Below.refl W.heap.size W) nq)
                have P1 := Lib.hid (P1.out.keep DW.out)
                have P3 := Lib.hid (P3.out.keep DW.out)
                have M1 := Lib.hid (M1.out.keep DW.out)
                have O1 := Lib.hid (O1.out.keep DW.out)
                have HB3 := Lib.hid (HB3.out.trans (DW.out.mono HB3.out.size))
                generalize W.drewN nq = W2 at *
                have t0 : W2.cell? ⟨wr.heap.size, 0, none⟩ = some (.int .i64 x.t) := P1.out.cell 0
                have t1 : W2.cell? ⟨wr.heap.size, 1, none⟩ = some (.int .i64 x.k) := P1.out.cell 1
                have t2 : W2.cell? ⟨wr.heap.size, 2, none⟩ = some (.int .i64 x.a) := P1.out.cell 2
                have t3 : W2.cell? ⟨wr.heap.size, 3, none⟩ = some (.int .i64 x.v) := P1.out.cell 3
                have r0 : W2.cell? ⟨b3, 0, none⟩ = some (.int .i64 2) := P3.out.cell 0
                have r1 : W2.cell? ⟨b3, 1, none⟩ = some (.int .i64 o) := P3.out.cell 1
                have r2 : W2.cell? ⟨b3, 2, none⟩ = some (.int .i64 f) := P3.out.cell 2
                have r3 : W2.cell? ⟨b3, 3, none⟩ = some (.int .i64 d) := P3.out.cell 3
                have r4 : W2.cell? ⟨b3, 4, none⟩ = some (.bool b) := P3.out.cell 4
                go_upto_region 21 with ((at_delete; refine wpList_delMp (M := mkI) rfl _ _ rfl M1.out rfl x.t rfl ?_; intro w4 hm4 hb4; have P1 := Lib.hid (hb4.bk P1.out hρ1.symm); have P3 := Lib.hid (hb4.bk P3.out hρ3.symm); have HB3 := Lib.hid (HB3.out.trans (hb4.below (Nat.le_refl _) HB3.out.size)); have O1 := Lib.hid (O1.out.but hb4 (Nat.lt_succ_self _)); have M1 : Hid (Mp mkI w4 w.heap.size S') := Lib.hid (HS'.out ▸ hm4); clear hm4 hb4; have t0 : _ = some (Value.int .i64 x.t) := P1.out.cell 0; have t1 : _ = some (Value.int .i64 x.k) := P1.out.cell 1; have t2 : _ = some (Value.int .i64 x.a) := P1.out.cell 2; have t3 : _ = some (Value.int .i64 x.v) := P1.out.cell 3; have r0 : _ = some (Value.int .i64 2) := P3.out.cell 0; have r1 : _ = some (Value.int .i64 o) := P3.out.cell 1; have r2 : _ = some (Value.int .i64 f) := P3.out.cell 2; have r3 : _ = some (Value.int .i64 d) := P3.out.cell 3; have r4 : _ = some (Value.bool b) := P3.out.cell 4))
                have HT4 : Hid (TabH w4.drew) := Lib.hid (HT.out.keep (HB3.out.drew))
                have O4 := Lib.hid (O1.out.keep (Below.refl _ w4).drew)
                have M4 := Lib.hid (M1.out.keep (Below.refl _ w4).drew)
                have HB4 := Lib.hid HB3.out.drew
                clear m0 m1 m2 m3 m4 m5 m6
                obtain ⟨gb_, go_, ge_, _, m0, m1, m2, m3, m4, m5, m6⟩ := hp_at (O1.out.rw (by decide)) q hq
                cases ge_
                rw [Nat.zero_add] at m0 m1 m2 m3 m4 m5 m6
                rw [HGE.out] at m0 m1 m2 m3 m4 m5 m6
                dsimp only at m0 m1 m2 m3 m4 m5 m6
                have hHeld0 : (fun _ : World => True) w4.drew := trivial
                refine wp_region_held_drew (S := fun _ : World => True) (by kernel_rfl) hHeld0 (fun hHeld => ?_)
                clear hHeld0
                refine wpAnyH_take (i := 0) (oi := { dst := some 83, op := Op.move (Operand.tmp 6), type := 24, pos := "hist.go:49", after := #[], guard := none }) (v := ?_) rfl (by kernel_rfl) (by kernel_rfl) (by kernel_rfl) (fun _ _ _ h => h) (Or.inl ⟨by kernel_rfl, ?_⟩) hHeld ?_
                rotate_left
                · intro w9 hSw; (try dsimp only at hSw); go_simp; try with_reducible rfl
                simp only [Act.put, List.setIfInBounds_toArray, List.set_cons_zero, List.set_cons_succ]
                refine wpAnyH_take (i := 1) (oi := { dst := some 84, op := Op.move (Operand.tmp 11), type := 3, pos := "hist.go:49", after := #[], guard := none }) (v := ?_) rfl (by kernel_rfl) (by kernel_rfl) (by kernel_rfl) (fun _ _ _ h => h) (Or.inl ⟨by kernel_rfl, ?_⟩) hHeld ?_
                rotate_left
                · intro w9 hSw; (try dsimp only at hSw); go_simp; try with_reducible rfl
                simp only [Act.put, List.setIfInBounds_toArray, List.set_cons_zero, List.set_cons_succ]
                refine wpAnyH_take (i := 2) (oi := { dst := some 85, op := Op.move (Operand.tmp 6), type := 24, pos := "hist.go:49", after := #[], guard := none }) (v := ?_) rfl (by kernel_rfl) (by kernel_rfl) (by kernel_rfl) (fun _ _ _ h => h) (Or.inl ⟨by kernel_rfl, ?_⟩) hHeld ?_
                rotate_left
                · intro w9 hSw; (try dsimp only at hSw); go_simp; try with_reducible rfl
                simp only [Act.put, List.setIfInBounds_toArray, List.set_cons_zero, List.set_cons_succ]
                refine wpAnyH_take (i := 3) (oi := { dst := some 86, op := Op.move (Operand.tmp 11), type := 3, pos := "hist.go:49", after := #[], guard := none }) (v := ?_) rfl (by kernel_rfl) (by kernel_rfl) (by kernel_rfl) (fun _ _ _ h => h) (Or.inl ⟨by kernel_rfl, ?_⟩) hHeld ?_
                rotate_left
                · intro w9 hSw; (try dsimp only at hSw); go_simp; try with_reducible rfl
                simp only [Act.put, List.setIfInBounds_toArray, List.set_cons_zero, List.set_cons_succ]
                refine wpAnyH_take (i := 4) (oi := { dst := some 87, op := Op.indexAddr 24 (Operand.tmp 85) (Operand.tmp 86), type := 0, pos := "hist.go:49", after := #[{ on := 2, ground := Ground.data }, { on := 3, ground := Ground.data }], guard := none }) (v := ?_) rfl (by kernel_rfl) (by kernel_rfl) (by kernel_rfl) (fun _ _ _ h => h) (Or.inl ⟨by kernel_rfl, ?_⟩) hHeld ?_
                rotate_left
                · intro w9 hSw; (try dsimp only at hSw); go_simp; try with_reducible rfl
                simp only [Act.put, List.setIfInBounds_toArray, List.set_cons_zero, List.set_cons_succ]
                refine wpAnyH_take (i := 7) (oi := { dst := some 90, op := Op.move (Operand.tmp 8), type := 3, pos := "hist.go:49", after := #[], guard := none }) (v := ?_) rfl (by kernel_rfl) (by kernel_rfl) (by kernel_rfl) (fun _ _ _ h => h) (Or.inl ⟨by kernel_rfl, ?_⟩) hHeld ?_
                rotate_left
                · intro w9 hSw; (try dsimp only at hSw); go_simp; try with_reducible rfl
                simp only [Act.put, List.setIfInBounds_toArray, List.set_cons_zero, List.set_cons_succ]
                refine wpAnyH_ready (rs := [5, 6]) (by kernel_rfl) (by simp) ?_
                refine AllReadyH.cons (o := { dst := some 88, op := Op.load 28 (Operand.tmp 87), type := 28, pos := "hist.go:49", after := #[{ on := 4, ground := Ground.data }], guard := none }) rfl (fun K hK => ?_) (AllReadyH.cons (o := { dst := some 89, op := Op.load 30 (Operand.tmp 9), type := 30, pos := "hist.go:49", after := #[], guard := none }) rfl (fun K hK => ?_) (AllReadyH.nil))
                · go_simp
                  refine hK.out _ _ trivial (fun hHeld => ?_)
                  clear hK K
                  try simp only [Act.put, List.setIfInBounds_toArray, List.set_cons_zero, List.set_cons_succ]
                  refine wpAnyH_ready (rs := [6]) (by kernel_rfl) (by simp) ?_
                  refine AllReadyH.cons (o := { dst := some 89, op := Op.load 30 (Operand.tmp 9), type := 30, pos := "hist.go:49", after := #[], guard := none }) rfl (fun K hK => ?_) (AllReadyH.nil)
                  go_simp
                  refine hK.out _ _ trivial (fun hHeld => ?_)
                  clear hK K
                  try simp only [Act.put, List.setIfInBounds_toArray, List.set_cons_zero, List.set_cons_succ]
                  refine wpAnyH_ready (rs := [8]) (by kernel_rfl) (by simp) ?_
                  refine AllReadyH.cons (o := { dst := some 91, op := Op.call { callee := Callee.value (Operand.func 12), args := #[Operand.tmp 88, Operand.tmp 89, Operand.tmp 90], argTypes := #[28, 30, 3] }, type := 28, pos := "hist.go:49", after := #[{ on := 5, ground := Ground.data }, { on := 6, ground := Ground.data }, { on := 7, ground := Ground.data }], guard := none }) rfl (fun K hK => ?_) (AllReadyH.nil)
                  go_simp
                  refine (returned_at (⟨y.t, clK y.k, y.v, 0, false, (i : Int), -1⟩ : Hop) x (j : Int) ⟨2, o, f, d, b⟩ HR.out Y HYY.out X HXX.out _ HT4.out).mono ?_; rintro z7 w7 ⟨rfl, hb⟩; have O7 := Lib.hid (O4.out.keep hb); have M7 := Lib.hid (M4.out.keep hb); have HB7 := Lib.hid (HB4.out.trans (hb.mono HB4.out.size)); clear hb
                  refine hK.out _ _ trivial (fun hHeld => ?_)
                  clear hK K
                  obtain ⟨g3, e3, hg4, hg5, hfz7⟩ := O7.out.free (show 0 < n' by omega)
                  cases e3
                  obtain ⟨gb_, go_, ge_, _, d0, d1, d2, d3, d4, d5, d6⟩ := hp_at (O7.out.rw (by decide)) q hq
                  cases ge_
                  rw [Nat.zero_add] at d0 d1 d2 d3 d4 d5 d6
                  rw [HGE.out] at d0 d1 d2 d3 d4 d5 d6
                  dsimp only at d0 d1 d2 d3 d4 d5 d6
                  refine wpAnyH_take (i := 9) (oi := { dst := some 92, op := Op.indexAddr 24 (Operand.tmp 83) (Operand.tmp 84), type := 0, pos := "hist.go:49", after := #[{ on := 0, ground := Ground.data }, { on := 1, ground := Ground.data }, { on := 0, ground := Ground.phase }, { on := 1, ground := Ground.phase }, { on := 2, ground := Ground.phase }, { on := 3, ground := Ground.phase }, { on := 4, ground := Ground.phase }, { on := 5, ground := Ground.phase }, { on := 6, ground := Ground.phase }, { on := 7, ground := Ground.phase }, { on := 8, ground := Ground.phase }], guard := none }) (v := ?_) rfl (by kernel_rfl) (by kernel_rfl) (by kernel_rfl) (fun _ _ _ h => h) (Or.inl ⟨by kernel_rfl, ?_⟩) hHeld ?_
                  rotate_left
                  · intro w9 hSw; (try dsimp only at hSw); go_simp; try with_reducible rfl
                  simp only [Act.put, List.setIfInBounds_toArray, List.set_cons_zero, List.set_cons_succ]
                  have HTH : Hid (w7.there g (q * 7) 7) := Lib.hid (fun i hi => ⟨by match i, hi with | 0, _ => (show (w7.cell? _).isSome = true; rw [Nat.add_zero, d0]; rfl) | 1, _ => (show (w7.cell? _).isSome = true; rw [d1]; rfl) | 2, _ => (show (w7.cell? _).isSome = true; rw [d2]; rfl) | 3, _ => (show (w7.cell? _).isSome = true; rw [d3]; rfl) | 4, _ => (show (w7.cell? _).isSome = true; rw [d4]; rfl) | 5, _ => (show (w7.cell? _).isSome = true; rw [d5]; rfl) | 6, _ => (show (w7.cell? _).isSome = true; rw [d6]; rfl), hfz7 _⟩)
                  have P5 : Hid (OwnR hpK 28 (w.heap.size + 1) (w7.setCells g (q * 7) [.int .i64 y.t, .int .i64 (clK y.k), .int .i64 y.v, .int .i64 X, .bool Y, .int .i64 (i : Int), .int .i64 (j : Int)]) (some ⟨g, 0, none⟩) n' c' (L.set q (⟨y.t, clK y.k, y.v, X, Y, (i : Int), (j : Int)⟩ : Hop))) := Lib.hid (by have := OwnR.put O7.out q hq HLN (⟨y.t, clK y.k, y.v, X, Y, (i : Int), (j : Int)⟩ : Hop); rw [setW_cells] at this; exact this)
                  have B5 : Hid (Below (w.heap.size + 1) w7 (w7.setCells g (q * 7) [.int .i64 y.t, .int .i64 (clK y.k), .int .i64 y.v, .int .i64 X, .bool Y, .int .i64 (i : Int), .int .i64 (j : Int)])) := Lib.hid (by have := setW_below (Below.refl (w.heap.size + 1) w7) hg1 (q * 7) (hpK.v (⟨y.t, clK y.k, y.v, X, Y, (i : Int), (j : Int)⟩ : Hop)); rw [setW_cells] at this; exact this)
                  have M8 := Lib.hid (M7.out.keepB B5.out (Nat.lt_succ_self _))
                  have HB8 := Lib.hid (HB7.out.trans (B5.out.mono (Nat.le_succ _)))
                  refine wpAnyH_ready (rs := [10]) (by kernel_rfl) (by simp) ?_
                  refine AllReadyH.cons (o := { dst := none, op := Op.store 28 (Operand.tmp 92) (Operand.tmp 91), type := 0, pos := "hist.go:49", after := #[{ on := 9, ground := Ground.data }, { on := 8, ground := Ground.data }, { on := 8, ground := Ground.chain }, { on := 0, ground := Ground.phase }, { on := 1, ground := Ground.phase }, { on := 2, ground := Ground.phase }, { on := 3, ground := Ground.phase }, { on := 4, ground := Ground.phase }, { on := 5, ground := Ground.phase }, { on := 6, ground := Ground.phase }, { on := 7, ground := Ground.phase }, { on := 8, ground := Ground.phase }], guard := none }) rfl (fun K hK => ?_) (AllReadyH.nil)
                  refine step_store rfl 28 (.tmp 92) (.tmp 91) rfl g (q * 7) #[.int .i64 y.t, .int .i64 (clK y.k), .int .i64 y.v, .int .i64 X, .bool Y, .int .i64 (i : Int), .int .i64 (j : Int)] rfl rfl HTH.out (by kernel_rfl) (all_oneCell_toArray (cs := [.int .i64 y.t, .int .i64 (clK y.k), .int .i64 y.v, .int .i64 X, .bool Y, .int .i64 (i : Int), .int .i64 (j : Int)]) (fun v hv => hpK.one (⟨y.t, clK y.k, y.v, X, Y, (i : Int), (j : Int)⟩ : Hop) v hv)) ?_
                  refine hK.out _ _ trivial (fun hHeld => ?_)
                  clear hK K
                  simp only [Act.put]
                  refine wpAnyH_done (by kernel_rfl) ?_ _
                  generalize w7.setCells g (q * 7) [.int .i64 y.t, .int .i64 (clK y.k), .int .i64 y.v, .int .i64 X, .bool Y, .int .i64 (i : Int), .int .i64 (j : Int)] = W8 at *
                  clear d0 d1 d2 d3 d4 d5 d6
                  go_wp2
                  go_roundw
                  case rel => exact ⟨j + 1, some ⟨g, 0, none⟩, n', c', S', by omega, rfl, by go_num, P5.out.as HNX.out, M8.out, HOP.out, tld_more HD.out (fun _ => .inr ⟨i, hij, HIC.out, HBK.out, HCR.out⟩), HB8.out⟩
                  case measure => simp [intOf]; omega
                · go_simp
                  refine hK.out _ _ trivial (fun hHeld => ?_)
                  clear hK K
                  try simp only [Act.put, List.setIfInBounds_toArray, List.set_cons_zero, List.set_cons_succ]
                  refine wpAnyH_ready (rs := [5]) (by kernel_rfl) (by simp) ?_
                  refine AllReadyH.cons (o := { dst := some 88, op := Op.load 28 (Operand.tmp 87), type := 28, pos := "hist.go:49", after := #[{ on := 4, ground := Ground.data }], guard := none }) rfl (fun K hK => ?_) (AllReadyH.nil)
                  go_simp
                  refine hK.out _ _ trivial (fun hHeld => ?_)
                  clear hK K
                  try simp only [Act.put, List.setIfInBounds_toArray, List.set_cons_zero, List.set_cons_succ]
                  refine wpAnyH_ready (rs := [8]) (by kernel_rfl) (by simp) ?_
                  refine AllReadyH.cons (o := { dst := some 91, op := Op.call { callee := Callee.value (Operand.func 12), args := #[Operand.tmp 88, Operand.tmp 89, Operand.tmp 90], argTypes := #[28, 30, 3] }, type := 28, pos := "hist.go:49", after := #[{ on := 5, ground := Ground.data }, { on := 6, ground := Ground.data }, { on := 7, ground := Ground.data }], guard := none }) rfl (fun K hK => ?_) (AllReadyH.nil)
                  go_simp
                  refine (returned_at (⟨y.t, clK y.k, y.v, 0, false, (i : Int), -1⟩ : Hop) x (j : Int) ⟨2, o, f, d, b⟩ HR.out Y HYY.out X HXX.out _ HT4.out).mono ?_; rintro z7 w7 ⟨rfl, hb⟩; have O7 := Lib.hid (O4.out.keep hb); have M7 := Lib.hid (M4.out.keep hb); have HB7 := Lib.hid (HB4.out.trans (hb.mono HB4.out.size)); clear hb
                  refine hK.out _ _ trivial (fun hHeld => ?_)
                  clear hK K
                  obtain ⟨g3, e3, hg4, hg5, hfz7⟩ := O7.out.free (show 0 < n' by omega)
                  cases e3
                  obtain ⟨gb_, go_, ge_, _, d0, d1, d2, d3, d4, d5, d6⟩ := hp_at (O7.out.rw (by decide)) q hq
                  cases ge_
                  rw [Nat.zero_add] at d0 d1 d2 d3 d4 d5 d6
                  rw [HGE.out] at d0 d1 d2 d3 d4 d5 d6
                  dsimp only at d0 d1 d2 d3 d4 d5 d6
                  refine wpAnyH_take (i := 9) (oi := { dst := some 92, op := Op.indexAddr 24 (Operand.tmp 83) (Operand.tmp 84), type := 0, pos := "hist.go:49", after := #[{ on := 0, ground := Ground.data }, { on := 1, ground := Ground.data }, { on := 0, ground := Ground.phase }, { on := 1, ground := Ground.phase }, { on := 2, ground := Ground.phase }, { on := 3, ground := Ground.phase }, { on := 4, ground := Ground.phase }, { on := 5, ground := Ground.phase }, { on := 6, ground := Ground.phase }, { on := 7, ground := Ground.phase }, { on := 8, ground := Ground.phase }], guard := none }) (v := ?_) rfl (by kernel_rfl) (by kernel_rfl) (by kernel_rfl) (fun _ _ _ h => h) (Or.inl ⟨by kernel_rfl, ?_⟩) hHeld ?_
                  rotate_left
                  · intro w9 hSw; (try dsimp only at hSw); go_simp; try with_reducible rfl
                  simp only [Act.put, List.setIfInBounds_toArray, List.set_cons_zero, List.set_cons_succ]
                  have HTH : Hid (w7.there g (q * 7) 7) := Lib.hid (fun i hi => ⟨by match i, hi with | 0, _ => (show (w7.cell? _).isSome = true; rw [Nat.add_zero, d0]; rfl) | 1, _ => (show (w7.cell? _).isSome = true; rw [d1]; rfl) | 2, _ => (show (w7.cell? _).isSome = true; rw [d2]; rfl) | 3, _ => (show (w7.cell? _).isSome = true; rw [d3]; rfl) | 4, _ => (show (w7.cell? _).isSome = true; rw [d4]; rfl) | 5, _ => (show (w7.cell? _).isSome = true; rw [d5]; rfl) | 6, _ => (show (w7.cell? _).isSome = true; rw [d6]; rfl), hfz7 _⟩)
                  have P5 : Hid (OwnR hpK 28 (w.heap.size + 1) (w7.setCells g (q * 7) [.int .i64 y.t, .int .i64 (clK y.k), .int .i64 y.v, .int .i64 X, .bool Y, .int .i64 (i : Int), .int .i64 (j : Int)]) (some ⟨g, 0, none⟩) n' c' (L.set q (⟨y.t, clK y.k, y.v, X, Y, (i : Int), (j : Int)⟩ : Hop))) := Lib.hid (by have := OwnR.put O7.out q hq HLN (⟨y.t, clK y.k, y.v, X, Y, (i : Int), (j : Int)⟩ : Hop); rw [setW_cells] at this; exact this)
                  have B5 : Hid (Below (w.heap.size + 1) w7 (w7.setCells g (q * 7) [.int .i64 y.t, .int .i64 (clK y.k), .int .i64 y.v, .int .i64 X, .bool Y, .int .i64 (i : Int), .int .i64 (j : Int)])) := Lib.hid (by have := setW_below (Below.refl (w.heap.size + 1) w7) hg1 (q * 7) (hpK.v (⟨y.t, clK y.k, y.v, X, Y, (i : Int), (j : Int)⟩ : Hop)); rw [setW_cells] at this; exact this)
                  have M8 := Lib.hid (M7.out.keepB B5.out (Nat.lt_succ_self _))
                  have HB8 := Lib.hid (HB7.out.trans (B5.out.mono (Nat.le_succ _)))
                  refine wpAnyH_ready (rs := [10]) (by kernel_rfl) (by simp) ?_
                  refine AllReadyH.cons (o := { dst := none, op := Op.store 28 (Operand.tmp 92) (Operand.tmp 91), type := 0, pos := "hist.go:49", after := #[{ on := 9, ground := Ground.data }, { on := 8, ground := Ground.data }, { on := 8, ground := Ground.chain }, { on := 0, ground := Ground.phase }, { on := 1, ground := Ground.phase }, { on := 2, ground := Ground.phase }, { on := 3, ground := Ground.phase }, { on := 4, ground := Ground.phase }, { on := 5, ground := Ground.phase }, { on := 6, ground := Ground.phase }, { on := 7, ground := Ground.phase }, { on := 8, ground := Ground.phase }], guard := none }) rfl (fun K hK => ?_) (AllReadyH.nil)
                  refine step_store rfl 28 (.tmp 92) (.tmp 91) rfl g (q * 7) #[.int .i64 y.t, .int .i64 (clK y.k), .int .i64 y.v, .int .i64 X, .bool Y, .int .i64 (i : Int), .int .i64 (j : Int)] rfl rfl HTH.out (by kernel_rfl) (all_oneCell_toArray (cs := [.int .i64 y.t, .int .i64 (clK y.k), .int .i64 y.v, .int .i64 X, .bool Y, .int .i64 (i : Int), .int .i64 (j : Int)]) (fun v hv => hpK.one (⟨y.t, clK y.k, y.v, X, Y, (i : Int), (j : Int)⟩ : Hop) v hv)) ?_
                  refine hK.out _ _ trivial (fun hHeld => ?_)
                  clear hK K
                  simp only [Act.put]
                  refine wpAnyH_done (by kernel_rfl) ?_ _
                  generalize w7.setCells g (q * 7) [.int .i64 y.t, .int .i64 (clK y.k), .int .i64 y.v, .int .i64 X, .bool Y, .int .i64 (i : Int), .int .i64 (j : Int)] = W8 at *
                  clear d0 d1 d2 d3 d4 d5 d6
                  go_wp2
                  go_roundw
                  case rel => exact ⟨j + 1, some ⟨g, 0, none⟩, n', c', S', by omega, rfl, by go_num, P5.out.as HNX.out, M8.out, HOP.out, tld_more HD.out (fun _ => .inr ⟨i, hij, HIC.out, HBK.out, HCR.out⟩), HB8.out⟩
                  case measure => simp [intOf]; omega
              · have hyn : (y.k != f) = true := by simp [hyk]
                have HNO : Hid (hoB l a = false) := Lib.hid (told_none hjl HS.out HC0.out HAA.out fun q' hq' => by
                  rw [HX.out] at hq' ⊢
                  have := one_of eqI HS.out.1 hq' HQM.out
                  subst this
                  rw [HLK.out, HGE.out]
                  simp only [Int.toNat_natCast]
                  rw [HY.out]
                  exact fun h => hyk (hiff.2 h))
                clear hnx hop hyk hiff hic
                go_upto_region 7 with (go_at_call 11; (with_reducible refine (look_at x ⟨2, o, f, d, b⟩ HR.out _ ((HT.out.keep HB.out).keep HA'.out)).mono ?_); rintro z w1 ⟨rfl, hb⟩; have hz : wr.heap.size < w1.heap.size := (by have := hb.size; simp at this; omega); have P1 : Hid (Bk evK w1 wr.heap.size 30 x) := Lib.hid ((Bk.at_ (K := evK) wr _ x _ rfl _ rfl).keep hb); have HB1 := Lib.hid (HB.out.trans ((HA'.out.mono HB.out.size).trans (hb.mono (by have := HB.out.size; simp; omega)))); have M1 := Lib.hid ((MP.out.keep HA'.out).keep hb); have O1 := Lib.hid ((HO.out.keep HA'.out).keep hb); clear hb)
                have P3 := Lib.hid (Bk.at_ (K := rwK) w1 41 ⟨2, o, f, d, b⟩ (#[.int .i64 2, .int .i64 o, .int .i64 f, .int .i64 d, .bool b]) rfl _ rfl)
                have HB3 := Lib.hid (HB1.out.alloc HB1.out.size (.cells #[.int .i64 2, .int .i64 o, .int .i64 f, .int .i64 d, .bool b] 41))
                have P1 := Lib.hid (P1.out.alloc (.cells #[.int .i64 2, .int .i64 o, .int .i64 f, .int .i64 d, .bool b] 41))
                have M1 := Lib.hid (M1.out.keep (below_one w1 (.cells #[.int .i64 2, .int .i64 o, .int .i64 f, .int .i64 d, .bool b] 41)))
                have O1 := Lib.hid (O1.out.keep (below_one w1 (.cells #[.int .i64 2, .int .i64 o, .int .i64 f, .int .i64 d, .bool b] 41)))
                have hρ3 : w.heap.size ≠ w1.heap.size := by omega
                have hρ1 : w.heap.size ≠ wr.heap.size := by omega
                generalize w1.alloc (.cells #[.int .i64 2, .int .i64 o, .int .i64 f, .int .i64 d, .bool b] 41) = W at *
                generalize w1.heap.size = b3 at *
                have t0 : W.cell? ⟨wr.heap.size, 0, none⟩ = some (.int .i64 x.t) := P1.out.cell 0
                have t1 : W.cell? ⟨wr.heap.size, 1, none⟩ = some (.int .i64 x.k) := P1.out.cell 1
                have t2 : W.cell? ⟨wr.heap.size, 2, none⟩ = some (.int .i64 x.a) := P1.out.cell 2
                have t3 : W.cell? ⟨wr.heap.size, 3, none⟩ = some (.int .i64 x.v) := P1.out.cell 3
                have r0 : W.cell? ⟨b3, 0, none⟩ = some (.int .i64 2) := P3.out.cell 0
                have r1 : W.cell? ⟨b3, 1, none⟩ = some (.int .i64 o) := P3.out.cell 1
                have r2 : W.cell? ⟨b3, 2, none⟩ = some (.int .i64 f) := P3.out.cell 2
                have r3 : W.cell? ⟨b3, 3, none⟩ = some (.int .i64 d) := P3.out.cell 3
                have r4 : W.cell? ⟨b3, 4, none⟩ = some (.bool b) := P3.out.cell 4
                obtain ⟨gb_, go_, ge_, _, m0, m1, m2, m3, m4, m5, m6⟩ := hp_at (O1.out.rw (by decide)) q hq
                cases ge_
                rw [Nat.zero_add] at m0 m1 m2 m3 m4 m5 m6
                rw [HGE.out] at m0 m1 m2 m3 m4 m5 m6
                dsimp only at m0 m1 m2 m3 m4 m5 m6
                obtain ⟨eb_, eo_, ee_, _, u0, u1, u2, u3⟩ := ev_at (H.out.below HB3.out) i hin
                cases ee_
                rw [HY.out] at u0 u1 u2 u3
                go_upto_region 18 with ((at_lookup; refine wpList_lookI rfl _ _ rfl M1.out rfl x.t rfl q HG.out true HC.out ?_))
                go_quiet (fail)
                go_wp2
                refine bodyPost_ret (v := .tuple #[.slice none 0 0, .bool false]) ?_ rfl ⟨none, 0, 0, by rw [HNO.out], Rw.nil.as (ho_none' HNO.out).symm, belowN HB3.out _⟩
                simp [results, Tryd.results6, go_sem]
          · rw [if_neg hbk] at hks
            subst hks
            have HNO : Hid (hoB l a = false) := Lib.hid (told_none hjl HS.out HC0.out HAA.out fun q hq => by
              obtain ⟨i, _, _, _, h4, _, _, h7⟩ := (HS.out.2 _ _).1 hq
              rw [h7, HX.out]
              simp only [Int.toNat_natCast]
              omega)
            have HR := Lib.hid hr
            clear hr hc hbk
            go_upto_region 7 with (go_at_call 11; (with_reducible refine (look_at x ⟨0, o, f, d, b⟩ HR.out _ ((HT.out.keep HB.out).keep HA'.out)).mono ?_); rintro z w1 ⟨rfl, hb⟩; have hz : wr.heap.size < w1.heap.size := (by have := hb.size; simp at this; omega); have P1 : Hid (Bk evK w1 wr.heap.size 30 x) := Lib.hid ((Bk.at_ (K := evK) wr _ x _ rfl _ rfl).keep hb); have HB1 := Lib.hid (HB.out.trans ((HA'.out.mono HB.out.size).trans (hb.mono (by have := HB.out.size; simp; omega)))); have M1 := Lib.hid ((MP.out.keep HA'.out).keep hb); have O1 := Lib.hid ((HO.out.keep HA'.out).keep hb); clear hb)
            have P3 := Lib.hid (Bk.at_ (K := rwK) w1 41 ⟨0, o, f, d, b⟩ (#[.int .i64 0, .int .i64 o, .int .i64 f, .int .i64 d, .bool b]) rfl _ rfl)
            have HB3 := Lib.hid (HB1.out.alloc HB1.out.size (.cells #[.int .i64 0, .int .i64 o, .int .i64 f, .int .i64 d, .bool b] 41))
            have P1 := Lib.hid (P1.out.alloc (.cells #[.int .i64 0, .int .i64 o, .int .i64 f, .int .i64 d, .bool b] 41))
            have M1 := Lib.hid (M1.out.keep (below_one w1 (.cells #[.int .i64 0, .int .i64 o, .int .i64 f, .int .i64 d, .bool b] 41)))
            have O1 := Lib.hid (O1.out.keep (below_one w1 (.cells #[.int .i64 0, .int .i64 o, .int .i64 f, .int .i64 d, .bool b] 41)))
            have hρ3 : w.heap.size ≠ w1.heap.size := by omega
            have hρ1 : w.heap.size ≠ wr.heap.size := by omega
            generalize w1.alloc (.cells #[.int .i64 0, .int .i64 o, .int .i64 f, .int .i64 d, .bool b] 41) = W at *
            generalize w1.heap.size = b3 at *
            have t0 : W.cell? ⟨wr.heap.size, 0, none⟩ = some (.int .i64 x.t) := P1.out.cell 0
            have t1 : W.cell? ⟨wr.heap.size, 1, none⟩ = some (.int .i64 x.k) := P1.out.cell 1
            have t2 : W.cell? ⟨wr.heap.size, 2, none⟩ = some (.int .i64 x.a) := P1.out.cell 2
            have t3 : W.cell? ⟨wr.heap.size, 3, none⟩ = some (.int .i64 x.v) := P1.out.cell 3
            have r0 : W.cell? ⟨b3, 0, none⟩ = some (.int .i64 0) := P3.out.cell 0
            have r1 : W.cell? ⟨b3, 1, none⟩ = some (.int .i64 o) := P3.out.cell 1
            have r2 : W.cell? ⟨b3, 2, none⟩ = some (.int .i64 f) := P3.out.cell 2
            have r3 : W.cell? ⟨b3, 3, none⟩ = some (.int .i64 d) := P3.out.cell 3
            have r4 : W.cell? ⟨b3, 4, none⟩ = some (.bool b) := P3.out.cell 4
            go_wp2
            refine bodyPost_ret (v := .tuple #[.slice none 0 0, .bool false]) ?_ rfl ⟨none, 0, 0, by rw [HNO.out], Rw.nil.as (ho_none' HNO.out).symm, HB3.out⟩
            simp [results, Tryd.results6, go_sem]
        · have hne : (x.a != a) = true := by simp [ha]
          have HAA : Hid ((l.getD j ez).a ≠ a) := Lib.hid (by rw [HX.out]; exact ha)
          clear ha
          by_cases hbk : 0 ≤ rtK x.k
          · rw [if_pos hbk] at hks
            subst hks
            have HR := Lib.hid hr
            clear hr hc hbk
            go_upto_region 7 with (go_at_call 11; (with_reducible refine (look_at x ⟨2, o, f, d, b⟩ HR.out _ ((HT.out.keep HB.out).keep HA'.out)).mono ?_); rintro z w1 ⟨rfl, hb⟩; have hz : wr.heap.size < w1.heap.size := (by have := hb.size; simp at this; omega); have P1 : Hid (Bk evK w1 wr.heap.size 30 x) := Lib.hid ((Bk.at_ (K := evK) wr _ x _ rfl _ rfl).keep hb); have HB1 := Lib.hid (HB.out.trans ((HA'.out.mono HB.out.size).trans (hb.mono (by have := HB.out.size; simp; omega)))); have M1 := Lib.hid ((MP.out.keep HA'.out).keep hb); have O1 := Lib.hid ((HO.out.keep HA'.out).keep hb); clear hb)
            have P3 := Lib.hid (Bk.at_ (K := rwK) w1 41 ⟨2, o, f, d, b⟩ (#[.int .i64 2, .int .i64 o, .int .i64 f, .int .i64 d, .bool b]) rfl _ rfl)
            have HB3 := Lib.hid (HB1.out.alloc HB1.out.size (.cells #[.int .i64 2, .int .i64 o, .int .i64 f, .int .i64 d, .bool b] 41))
            have P1 := Lib.hid (P1.out.alloc (.cells #[.int .i64 2, .int .i64 o, .int .i64 f, .int .i64 d, .bool b] 41))
            have M1 := Lib.hid (M1.out.keep (below_one w1 (.cells #[.int .i64 2, .int .i64 o, .int .i64 f, .int .i64 d, .bool b] 41)))
            have O1 := Lib.hid (O1.out.keep (below_one w1 (.cells #[.int .i64 2, .int .i64 o, .int .i64 f, .int .i64 d, .bool b] 41)))
            have hρ3 : w.heap.size ≠ w1.heap.size := by omega
            have hρ1 : w.heap.size ≠ wr.heap.size := by omega
            generalize w1.alloc (.cells #[.int .i64 2, .int .i64 o, .int .i64 f, .int .i64 d, .bool b] 41) = W at *
            generalize w1.heap.size = b3 at *
            have t0 : W.cell? ⟨wr.heap.size, 0, none⟩ = some (.int .i64 x.t) := P1.out.cell 0
            have t1 : W.cell? ⟨wr.heap.size, 1, none⟩ = some (.int .i64 x.k) := P1.out.cell 1
            have t2 : W.cell? ⟨wr.heap.size, 2, none⟩ = some (.int .i64 x.a) := P1.out.cell 2
            have t3 : W.cell? ⟨wr.heap.size, 3, none⟩ = some (.int .i64 x.v) := P1.out.cell 3
            have r0 : W.cell? ⟨b3, 0, none⟩ = some (.int .i64 2) := P3.out.cell 0
            have r1 : W.cell? ⟨b3, 1, none⟩ = some (.int .i64 o) := P3.out.cell 1
            have r2 : W.cell? ⟨b3, 2, none⟩ = some (.int .i64 f) := P3.out.cell 2
            have r3 : W.cell? ⟨b3, 3, none⟩ = some (.int .i64 d) := P3.out.cell 3
            have r4 : W.cell? ⟨b3, 4, none⟩ = some (.bool b) := P3.out.cell 4
            go_wp2
            go_roundw
            case rel => exact ⟨j + 1, A', n', c', S, by omega, rfl, by go_num, O1.out.as (by rw [← HLK.out]; exact ((opn_other hjl HS.out HC0.out HAA.out).1).symm), M1.out, (opn_other hjl HS.out HC0.out HAA.out).2, tld_more HD.out (fun h => absurd h HAA.out), HB3.out⟩
            case measure => simp [intOf]; omega
          · rw [if_neg hbk] at hks
            subst hks
            have HR := Lib.hid hr
            clear hr hc hbk
            go_upto_region 7 with (go_at_call 11; (with_reducible refine (look_at x ⟨0, o, f, d, b⟩ HR.out _ ((HT.out.keep HB.out).keep HA'.out)).mono ?_); rintro z w1 ⟨rfl, hb⟩; have hz : wr.heap.size < w1.heap.size := (by have := hb.size; simp at this; omega); have P1 : Hid (Bk evK w1 wr.heap.size 30 x) := Lib.hid ((Bk.at_ (K := evK) wr _ x _ rfl _ rfl).keep hb); have HB1 := Lib.hid (HB.out.trans ((HA'.out.mono HB.out.size).trans (hb.mono (by have := HB.out.size; simp; omega)))); have M1 := Lib.hid ((MP.out.keep HA'.out).keep hb); have O1 := Lib.hid ((HO.out.keep HA'.out).keep hb); clear hb)
            have P3 := Lib.hid (Bk.at_ (K := rwK) w1 41 ⟨0, o, f, d, b⟩ (#[.int .i64 0, .int .i64 o, .int .i64 f, .int .i64 d, .bool b]) rfl _ rfl)
            have HB3 := Lib.hid (HB1.out.alloc HB1.out.size (.cells #[.int .i64 0, .int .i64 o, .int .i64 f, .int .i64 d, .bool b] 41))
            have P1 := Lib.hid (P1.out.alloc (.cells #[.int .i64 0, .int .i64 o, .int .i64 f, .int .i64 d, .bool b] 41))
            have M1 := Lib.hid (M1.out.keep (below_one w1 (.cells #[.int .i64 0, .int .i64 o, .int .i64 f, .int .i64 d, .bool b] 41)))
            have O1 := Lib.hid (O1.out.keep (below_one w1 (.cells #[.int .i64 0, .int .i64 o, .int .i64 f, .int .i64 d, .bool b] 41)))
            have hρ3 : w.heap.size ≠ w1.heap.size := by omega
            have hρ1 : w.heap.size ≠ wr.heap.size := by omega
            generalize w1.alloc (.cells #[.int .i64 0, .int .i64 o, .int .i64 f, .int .i64 d, .bool b] 41) = W at *
            generalize w1.heap.size = b3 at *
            have t0 : W.cell? ⟨wr.heap.size, 0, none⟩ = some (.int .i64 x.t) := P1.out.cell 0
            have t1 : W.cell? ⟨wr.heap.size, 1, none⟩ = some (.int .i64 x.k) := P1.out.cell 1
            have t2 : W.cell? ⟨wr.heap.size, 2, none⟩ = some (.int .i64 x.a) := P1.out.cell 2
            have t3 : W.cell? ⟨wr.heap.size, 3, none⟩ = some (.int .i64 x.v) := P1.out.cell 3
            have r0 : W.cell? ⟨b3, 0, none⟩ = some (.int .i64 0) := P3.out.cell 0
            have r1 : W.cell? ⟨b3, 1, none⟩ = some (.int .i64 o) := P3.out.cell 1
            have r2 : W.cell? ⟨b3, 2, none⟩ = some (.int .i64 f) := P3.out.cell 2
            have r3 : W.cell? ⟨b3, 3, none⟩ = some (.int .i64 d) := P3.out.cell 3
            have r4 : W.cell? ⟨b3, 4, none⟩ = some (.bool b) := P3.out.cell 4
            go_wp2
            go_roundw
            case rel => exact ⟨j + 1, A', n', c', S, by omega, rfl, by go_num, O1.out.as (by rw [← HLK.out]; exact ((opn_other hjl HS.out HC0.out HAA.out).1).symm), M1.out, (opn_other hjl HS.out HC0.out HAA.out).2, tld_more HD.out (fun h => absurd h HAA.out), HB3.out⟩
            case measure => simp [intOf]; omega
    · obtain rfl : j = n := by omega
      have HE : Hid (hoB l a = true) := Lib.hid (tld_end (by rw [HL.out]; exact HD.out))
      have HE2 : Hid (L = hoL l a) := Lib.hid (by rw [← HLK.out, ← lkL_done HE.out, HL.out])
      go_wp2
      refine bodyPost_ret (v := .tuple #[.slice A' n' c', .bool true]) ?_ rfl ⟨A', n', c', by rw [HE.out], (HO.out.rw (by decide)).as HE2.out, HB.out⟩
      simp [results, Tryd.results6, go_sem]
end Go.Proofs.YtpkjepbeeebdoaaDoor
