/-
  What package queue answers of Put.
-/
import Derived.Test.YtoklocbdifefcaaQueueOut
namespace Go.Proofs.Ytoklocbdifefcaa
open Go.RowKit

theorem skP {w w9 : World} {g i : Nat} {T T' : TypeId} {N : Int} {A : Option Addr} {n c : Nat} {x : It} (h : Below w.heap.size w w9) (Q : Qv w9 g T N A n c) (X : Iv w9 i T' x) :
    Below w.heap.size w w9 ∧ (w9.cell? ⟨g, 0, none⟩ = some (.int .i64 N) ∧ w9.cell? ⟨g, 1, none⟩ = some (.slice A n c)) ∧ (w9.cell? ⟨i, 0, none⟩ = some (.int .i64 x.d) ∧ w9.cell? ⟨i, 1, none⟩ = some (.int .i64 x.p) ∧ w9.cell? ⟨i, 2, none⟩ = some (.int .i64 x.t)) := ⟨h, ⟨Q.c0, Q.c1⟩, X.c0, X.c1, X.c2⟩
/-- A queue that a call hands back, and whether it did it. -/
def Q2Post (A : Option Addr) (n : Nat) (N : Int) (l : List It) (b : Bool) (w : World) (e : Ending) (w' : World) : Prop :=
  ∃ A' n' c', e = .returned (.tuple #[.agg #[.int .i64 N, .slice A' n' c'], .bool b]) ∧ Its w' A' n' c' l ∧ Below w.heap.size w w' ∧ Born w A n A' n'
theorem pu_no {N : Int} {l : List It} {d p : Int} (h : puB N l d p = false) : puN N l d p = N ∧ puL N l d p = l := by unfold puN puL; rw [h]; exact ⟨rfl, rfl⟩
theorem pl_some {d : Int} {l : List It} (h : 0 ≤ plI d l) : ∃ o ∈ l, o.d = d := by
  unfold plI at h
  split at h
  · rename_i g
    have := pl_at d l g
    rw [getD_lt g] at this
    exact ⟨_, List.getElem_mem g, this⟩
  · omega
theorem pl_no {d : Int} {l : List It} (h : ¬ 0 ≤ plI d l) : plI d l = -1 ∧ ∀ o ∈ l, o.d ≠ d := by
  unfold plI at h ⊢
  split at h
  · omega
  · rename_i g
    rw [if_neg g]
    have := pl_le d l
    exact ⟨rfl, pl_none.1 (by omega)⟩
theorem bh_zero (d p t : Int) (l : List It) : bhA ⟨d, p, t⟩ l = bhA ⟨0, p, t⟩ l := by
  induction l with
  | nil => rfl
  | cons y l ih =>
    unfold bhA
    rw [ih]
    rfl
theorem pu_parts {N : Int} {l : List It} {d p : Int} (h0 : 0 ≤ N) : puB N l d p = (itB ⟨d, p, N⟩ (N + 1) && (!(N == 1099511627776) && decide (plI d l < 0))) := by
  rw [Bool.eq_iff_iff]
  simp only [Bool.and_eq_true, it_iff, decide_eq_true_eq, Bool.not_eq_true', beq_eq_false_iff_ne]
  unfold puB
  simp only [decide_eq_true_eq]
  constructor
  · rintro ⟨h1, h2, h3, h4, h5, h6⟩
    refine ⟨⟨h1, h2, h3, h4, h0, by omega⟩, h5, ?_⟩
    rcases Int.lt_or_le (plI d l) 0 with g | g
    · exact g
    · obtain ⟨o, ho, e⟩ := pl_some g
      exact absurd e (h6 o ho)
  · rintro ⟨⟨h1, h2, h3, h4, _, _⟩, h5, h6⟩
    exact ⟨h1, h2, h3, h4, h5, (pl_no (by omega)).2⟩
set_option maxHeartbeats 2000000 in
theorem put_is (N : Int) (A : Option Addr) (n c : Nat) (l : List It) (d p : Int) (w : World) (hn : n ≤ 4611686018427387904) (h : Its w A n c l) :
    Calls Try.prog 9 #[.agg #[.int .i64 N, .slice A n c], .int .i64 d, .int .i64 p] w (Q2Post A n (puN (tkN N l) (tkL N l) d p) (puL (tkN N l) (tkL N l) d p) (puB (tkN N l) (tkL N l) d p) w) := by
  have X0 := Lib.hid ((Qv.new w 28 N A n c).alloc (.cells #[.int .i64 0, .slice none 0 0] 28))
  have X1 := Lib.hid (Qv.at_ (w.alloc (.cells #[.int .i64 N, .slice A n c] 28)) 28 0 none 0 0 (w.heap.size + 1) (by simp))
  have HB := Lib.hid (two_new w (.cells #[.int .i64 N, .slice A n c] 28) (.cells #[.int .i64 0, .slice none 0 0] 28))
  have H0 := Lib.hid h
  have H := Lib.hid (h.below HB.out)
  have HL := Lib.hid h.len
  clear h
  have hsq := sq_tk N l
  obtain ⟨N1, hN1⟩ : ∃ x, tkN N l = x := ⟨_, rfl⟩
  obtain ⟨l1, hl1⟩ : ∃ x, tkL N l = x := ⟨_, rfl⟩
  rw [hN1, hl1] at hsq ⊢
  have HN1 := Lib.hid hN1
  have HL1 := Lib.hid hl1
  have HS := Lib.hid hsq
  have hN0 := hsq.1.1
  have hNm := hsq.1.2
  have hw : IntKind.i64.wrap (N1 + 1) = N1 + 1 := by rw [IntKind.wrap_i64]; omega
  clear hN1 hl1 hsq
  go_enter Try.func9, Try.ntmps9
  go_upto_region 1 with (fail)
  generalize (w.alloc (.cells #[.int .i64 N, .slice A n c] 28)).alloc (.cells #[.int .i64 0, .slice none 0 0] 28) = W at *
  have gs := HB.out.size
  have gl := X1.out.lt
  have qa := X0.out.c0; have qb := X0.out.c1; have qfa := X0.out.f 0; have qfb := X0.out.f 1; have ql := X0.out.lt; have y0 := X1.out.c0; have y1 := X1.out.c1; have yf0 := X1.out.f 0; have yf1 := X1.out.f 1; have yl := X1.out.lt
  have AP0 := Lib.hid (its_old H0.out (g := w.heap.size) (Nat.le_refl _))
  have AP1 := Lib.hid (its_old H0.out (g := w.heap.size + 1) (Nat.le_succ _))
  go_upto_region 2 with (go_at_call 25; refine (taken_at N A n c l N1 l1 _ hn H.out HN1.out HL1.out).mono ?_; rintro e w1 ⟨A1, n1, c1, rfl, hi, hb, hbo⟩; have HI := Lib.hid hi; have HO := Lib.hid hbo; clear hi hbo; have HB := Lib.hid (below_then HB.out hb); have H := Lib.hid (H.out.below hb); have X0 := Lib.hid (X0.out.keep hb); have X1 := Lib.hid (X1.out.keep hb); have BW := Lib.hid hb; clear hb; clear qa qb qfa qfb ql y0 y1 yf0 yf1 yl; have qa := X0.out.c0; have qb := X0.out.c1; have qfa := X0.out.f 0; have qfb := X0.out.f 1; have ql := X0.out.lt; have y0 := X1.out.c0; have y1 := X1.out.c1; have yf0 := X1.out.f 0; have yf1 := X1.out.f 1; have yl := X1.out.lt)
  have X0 := Lib.hid (X0.out.set N1 A1 n1 c1)
  have X1 := Lib.hid ((X1.out.other (p := ⟨w.heap.size, 0, none⟩) (by simp) (.int .i64 N1)).other (p := ⟨w.heap.size, 1, none⟩) (by simp) (.slice A1 n1 c1))
  have HB := Lib.hid (below_set (below_set HB.out (p := ⟨w.heap.size, 0, none⟩) (Nat.le_refl _) (.int .i64 N1)) (p := ⟨w.heap.size, 1, none⟩) (Nat.le_refl _) (.slice A1 n1 c1))
  have H := Lib.hid ((HI.out.set_ (HO.out _ (by omega) AP0.out) 0 (.int .i64 N1)).set_ (HO.out _ (by omega) AP0.out) 1 (.slice A1 n1 c1))
  have AQ1 := Lib.hid (HO.out _ (by omega) AP1.out)
  have BO : Hid (Born w A n A1 n1) := Lib.hid (Born.trans Born.same gs HO.out)
  generalize (w1.setCell ⟨w.heap.size, 0, none⟩ (.int .i64 N1)).setCell ⟨w.heap.size, 1, none⟩ (.slice A1 n1 c1) = W2 at *
  clear HI HO qa qb qfa qfb ql y0 y1 yf0 yf1 yl
  have hn1 : n1 ≤ 8 := by rw [← H.out.len]; exact HS.out.2.1
  have XX0 := X0
  have XX1 := X1
  have X2 := Lib.hid (Iv.new W2 59 ⟨d, p, N1⟩)
  have X0 := Lib.hid (X0.out.alloc (.cells #[.int .i64 d, .int .i64 p, .int .i64 N1] 59))
  have X1 := Lib.hid (X1.out.alloc (.cells #[.int .i64 d, .int .i64 p, .int .i64 N1] 59))
  have HB := Lib.hid (HB.out.alloc HB.out.size (.cells #[.int .i64 d, .int .i64 p, .int .i64 N1] 59))
  have H := Lib.hid (H.out.alloc (.cells #[.int .i64 d, .int .i64 p, .int .i64 N1] 59))
  have gm : w.heap.size + 1 < W2.heap.size := XX1.out.lt
  have qa := XX0.out.c0; have qb := XX0.out.c1; have ql := XX0.out.lt
  go_upto_region 3 with (fail)
  generalize W2.alloc (.cells #[.int .i64 d, .int .i64 p, .int .i64 N1] 59) = W3 at *
  clear qa qb ql XX0 XX1
  have qa := X0.out.c0; have qb := X0.out.c1; have qfa := X0.out.f 0; have qfb := X0.out.f 1; have ql := X0.out.lt; have y0 := X1.out.c0; have y1 := X1.out.c1; have yf0 := X1.out.f 0; have yf1 := X1.out.f 1; have yl := X1.out.lt; have ia := X2.out.c0; have ib := X2.out.c1; have ic := X2.out.c2
  have hpp := pu_parts (l := l1) (d := d) (p := p) hN0
  obtain ⟨v1, hv1⟩ : ∃ v, itB ⟨d, p, N1⟩ (N1 + 1) = v := ⟨_, rfl⟩
  obtain ⟨r, hr⟩ : ∃ r, plI d l1 = r := ⟨_, rfl⟩
  rw [hv1, hr] at hpp
  have HV1 := Lib.hid hv1
  have HR := Lib.hid hr
  clear hv1 hr
  cases v1
  · have hp : puB N1 l1 d p = false := by rw [hpp]; rfl
    have HP := Lib.hid hp
    clear hpp hp
    go_wp2_with (go_at_call 26; refine (isItem_is d p N1 (N1 + 1) _ HV1.out _).mono ?_; rintro e w2 ⟨rfl, hb⟩; have HB := Lib.hid (below_then HB.out hb); have H := Lib.hid (H.out.below hb); have X0 := Lib.hid (X0.out.keep hb); have X1 := Lib.hid (X1.out.keep hb); have X2 := Lib.hid (X2.out.keep hb); clear hb; clear qa qb qfa qfb ql y0 y1 yf0 yf1 yl ia ib ic; have qa := X0.out.c0; have qb := X0.out.c1; have qfa := X0.out.f 0; have qfb := X0.out.f 1; have ql := X0.out.lt; have y0 := X1.out.c0; have y1 := X1.out.c1; have yf0 := X1.out.f 0; have yf1 := X1.out.f 1; have yl := X1.out.lt; have ia := X2.out.c0; have ib := X2.out.c1; have ic := X2.out.c2; have Z := Lib.hid (X1.out.set N1 A1 n1 c1); have z0 := Z.out.c0; have z1 := Z.out.c1)
    refine bodyPost_ret (v := .tuple #[.agg #[.int .i64 N1, .slice A1 n1 c1], .bool false]) (by simp [results, Try.results9, go_sem, z0, z1]) rfl ⟨A1, n1, c1, by rw [(pu_no HP.out).1, HP.out], by rw [(pu_no HP.out).2]; exact (H.out.set_ AQ1.out 0 _).set_ AQ1.out 1 _, below_set (below_set HB.out (Nat.le_succ _) _) (Nat.le_succ _) _, BO.out⟩
  cases v2 : (N1 == 1099511627776)
  rotate_left
  · have hp : puB N1 l1 d p = false := by rw [hpp, v2]; simp
    have HP := Lib.hid hp
    clear hpp hp
    go_wp2_with (go_at_call 26; refine (isItem_is d p N1 (N1 + 1) _ HV1.out _).mono ?_; rintro e w2 ⟨rfl, hb⟩; have HB := Lib.hid (below_then HB.out hb); have H := Lib.hid (H.out.below hb); have X0 := Lib.hid (X0.out.keep hb); have X1 := Lib.hid (X1.out.keep hb); have X2 := Lib.hid (X2.out.keep hb); clear hb; clear qa qb qfa qfb ql y0 y1 yf0 yf1 yl ia ib ic; have qa := X0.out.c0; have qb := X0.out.c1; have qfa := X0.out.f 0; have qfb := X0.out.f 1; have ql := X0.out.lt; have y0 := X1.out.c0; have y1 := X1.out.c1; have yf0 := X1.out.f 0; have yf1 := X1.out.f 1; have yl := X1.out.lt; have ia := X2.out.c0; have ib := X2.out.c1; have ic := X2.out.c2; have Z := Lib.hid (X1.out.set N1 A1 n1 c1); have z0 := Z.out.c0; have z1 := Z.out.c1)
    refine bodyPost_ret (v := .tuple #[.agg #[.int .i64 N1, .slice A1 n1 c1], .bool false]) (by simp [results, Try.results9, go_sem, z0, z1]) rfl ⟨A1, n1, c1, by rw [(pu_no HP.out).1, HP.out], by rw [(pu_no HP.out).2]; exact (H.out.set_ AQ1.out 0 _).set_ AQ1.out 1 _, below_set (below_set HB.out (Nat.le_succ _) _) (Nat.le_succ _) _, BO.out⟩
  by_cases h3 : 0 ≤ r
  · have hp : puB N1 l1 d p = false := by rw [hpp, decide_eq_false (show ¬ r < 0 by omega)]; simp
    have HP := Lib.hid hp
    clear hpp hp
    go_wp2_with (first
      | (go_at_call 26; refine (isItem_is d p N1 (N1 + 1) _ HV1.out _).mono ?_; rintro e w2 ⟨rfl, hb⟩; have HB := Lib.hid (below_then HB.out hb); have H := Lib.hid (H.out.below hb); have X0 := Lib.hid (X0.out.keep hb); have X1 := Lib.hid (X1.out.keep hb); have X2 := Lib.hid (X2.out.keep hb); clear hb; clear qa qb qfa qfb ql y0 y1 yf0 yf1 yl ia ib ic; have qa := X0.out.c0; have qb := X0.out.c1; have qfa := X0.out.f 0; have qfb := X0.out.f 1; have ql := X0.out.lt; have y0 := X1.out.c0; have y1 := X1.out.c1; have yf0 := X1.out.f 0; have yf1 := X1.out.f 1; have yl := X1.out.lt; have ia := X2.out.c0; have ib := X2.out.c1; have ic := X2.out.c2)
      | (go_at_call 27; refine (place_is N1 A1 n1 c1 l1 d r _ (by omega) H.out HR.out).mono ?_; rintro e w4 ⟨rfl, hb⟩; have HB := Lib.hid (below_then HB.out hb); have H := Lib.hid (H.out.below hb); have X0 := Lib.hid (X0.out.keep hb); have X1 := Lib.hid (X1.out.keep hb); have X2 := Lib.hid (X2.out.keep hb); clear hb; clear qa qb qfa qfb ql y0 y1 yf0 yf1 yl ia ib ic; have qa := X0.out.c0; have qb := X0.out.c1; have qfa := X0.out.f 0; have qfb := X0.out.f 1; have ql := X0.out.lt; have y0 := X1.out.c0; have y1 := X1.out.c1; have yf0 := X1.out.f 0; have yf1 := X1.out.f 1; have yl := X1.out.lt; have ia := X2.out.c0; have ib := X2.out.c1; have ic := X2.out.c2; have Z := Lib.hid (X1.out.set N1 A1 n1 c1); have z0 := Z.out.c0; have z1 := Z.out.c1))
    refine bodyPost_ret (v := .tuple #[.agg #[.int .i64 N1, .slice A1 n1 c1], .bool false]) (by simp [results, Try.results9, go_sem, z0, z1]) rfl ⟨A1, n1, c1, by rw [(pu_no HP.out).1, HP.out], by rw [(pu_no HP.out).2]; exact (H.out.set_ AQ1.out 0 _).set_ AQ1.out 1 _, below_set (below_set HB.out (Nat.le_succ _) _) (Nat.le_succ _) _, BO.out⟩
  have hp : puB N1 l1 d p = true := by rw [hpp, v2, decide_eq_true (show r < 0 by omega)]; rfl
  have HP := Lib.hid hp
  clear hpp hp
  go_upto_region 5 with (first
      | (go_at_call 26; refine (isItem_is d p N1 (N1 + 1) _ HV1.out _).mono ?_; rintro e w2 ⟨rfl, hb⟩; have HB := Lib.hid (below_then HB.out hb); have H := Lib.hid (H.out.below hb); have X0 := Lib.hid (X0.out.keep hb); have X1 := Lib.hid (X1.out.keep hb); have X2 := Lib.hid (X2.out.keep hb); clear hb; clear qa qb qfa qfb ql y0 y1 yf0 yf1 yl ia ib ic; have qa := X0.out.c0; have qb := X0.out.c1; have qfa := X0.out.f 0; have qfb := X0.out.f 1; have ql := X0.out.lt; have y0 := X1.out.c0; have y1 := X1.out.c1; have yf0 := X1.out.f 0; have yf1 := X1.out.f 1; have yl := X1.out.lt; have ia := X2.out.c0; have ib := X2.out.c1; have ic := X2.out.c2)
      | (go_at_call 27; refine (place_is N1 A1 n1 c1 l1 d r _ (by omega) H.out HR.out).mono ?_; rintro e w4 ⟨rfl, hb⟩; have HB := Lib.hid (below_then HB.out hb); have H := Lib.hid (H.out.below hb); have X0 := Lib.hid (X0.out.keep hb); have X1 := Lib.hid (X1.out.keep hb); have X2 := Lib.hid (X2.out.keep hb); clear hb; clear qa qb qfa qfb ql y0 y1 yf0 yf1 yl ia ib ic; have qa := X0.out.c0; have qb := X0.out.c1; have qfa := X0.out.f 0; have qfb := X0.out.f 1; have ql := X0.out.lt; have y0 := X1.out.c0; have y1 := X1.out.c1; have yf0 := X1.out.f 0; have yf1 := X1.out.f 1; have yl := X1.out.lt; have ia := X2.out.c0; have ib := X2.out.c1; have ic := X2.out.c2))
  have HW : Hid (∀ i, i < n1 → Fw (l1.getD i i0).p ∧ Fw (l1.getD i i0).t) := Lib.hid (fun i hi => by
    have hl : i < l1.length := by rw [H.out.len]; exact hi
    rw [getD_lt hl]
    exact fw_it (HS.out.2.2.1 _ (List.getElem_mem hl)) (by omega))
  have F1 : Hid (Fw p) := Lib.hid (fw_it HV1.out (by omega)).1
  have F2 : Hid (Fw N1) := Lib.hid (fw_it HV1.out (by omega)).2
  obtain ⟨q, hq⟩ : ∃ q, bhA ⟨0, p, N1⟩ l1 = q := ⟨_, rfl⟩
  have HQ := Lib.hid hq
  have hqn : q ≤ n1 := by rw [← hq, ← H.out.len]; exact bh_le _ _
  clear hq

  have HB := Lib.hid HB.out.drew
  have H := Lib.hid H.out.drew
  have X0 := Lib.hid X0.out.drew
  have X1 := Lib.hid X1.out.drew
  have X2 := Lib.hid X2.out.drew
  have hHeld0 : (fun w9 => Below w.heap.size w w9 ∧ (w9.cell? ⟨w.heap.size, 0, none⟩ = some (.int .i64 N1) ∧ w9.cell? ⟨w.heap.size, 1, none⟩ = some (.slice A1 n1 c1)) ∧ (w9.cell? ⟨W2.heap.size, 0, none⟩ = some (.int .i64 d) ∧ w9.cell? ⟨W2.heap.size, 1, none⟩ = some (.int .i64 p) ∧ w9.cell? ⟨W2.heap.size, 2, none⟩ = some (.int .i64 N1))) w4.drew := skP HB.out X0.out X2.out
  refine wp_region_held_drew (S := fun w9 => Below w.heap.size w w9 ∧ (w9.cell? ⟨w.heap.size, 0, none⟩ = some (.int .i64 N1) ∧ w9.cell? ⟨w.heap.size, 1, none⟩ = some (.slice A1 n1 c1)) ∧ (w9.cell? ⟨W2.heap.size, 0, none⟩ = some (.int .i64 d) ∧ w9.cell? ⟨W2.heap.size, 1, none⟩ = some (.int .i64 p) ∧ w9.cell? ⟨W2.heap.size, 2, none⟩ = some (.int .i64 N1))) (by kernel_rfl) hHeld0 (fun hHeld => ?_)
  clear hHeld0
  refine wpAnyH_take (i := 0) (oi := { dst := some 35, op := Op.fieldAddr 28 (Operand.tmp 3) 1, type := 0, pos := "queue.go:42", after := #[], guard := none }) (v := ?_) rfl (by kernel_rfl) (by kernel_rfl) (by kernel_rfl) (fun _ _ _ h => h) (Or.inl ⟨by kernel_rfl, ?_⟩) hHeld ?_
  rotate_left
  · intro w9 hSw; (try dsimp only at hSw); go_simp; try with_reducible rfl
  simp only [Act.put, List.setIfInBounds_toArray, List.set_cons_zero, List.set_cons_succ]
  refine wpAnyH_take (i := 1) (oi := { dst := some 36, op := Op.load 26 (Operand.tmp 35), type := 26, pos := "queue.go:42", after := #[{ on := 0, ground := Ground.data }], guard := none }) (v := ?_) rfl (by kernel_rfl) (by kernel_rfl) (by kernel_rfl) (fun _ _ _ h => h) (Or.inl ⟨by kernel_rfl, ?_⟩) hHeld ?_
  rotate_left
  · intro w9 hSw; (try dsimp only at hSw); go_simp; try with_reducible rfl
  simp only [Act.put, List.setIfInBounds_toArray, List.set_cons_zero, List.set_cons_succ]
  refine wpAnyH_take (i := 2) (oi := { dst := some 37, op := Op.load 59 (Operand.tmp 8), type := 59, pos := "queue.go:42", after := #[], guard := none }) (v := ?_) rfl (by kernel_rfl) (by kernel_rfl) (by kernel_rfl) (fun _ _ _ h => h) (Or.inl ⟨by kernel_rfl, ?_⟩) hHeld ?_
  rotate_left
  · intro w9 hSw; (try dsimp only at hSw); go_simp; try with_reducible rfl
  simp only [Act.put, List.setIfInBounds_toArray, List.set_cons_zero, List.set_cons_succ]
  refine wpAnyH_ready (rs := [3]) (by kernel_rfl) (by simp) ?_
  refine AllReadyH.cons (o := { dst := some 38, op := Op.call { callee := Callee.value (Operand.func 29), args := #[Operand.tmp 37], argTypes := #[59] }, type := 63, pos := "queue.go:42", after := #[{ on := 2, ground := Ground.data }], guard := none }) rfl (fun K hK => ?_) AllReadyH.nil
  go_simp
  refine (stand_is d p N1 _).mono ?_; rintro e w5 ⟨rfl, hb⟩; have HB := Lib.hid (below_then HB.out hb); have H := Lib.hid (H.out.below hb); have X0 := Lib.hid (X0.out.keep hb); have X1 := Lib.hid (X1.out.keep hb); have X2 := Lib.hid (X2.out.keep hb); clear hb; clear qa qb qfa qfb ql y0 y1 yf0 yf1 yl ia ib ic; have qa := X0.out.c0; have qb := X0.out.c1; have qfa := X0.out.f 0; have qfb := X0.out.f 1; have ql := X0.out.lt; have y0 := X1.out.c0; have y1 := X1.out.c1; have yf0 := X1.out.f 0; have yf1 := X1.out.f 1; have yl := X1.out.lt; have ia := X2.out.c0; have ib := X2.out.c1; have ic := X2.out.c2
  refine hK.out _ _ (skP HB.out X0.out X2.out) (fun hHeld => ?_)
  clear hK K
  try simp only [Act.put, List.setIfInBounds_toArray, List.set_cons_zero, List.set_cons_succ]
  refine wpAnyH_ready (rs := [4]) (by kernel_rfl) (by simp) ?_
  refine AllReadyH.cons (o := { dst := some 39, op := Op.call { callee := Callee.value (Operand.func 28), args := #[Operand.tmp 36, Operand.tmp 38], argTypes := #[26, 63] }, type := 3, pos := "queue.go:42", after := #[{ on := 1, ground := Ground.data }, { on := 3, ground := Ground.data }, { on := 3, ground := Ground.chain }], guard := none }) rfl (fun K hK => ?_) AllReadyH.nil
  go_simp
  refine (behind_is A1 n1 c1 l1 p N1 q _ (by omega) H.out HW.out F1.out F2.out HQ.out).mono ?_; rintro e w6 ⟨rfl, hb⟩; have HB := Lib.hid (below_then HB.out hb); have H := Lib.hid (H.out.below hb); have X0 := Lib.hid (X0.out.keep hb); have X1 := Lib.hid (X1.out.keep hb); have X2 := Lib.hid (X2.out.keep hb); clear hb; clear qa qb qfa qfb ql y0 y1 yf0 yf1 yl ia ib ic; have qa := X0.out.c0; have qb := X0.out.c1; have qfa := X0.out.f 0; have qfb := X0.out.f 1; have ql := X0.out.lt; have y0 := X1.out.c0; have y1 := X1.out.c1; have yf0 := X1.out.f 0; have yf1 := X1.out.f 1; have yl := X1.out.lt; have ia := X2.out.c0; have ib := X2.out.c1; have ic := X2.out.c2
  refine hK.out _ _ (skP HB.out X0.out X2.out) (fun hHeld => ?_)
  clear hK K
  try simp only [Act.put, List.setIfInBounds_toArray, List.set_cons_zero, List.set_cons_succ]
  refine wpAnyH_take (i := 5) (oi := { dst := some 9, op := Op.assign (Operand.tmp 39), type := 3, pos := "queue.go:42", after := #[{ on := 4, ground := Ground.data }, { on := 4, ground := Ground.chain }, { on := 0, ground := Ground.phase }, { on := 1, ground := Ground.phase }, { on := 2, ground := Ground.phase }, { on := 3, ground := Ground.phase }, { on := 4, ground := Ground.phase }], guard := none }) (v := ?_) rfl (by kernel_rfl) (by kernel_rfl) (by kernel_rfl) (fun _ _ _ h => h) (Or.inl ⟨by kernel_rfl, ?_⟩) hHeld ?_
  rotate_left
  · intro w9 hSw; (try dsimp only at hSw); go_simp; try with_reducible rfl
  simp only [Act.put, List.setIfInBounds_toArray, List.set_cons_zero, List.set_cons_succ]
  refine wpAnyH_done (by kernel_rfl) ?_ _
  go_upto_region 6 with (fail)
  have h1 := H.out.head etQ q hqn
  have s1 := h1.1
  have HA := Lib.hid h1.2
  obtain ⟨A2, c2, s2, h2⟩ := H.out.tail etQ q hqn
  have HC := Lib.hid h2
  clear h1 h2

  have hHeld0 : (fun w9 => Below w.heap.size w w9 ∧ (w9.cell? ⟨w.heap.size, 0, none⟩ = some (.int .i64 N1) ∧ w9.cell? ⟨w.heap.size, 1, none⟩ = some (.slice A1 n1 c1)) ∧ (w9.cell? ⟨W2.heap.size, 0, none⟩ = some (.int .i64 d) ∧ w9.cell? ⟨W2.heap.size, 1, none⟩ = some (.int .i64 p) ∧ w9.cell? ⟨W2.heap.size, 2, none⟩ = some (.int .i64 N1))) w6.drew := skP HB.out.drew X0.out.drew X2.out.drew
  refine wp_region_held_drew (S := fun w9 => Below w.heap.size w w9 ∧ (w9.cell? ⟨w.heap.size, 0, none⟩ = some (.int .i64 N1) ∧ w9.cell? ⟨w.heap.size, 1, none⟩ = some (.slice A1 n1 c1)) ∧ (w9.cell? ⟨W2.heap.size, 0, none⟩ = some (.int .i64 d) ∧ w9.cell? ⟨W2.heap.size, 1, none⟩ = some (.int .i64 p) ∧ w9.cell? ⟨W2.heap.size, 2, none⟩ = some (.int .i64 N1))) (by kernel_rfl) hHeld0 (fun hHeld => ?_)
  clear hHeld0
  refine wpAnyH_take (i := 0) (oi := { dst := some 40, op := Op.fieldAddr 28 (Operand.tmp 3) 0, type := 0, pos := "queue.go:43", after := #[], guard := none }) (v := ?_) rfl (by kernel_rfl) (by kernel_rfl) (by kernel_rfl) (fun _ _ _ h => h) (Or.inl ⟨by kernel_rfl, ?_⟩) hHeld ?_
  rotate_left
  · intro w9 hSw; (try dsimp only at hSw); go_simp; try with_reducible rfl
  simp only [Act.put, List.setIfInBounds_toArray, List.set_cons_zero, List.set_cons_succ]
  refine wpAnyH_take (i := 1) (oi := { dst := some 41, op := Op.load 3 (Operand.tmp 40), type := 3, pos := "queue.go:43", after := #[{ on := 0, ground := Ground.data }], guard := none }) (v := ?_) rfl (by kernel_rfl) (by kernel_rfl) (by kernel_rfl) (fun _ _ _ h => h) (Or.inl ⟨by kernel_rfl, ?_⟩) hHeld ?_
  rotate_left
  · intro w9 hSw; (try dsimp only at hSw); go_simp; try with_reducible rfl
  simp only [Act.put, List.setIfInBounds_toArray, List.set_cons_zero, List.set_cons_succ]
  refine wpAnyH_take (i := 2) (oi := { dst := some 42, op := Op.binOp BinOp.add 3 (Operand.tmp 41) (Operand.const (Value.int IntKind.i64 1)) 3, type := 3, pos := "queue.go:43", after := #[{ on := 1, ground := Ground.data }], guard := none }) (v := ?_) rfl (by kernel_rfl) (by kernel_rfl) (by kernel_rfl) (fun _ _ _ h => h) (Or.inl ⟨by kernel_rfl, ?_⟩) hHeld ?_
  rotate_left
  · intro w9 hSw; (try dsimp only at hSw); go_simp; try with_reducible rfl
  simp only [Act.put, List.setIfInBounds_toArray, List.set_cons_zero, List.set_cons_succ]
  refine wpAnyH_take (i := 3) (oi := { dst := some 43, op := Op.fieldAddr 28 (Operand.tmp 3) 1, type := 0, pos := "queue.go:43", after := #[], guard := none }) (v := ?_) rfl (by kernel_rfl) (by kernel_rfl) (by kernel_rfl) (fun _ _ _ h => h) (Or.inl ⟨by kernel_rfl, ?_⟩) hHeld ?_
  rotate_left
  · intro w9 hSw; (try dsimp only at hSw); go_simp; try with_reducible rfl
  simp only [Act.put, List.setIfInBounds_toArray, List.set_cons_zero, List.set_cons_succ]
  refine wpAnyH_take (i := 4) (oi := { dst := some 44, op := Op.load 26 (Operand.tmp 43), type := 26, pos := "queue.go:43", after := #[{ on := 3, ground := Ground.data }], guard := none }) (v := ?_) rfl (by kernel_rfl) (by kernel_rfl) (by kernel_rfl) (fun _ _ _ h => h) (Or.inl ⟨by kernel_rfl, ?_⟩) hHeld ?_
  rotate_left
  · intro w9 hSw; (try dsimp only at hSw); go_simp; try with_reducible rfl
  simp only [Act.put, List.setIfInBounds_toArray, List.set_cons_zero, List.set_cons_succ]
  refine wpAnyH_take (i := 5) (oi := { dst := some 45, op := Op.move (Operand.tmp 9), type := 3, pos := "queue.go:43", after := #[], guard := none }) (v := ?_) rfl (by kernel_rfl) (by kernel_rfl) (by kernel_rfl) (fun _ _ _ h => h) (Or.inl ⟨by kernel_rfl, ?_⟩) hHeld ?_
  rotate_left
  · intro w9 hSw; (try dsimp only at hSw); go_simp; try with_reducible rfl
  simp only [Act.put, List.setIfInBounds_toArray, List.set_cons_zero, List.set_cons_succ]
  refine wpAnyH_take (i := 6) (oi := { dst := some 46, op := Op.slice 26 (Operand.tmp 44) none (some (Operand.tmp 45)) none, type := 26, pos := "queue.go:43", after := #[{ on := 4, ground := Ground.data }, { on := 5, ground := Ground.data }], guard := none }) (v := ?_) rfl (by kernel_rfl) (by kernel_rfl) (by kernel_rfl) (fun _ _ _ h => h) (Or.inl ⟨by kernel_rfl, ?_⟩) hHeld ?_
  rotate_left
  · intro w9 hSw; (try dsimp only at hSw); go_simp; try with_reducible rfl
  simp only [Act.put, List.setIfInBounds_toArray, List.set_cons_zero, List.set_cons_succ]
  refine wpAnyH_take (i := 7) (oi := { dst := some 47, op := Op.load 59 (Operand.tmp 8), type := 59, pos := "queue.go:43", after := #[], guard := none }) (v := ?_) rfl (by kernel_rfl) (by kernel_rfl) (by kernel_rfl) (fun _ _ _ h => h) (Or.inl ⟨by kernel_rfl, ?_⟩) hHeld ?_
  rotate_left
  · intro w9 hSw; (try dsimp only at hSw); go_simp; try with_reducible rfl
  simp only [Act.put, List.setIfInBounds_toArray, List.set_cons_zero, List.set_cons_succ]
  refine wpAnyH_take (i := 9) (oi := { dst := some 49, op := Op.fieldAddr 28 (Operand.tmp 3) 1, type := 0, pos := "queue.go:43", after := #[], guard := none }) (v := ?_) rfl (by kernel_rfl) (by kernel_rfl) (by kernel_rfl) (fun _ _ _ h => h) (Or.inl ⟨by kernel_rfl, ?_⟩) hHeld ?_
  rotate_left
  · intro w9 hSw; (try dsimp only at hSw); go_simp; try with_reducible rfl
  simp only [Act.put, List.setIfInBounds_toArray, List.set_cons_zero, List.set_cons_succ]
  refine wpAnyH_take (i := 10) (oi := { dst := some 50, op := Op.load 26 (Operand.tmp 49), type := 26, pos := "queue.go:43", after := #[{ on := 9, ground := Ground.data }], guard := none }) (v := ?_) rfl (by kernel_rfl) (by kernel_rfl) (by kernel_rfl) (fun _ _ _ h => h) (Or.inl ⟨by kernel_rfl, ?_⟩) hHeld ?_
  rotate_left
  · intro w9 hSw; (try dsimp only at hSw); go_simp; try with_reducible rfl
  simp only [Act.put, List.setIfInBounds_toArray, List.set_cons_zero, List.set_cons_succ]
  refine wpAnyH_take (i := 11) (oi := { dst := some 51, op := Op.move (Operand.tmp 9), type := 3, pos := "queue.go:43", after := #[], guard := none }) (v := ?_) rfl (by kernel_rfl) (by kernel_rfl) (by kernel_rfl) (fun _ _ _ h => h) (Or.inl ⟨by kernel_rfl, ?_⟩) hHeld ?_
  rotate_left
  · intro w9 hSw; (try dsimp only at hSw); go_simp; try with_reducible rfl
  simp only [Act.put, List.setIfInBounds_toArray, List.set_cons_zero, List.set_cons_succ]
  refine wpAnyH_take (i := 12) (oi := { dst := some 52, op := Op.slice 26 (Operand.tmp 50) (some (Operand.tmp 51)) none none, type := 26, pos := "queue.go:43", after := #[{ on := 10, ground := Ground.data }, { on := 11, ground := Ground.data }], guard := none }) (v := ?_) rfl (by kernel_rfl) (by kernel_rfl) (by kernel_rfl) (fun _ _ _ h => h) (Or.inl ⟨by kernel_rfl, ?_⟩) hHeld ?_
  rotate_left
  · intro w9 hSw; (try dsimp only at hSw); go_simp; try with_reducible rfl
  simp only [Act.put, List.setIfInBounds_toArray, List.set_cons_zero, List.set_cons_succ]
  refine wpAnyH_ready (rs := [8]) (by kernel_rfl) (by simp) ?_
  refine AllReadyH.cons (o := { dst := some 48, op := Op.buildSlice 26 1 #[(0, Operand.tmp 47)], type := 26, pos := "queue.go:43", after := #[{ on := 7, ground := Ground.data }], guard := none }) rfl (fun K hK => ?_) AllReadyH.nil
  go_simp
  skip
  refine hK.out _ _ (skP (HB.out.alloc HB.out.size _).drew (X0.out.alloc _).drew (X2.out.alloc _).drew) (fun hHeld => ?_)
  clear hK K
  try simp only [Act.put, List.setIfInBounds_toArray, List.set_cons_zero, List.set_cons_succ]
  refine wpAnyH_ready (rs := [13]) (by kernel_rfl) (by simp) ?_
  refine AllReadyH.cons (o := { dst := some 53, op := Op.buildSlice 75 3 #[(0, Operand.tmp 46), (1, Operand.tmp 48), (2, Operand.tmp 52)], type := 75, pos := "queue.go:43", after := #[{ on := 6, ground := Ground.data }, { on := 8, ground := Ground.data }, { on := 12, ground := Ground.data }], guard := none }) rfl (fun K hK => ?_) AllReadyH.nil
  go_simp
  skip
  refine hK.out _ _ (skP ((HB.out.alloc HB.out.size _).alloc (by have := HB.out.size; simp; omega) _).drew ((X0.out.alloc _).alloc _).drew ((X2.out.alloc _).alloc _).drew) (fun hHeld => ?_)
  clear hK K
  try simp only [Act.put, List.setIfInBounds_toArray, List.set_cons_zero, List.set_cons_succ]
  refine wpAnyH_ready (rs := [14]) (by kernel_rfl) (by simp) ?_
  refine AllReadyH.cons (o := { dst := some 54, op := Op.call { callee := Callee.value (Operand.func 30), args := #[Operand.tmp 53], argTypes := #[75] }, type := 26, pos := "queue.go:43", after := #[{ on := 13, ground := Ground.data }], guard := none }) rfl (fun K hK => ?_) AllReadyH.nil
  go_simp
  refine (concat3_is (w6.heap.size + 1) A1 q c1 (l1.take q) (some ⟨w6.heap.size, 0, none⟩) 1 1 [⟨d, p, N1⟩] A2 (n1 - q) c2 (l1.drop q) (((w6.alloc (.cells #[.int .i64 d, .int .i64 p, .int .i64 N1] 59)).alloc (.cells #[.slice A1 q c1, .slice (some ⟨w6.heap.size, 0, none⟩) 1 1, .slice A2 (n1 - q) c2] 26)).drew) (new_block (w6.alloc (.cells #[.int .i64 d, .int .i64 p, .int .i64 N1] 59)) _ _ (by simp)) ((HA.out.alloc _).alloc _).drew ((Its.new1 w6 59 ⟨d, p, N1⟩).alloc _).drew ((HC.out.alloc _).alloc _).drew (by omega)).mono ?_; rintro e w7 ⟨A3, c3, rfl, hi3, hb3, hf3⟩; have HB3 := Lib.hid (below_then (((HB.out.alloc HB.out.size _).alloc (by have := HB.out.size; simp; omega) _).drew) hb3); have HI3 := Lib.hid hi3; have HF3 := Lib.hid hf3; have yl6 := yl; have X0 := Lib.hid (((X0.out.alloc _).alloc _).drew.keep hb3); have X1 := Lib.hid (((X1.out.alloc _).alloc _).drew.keep hb3); have X2 := Lib.hid (((X2.out.alloc _).alloc _).drew.keep hb3); clear hb3 hi3 hf3 qa qb qfa qfb ql y0 y1 yf0 yf1 yl ia ib ic; have qa := X0.out.c0; have qb := X0.out.c1; have qfa := X0.out.f 0; have qfb := X0.out.f 1; have ql := X0.out.lt; have y0 := X1.out.c0; have y1 := X1.out.c1; have yf0 := X1.out.f 0; have yf1 := X1.out.f 1; have yl := X1.out.lt; have ia := X2.out.c0; have ib := X2.out.c1; have ic := X2.out.c2; have Z := Lib.hid (X1.out.set (N1 + 1) A3 (q + 1 + (n1 - q)) c3); have z0 := Z.out.c0; have z1 := Z.out.c1
  refine hK.out _ _ (skP HB3.out X0.out X2.out) (fun hHeld => ?_)
  clear hK K
  try simp only [Act.put, List.setIfInBounds_toArray, List.set_cons_zero, List.set_cons_succ]
  refine wpAnyH_take (i := 15) (oi := { dst := some 55, op := Op.build 28 #[(0, Operand.tmp 42), (1, Operand.tmp 54)], type := 28, pos := "queue.go:43", after := #[{ on := 2, ground := Ground.data }, { on := 14, ground := Ground.data }], guard := none }) (v := ?_) rfl (by kernel_rfl) (by kernel_rfl) (by kernel_rfl) (fun _ _ _ h => h) (Or.inl ⟨by kernel_rfl, ?_⟩) hHeld ?_
  rotate_left
  · intro w9 hSw; (try dsimp only at hSw); go_simp; try with_reducible rfl
  simp only [Act.put, List.setIfInBounds_toArray, List.set_cons_zero, List.set_cons_succ]
  refine wpAnyH_ready (rs := [16]) (by kernel_rfl) (by simp) ?_
  refine AllReadyH.cons (o := { dst := none, op := Op.store 28 (Operand.tmp 6) (Operand.tmp 55), type := 0, pos := "queue.go:43", after := #[{ on := 15, ground := Ground.data }, { on := 14, ground := Ground.chain }, { on := 0, ground := Ground.phase }, { on := 1, ground := Ground.phase }, { on := 2, ground := Ground.phase }, { on := 3, ground := Ground.phase }, { on := 4, ground := Ground.phase }, { on := 5, ground := Ground.phase }, { on := 6, ground := Ground.phase }, { on := 7, ground := Ground.phase }, { on := 8, ground := Ground.phase }, { on := 9, ground := Ground.phase }, { on := 10, ground := Ground.phase }, { on := 11, ground := Ground.phase }, { on := 12, ground := Ground.phase }, { on := 13, ground := Ground.phase }, { on := 14, ground := Ground.phase }, { on := 15, ground := Ground.phase }], guard := none }) rfl (fun K hK => ?_) AllReadyH.nil
  go_simp
  skip
  refine hK.out _ _ (skP (below_set (below_set HB3.out (Nat.le_succ _) _) (Nat.le_succ _) _) ((X0.out.other (by simp) _).other (by simp) _) ((X2.out.other (by simp; omega) _).other (by simp; omega) _)) (fun hHeld => ?_)
  clear hK K
  try simp only [Act.put, List.setIfInBounds_toArray, List.set_cons_zero, List.set_cons_succ]
  refine wpAnyH_take (i := 17) (oi := { dst := some 7, op := Op.assign (Operand.const (Value.bool true)), type := 4, pos := "queue.go:43", after := #[{ on := 16, ground := Ground.chain }, { on := 0, ground := Ground.phase }, { on := 1, ground := Ground.phase }, { on := 2, ground := Ground.phase }, { on := 3, ground := Ground.phase }, { on := 4, ground := Ground.phase }, { on := 5, ground := Ground.phase }, { on := 6, ground := Ground.phase }, { on := 7, ground := Ground.phase }, { on := 8, ground := Ground.phase }, { on := 9, ground := Ground.phase }, { on := 10, ground := Ground.phase }, { on := 11, ground := Ground.phase }, { on := 12, ground := Ground.phase }, { on := 13, ground := Ground.phase }, { on := 14, ground := Ground.phase }, { on := 15, ground := Ground.phase }, { on := 16, ground := Ground.phase }], guard := none }) (v := ?_) rfl (by kernel_rfl) (by kernel_rfl) (by kernel_rfl) (fun _ _ _ h => h) (Or.inl ⟨by kernel_rfl, ?_⟩) hHeld ?_
  rotate_left
  · intro w9 hSw; (try dsimp only at hSw); go_simp; try with_reducible rfl
  simp only [Act.put, List.setIfInBounds_toArray, List.set_cons_zero, List.set_cons_succ]
  refine wpAnyH_done (by kernel_rfl) ?_ _
  go_wp2
  refine bodyPost_ret (v := .tuple #[.agg #[.int .i64 (N1 + 1), .slice A3 (q + 1 + (n1 - q)) c3], .bool true]) (by simp [results, Try.results9, go_sem, z0, z1]) rfl ⟨A3, q + 1 + (n1 - q), c3, ?_, ?_, below_set (below_set HB3.out (Nat.le_succ _) _) (Nat.le_succ _) _, HF3.out.born (by simp; omega)⟩
  · unfold puN
    rw [HP.out]; rfl
  · have hi := (HI3.out.set_ (g := w.heap.size + 1) (HF3.out.ne (by simp; omega)) 0 (.int .i64 (N1 + 1))).set_ (g := w.heap.size + 1) (HF3.out.ne (by simp; omega)) 1 (.slice A3 (q + 1 + (n1 - q)) c3)
    refine hi.as ?_
    unfold puL inL
    rw [HP.out, if_pos rfl, bh_zero, HQ.out]
    rfl

end Go.Proofs.Ytoklocbdifefcaa
