/-
  What the document calls Floor of layer 2: what is left, the quotient and the throw, rounded down, where the divisor is not 0. Of what was there nothing changes.
-/
import Derived.Test.YtnlkggfgloblcaaGreatRef02Symm
import Derived.Deep.RegionWith
namespace Go.Proofs.YtnlkggfgloblcaaGreat
open Go.RowKit

/-- The ways through the document's Floor, behind the quotient of the sizes. -/
def RFloorWay (x n : Int) (s m : Bool) (N R : Int) : Prop :=
  (m = false ∧ decide (dHi N < 0) = true ∧ Hid (fE x n = -11 ∧ fR x n = 0 ∧ fQ x n = 0)) ∨
  ((m = false → decide (dHi N < 0) = false) ∧ (m = true → (sgZ R s != 0) = false) ∧ (dHi (sgI N m) == dHi (dLo (sgI N m))) = false ∧ Hid (fE x n = -11 ∧ fR x n = 0 ∧ fQ x n = 0)) ∨
  ((m = false → decide (dHi N < 0) = false) ∧ (m = true → (sgZ R s != 0) = false) ∧ dHi (dLo (sgI N m)) = dHi (sgI N m) ∧ Hid (fE x n = 0 ∧ fR x n = sgZ R s ∧ fQ x n = dLo (sgI N m))) ∨
  (m = true ∧ (sgZ R s != 0) = true ∧ (dHi (-N + -1) == dHi (dLo (-N + -1))) = false ∧ Hid (fE x n = -11 ∧ fR x n = 0 ∧ fQ x n = 0)) ∨
  (m = true ∧ (sgZ R s != 0) = true ∧ dHi (dLo (-N + -1)) = dHi (-N + -1) ∧ Hid (fE x n = 0 ∧ fR x n = wrap64 (sgZ R s + n) ∧ fQ x n = dLo (-N + -1)))
theorem rfloor_way {x n : Int} (hn : InC n) (h0 : n ≠ 0) {s t : Bool} (ht : decide (n < 0) = t) {N R : Int} (S : Signs x n s t N R) : RFloorWay x n s (s != t) N R := by
  have r0 := S.r0
  have r1 := S.r1
  have n0 := S.n0
  have n1 := S.n1
  have hsg : sgZ R s = sgI R s := by
    unfold sgI sgZ; split
    · exact wrap64_id ⟨by omega, by omega⟩
    · rfl
  by_cases hadj : (s != t) = true ∧ R ≠ 0
  · obtain ⟨hm, hr⟩ := hadj
    have hneg : ¬ (x.tmod n < 0 ↔ n < 0) := by
      rw [S.tm]
      have htn : n < 0 ↔ t = true := by rw [← ht]; simp
      rw [htn]
      cases s <;> cases t <;> simp [sgI] at hm ⊢ <;> omega
    have hne : x.tmod n ≠ 0 := by rw [S.tm]; unfold sgI; split <;> omega
    obtain ⟨e1, e2⟩ := fl_less h0 hne hneg
    rw [S.td, hm] at e1
    rw [S.tm] at e2
    have e1' : x.fdiv n = -N + -1 := by rw [e1]; unfold sgI; simp; omega
    have hb := S.far hr
    have hIn : InD (-N + -1) := by unfold InD; omega
    have hc := cell_is hIn
    have hρ : (sgZ R s != 0) = true := by rw [hsg]; unfold sgI; split <;> simp <;> omega
    rw [hm]
    by_cases hi : InC (-N + -1)
    · have e : decide (-9223372036854775808 ≤ -N + -1 ∧ -N + -1 ≤ 9223372036854775807) = true := decide_eq_true hi
      rw [e] at hc
      have hc' : dHi (-N + -1) = dHi (dLo (-N + -1)) := by simpa using hc
      have hf := f_some (x := x) h0 (by rw [e1']; exact hi)
      refine .inr (.inr (.inr (.inr ⟨rfl, hρ, hc'.symm, hf.1, ?_, ?_⟩)))
      · rw [hf.2.1, e2, hsg]
        have hfb := fl_bound (x := x) h0
        rw [e2] at hfb
        refine (wrap64_id ?_).symm
        unfold InC at hn ⊢; omega
      · rw [hf.2.2, e1', dLo_cell hi]
    · have e : decide (-9223372036854775808 ≤ -N + -1 ∧ -N + -1 ≤ 9223372036854775807) = false := decide_eq_false hi
      exact .inr (.inr (.inr (.inl ⟨rfl, hρ, by rw [hc, e], f_none h0 (by rw [e1']; exact hi)⟩)))
  · have hsame : x.tmod n = 0 ∨ (x.tmod n < 0 ↔ n < 0) := by
      rw [S.tm]
      have htn : n < 0 ↔ t = true := by rw [← ht]; simp
      rw [htn]
      by_cases hr : R = 0
      · left; subst hr; unfold sgI; split <;> rfl
      · right
        have hm : ¬ (s != t) = true := fun e => hadj ⟨e, hr⟩
        cases s <;> cases t <;> simp [sgI] at hm ⊢ <;> omega
    obtain ⟨e1, e2⟩ := fl_same h0 hsame
    have hρ : (s != t) = true → (sgZ R s != 0) = false := fun e => by
      have hr : R = 0 := by
        by_cases hr : R = 0
        · exact hr
        · exact absurd ⟨e, hr⟩ hadj
      rw [hsg, hr]; unfold sgI; split <;> rfl
    rcases rsymm_way h0 S with ⟨a, b, HZ⟩ | ⟨a, b, HZ⟩ | ⟨a, b, HZ⟩
    · refine .inl ⟨a, b, f_none h0 ?_⟩
      rw [e1]
      rcases s_cases x n with ⟨e, _⟩ | ⟨_, _, c, _⟩ | ⟨_, hi, _⟩
      · exact absurd e h0
      · rw [HZ.out.1] at c; exact absurd c (by decide)
      · exact hi
    · refine .inr (.inl ⟨a, hρ, b, f_none h0 ?_⟩)
      rw [e1]
      rcases s_cases x n with ⟨e, _⟩ | ⟨_, _, c, _⟩ | ⟨_, hi, _⟩
      · exact absurd e h0
      · rw [HZ.out.1] at c; exact absurd c (by decide)
      · exact hi
    · refine .inr (.inr (.inl ⟨a, hρ, b, ?_⟩))
      rcases s_cases x n with ⟨e, _⟩ | ⟨_, hi, c, d, e⟩ | ⟨_, _, c, _⟩
      · exact absurd e h0
      · have hf := f_some (x := x) h0 (by rw [e1]; exact hi)
        exact ⟨hf.1, by rw [hf.2.1, e2, ← d]; exact HZ.out.2.1, by rw [hf.2.2, e1, ← e]; exact HZ.out.2.2⟩
      · rw [HZ.out.1] at c; exact absurd c (by decide)
theorem im1 : InC (-1) := by unfold InC; omega
set_option maxRecDepth 100000 in
set_option maxHeartbeats 4000000 in
theorem rfloor_ff (x n N R : Int) (hn : InC n) (h0 : n ≠ 0) (hs : decide (dHi x < 0) = false) (ht : decide (n < 0) = false) (S : Signs x n false false N R) (w : World) :
    Calls Tryz.prog 125 #[.agg #[.int .i64 (dLo x), .int .i64 (dHi x)], .int .i64 n] w fun e w' => e = .returned (.tuple #[.int .i64 (fR x n), .int .i64 (fQ x n), .int .i64 (fE x n)]) ∧ Keeps w w' := by
  have HD : Hid (∀ w : World, Calls Tryz.prog 147 #[.agg #[.int .i64 (dLo x), .int .i64 (dHi x)], .int .i64 n] w fun e w' => e = .returned (.tuple #[.int .i64 (dLo R), .agg #[.int .i64 (dLo N), .int .i64 (dHi N)]]) ∧ Keeps w w') := fun w => rdiv_sg hn h0 ht S w
  have hn0 : (n == 0) = false := by simpa using h0
  have hR : dLo R = R := dLo_cell ⟨by have := S.r0; omega, by have := S.r1; omega⟩
  have hway : RFloorWay x n false false N R := rfloor_way hn h0 ht S
  clear h0 hn S
  rcases hway with ⟨hm, hfar, HZ⟩ | ⟨hlow, hρ, hne, HZ⟩ | ⟨hlow, hρ, heq, HZ⟩ | ⟨hm, hρ, hne, HZ⟩ | ⟨hm, hρ, heq, HZ⟩
  · clear hm
    go_enter Tryz.func125, Tryz.ntmps125
    go_wp2_with fail
    refine (HD.out _).mono ?_
    rintro e w2 ⟨rfl, hw2⟩
    have D2 := (boxes w x 63).1.keeps hw2
    have K2 := (((Keeps.refl w).alloc _).alloc _).trans hw2
    clear hw2
    have hsz := D2.lt
    have d2 := D2.c1
    go_wp2
    go_ret3
    exact ⟨by rw [HZ.out.1, HZ.out.2.1, HZ.out.2.2]; rfl, K2.alloc _⟩
  · have hne' : (dHi N == dHi (dLo N)) = false := hne
    clear hne
    have hLL : dLo (dLo N) = dLo N := dLo_dLo N
    replace hlow := hlow rfl
    clear hρ
    go_enter Tryz.func125, Tryz.ntmps125
    go_wp2_with fail
    refine (HD.out _).mono ?_
    rintro e w2 ⟨rfl, hw2⟩
    have D2 := (boxes w x 63).1.keeps hw2
    have K2 := (((Keeps.refl w).alloc _).alloc _).trans hw2
    clear hw2
    have hsz := D2.lt
    have d2 := D2.c1
    have HQ := Lib.hid (And.intro ((Box.new w2 (dLo N) (dHi N) 63).keeps (Keeps.refl _).drew) (And.intro ((D2.alloc (.cells #[.int .i64 (dLo N), .int .i64 (dHi N)] 63)).keeps (Keeps.refl _).drew) (K2.alloc (.cells #[.int .i64 (dLo N), .int .i64 (dHi N)] 63)).drew))
    go_wp2
    go_region_held3 (fun w' => w2.heap.size < w'.heap.size ∧ w'.cell? ⟨w2.heap.size, 0, none⟩ = some (.int .i64 (dLo N)) ∧ w'.cell? ⟨w2.heap.size, 1, none⟩ = some (.int .i64 (dHi N))) (first | assumption | exact ⟨HQ.out.1.lt, HQ.out.1.c0, HQ.out.1.c1⟩ | exact keepK hw9 ⟨HQ.out.1.lt, HQ.out.1.c0, HQ.out.1.c1⟩)
      (first
        | (go_at_call 127; refine (rof_any _ (dLo_in _) _).mono ?_; rintro e w9 ⟨rfl, hw9⟩))
    have D9 := HQ.out.2.1.keeps hw9
    have K9 := HQ.out.2.2.trans hw9
    have d9 := D9.c1
    go_wp2
    go_ret3
    exact ⟨by rw [HZ.out.1, HZ.out.2.1, HZ.out.2.2]; rfl, K9⟩
  · have heq' : dHi (dLo N) = dHi N := heq
    clear heq
    have hLL : dLo (dLo N) = dLo N := dLo_dLo N
    replace hlow := hlow rfl
    clear hρ
    go_enter Tryz.func125, Tryz.ntmps125
    go_wp2_with fail
    refine (HD.out _).mono ?_
    rintro e w2 ⟨rfl, hw2⟩
    have D2 := (boxes w x 63).1.keeps hw2
    have K2 := (((Keeps.refl w).alloc _).alloc _).trans hw2
    clear hw2
    have hsz := D2.lt
    have d2 := D2.c1
    have HQ := Lib.hid (And.intro ((Box.new w2 (dLo N) (dHi N) 63).keeps (Keeps.refl _).drew) (And.intro ((D2.alloc (.cells #[.int .i64 (dLo N), .int .i64 (dHi N)] 63)).keeps (Keeps.refl _).drew) (K2.alloc (.cells #[.int .i64 (dLo N), .int .i64 (dHi N)] 63)).drew))
    go_wp2
    go_region_held3 (fun w' => w2.heap.size < w'.heap.size ∧ w'.cell? ⟨w2.heap.size, 0, none⟩ = some (.int .i64 (dLo N)) ∧ w'.cell? ⟨w2.heap.size, 1, none⟩ = some (.int .i64 (dHi N))) (first | assumption | exact ⟨HQ.out.1.lt, HQ.out.1.c0, HQ.out.1.c1⟩ | exact keepK hw9 ⟨HQ.out.1.lt, HQ.out.1.c0, HQ.out.1.c1⟩)
      (first
        | (go_at_call 127; refine (rof_any _ (dLo_in _) _).mono ?_; rintro e w9 ⟨rfl, hw9⟩))
    have D9 := HQ.out.2.1.keeps hw9
    have K9 := HQ.out.2.2.trans hw9
    have d9 := D9.c1
    go_wp2
    go_quiet (fail)
    go_wp2
    go_ret3
    exact ⟨by rw [HZ.out.1, HZ.out.2.1, HZ.out.2.2]; rfl, K9.drewN _⟩
  · exact absurd hm (by decide)
  · exact absurd hm (by decide)
set_option maxRecDepth 100000 in
set_option maxHeartbeats 4000000 in
theorem rfloor_ft (x n N R : Int) (hn : InC n) (h0 : n ≠ 0) (hs : decide (dHi x < 0) = false) (ht : decide (n < 0) = true) (S : Signs x n false true N R) (w : World) :
    Calls Tryz.prog 125 #[.agg #[.int .i64 (dLo x), .int .i64 (dHi x)], .int .i64 n] w fun e w' => e = .returned (.tuple #[.int .i64 (fR x n), .int .i64 (fQ x n), .int .i64 (fE x n)]) ∧ Keeps w w' := by
  have HD : Hid (∀ w : World, Calls Tryz.prog 147 #[.agg #[.int .i64 (dLo x), .int .i64 (dHi x)], .int .i64 (wrap64 (-n))] w fun e w' => e = .returned (.tuple #[.int .i64 (dLo R), .agg #[.int .i64 (dLo N), .int .i64 (dHi N)]]) ∧ Keeps w w') := fun w => rdiv_sg hn h0 ht S w
  have hn0 : (n == 0) = false := by simpa using h0
  have hR : dLo R = R := dLo_cell ⟨by have := S.r0; omega, by have := S.r1; omega⟩
  have hway : RFloorWay x n false true N R := rfloor_way hn h0 ht S
  clear h0 hn S
  rcases hway with ⟨hm, hfar, HZ⟩ | ⟨hlow, hρ, hne, HZ⟩ | ⟨hlow, hρ, heq, HZ⟩ | ⟨hm, hρ, hne, HZ⟩ | ⟨hm, hρ, heq, HZ⟩
  · exact absurd hm (by decide)
  · have hne' : (dHi (-N) == dHi (dLo (-N))) = false := hne
    clear hne
    have hLL : dLo (dLo (-N)) = dLo (-N) := dLo_dLo (-N)
    clear hlow
    have hρ' : (R != 0) = false := hρ rfl
    clear hρ
    go_enter Tryz.func125, Tryz.ntmps125
    go_wp2_with fail
    refine (HD.out _).mono ?_
    rintro e w2 ⟨rfl, hw2⟩
    have D2 := (boxes w x 63).1.keeps hw2
    have K2 := (((Keeps.refl w).alloc _).alloc _).trans hw2
    clear hw2
    have hsz := D2.lt
    have d2 := D2.c1
    go_wp2_with fail
    refine (rneg_any _ _).mono ?_
    rintro e w3 ⟨rfl, hw3⟩
    have D3 := (D2.alloc _).keeps hw3
    have Q3 := (Box.new w2 (dLo N) (dHi N) 63).keeps hw3
    have K3 := (K2.alloc _).trans hw3
    obtain ⟨q0, q1, q2, q3, q4⟩ := Q3
    have d3 := D3.c1
    clear hw3 d2
    have Q4 := (Box.mk q0 q1 q2 q3 q4).set (dLo (-N)) (dHi (-N))
    have D4 := (D3.other (by omega) (o := 0) (C := w2.heap.size) (.int .i64 (dLo (-N)))).other (by omega) (o := 1) (C := w2.heap.size) (.int .i64 (dHi (-N)))
    have K4 := (K3.setCell (p := ⟨w2.heap.size, 0, none⟩) (by have := K2.size; simp; omega) (.int .i64 (dLo (-N)))).setCell (p := ⟨w2.heap.size, 1, none⟩) (by have := K2.size; simp; omega) (.int .i64 (dHi (-N)))
    have HQ := Lib.hid (And.intro (Q4.keeps (Keeps.refl _).drew) (And.intro (D4.keeps (Keeps.refl _).drew) K4.drew))
    clear Q4 D4 K4
    go_wp2
    go_region_held3 (fun w' => w2.heap.size < w'.heap.size ∧ w'.cell? ⟨w2.heap.size, 0, none⟩ = some (.int .i64 (dLo (-N))) ∧ w'.cell? ⟨w2.heap.size, 1, none⟩ = some (.int .i64 (dHi (-N)))) (first | assumption | exact ⟨HQ.out.1.lt, HQ.out.1.c0, HQ.out.1.c1⟩ | exact keepK hw9 ⟨HQ.out.1.lt, HQ.out.1.c0, HQ.out.1.c1⟩)
      (first
        | (go_at_call 127; refine (rof_any _ (dLo_in _) _).mono ?_; rintro e w9 ⟨rfl, hw9⟩))
    have D9 := HQ.out.2.1.keeps hw9
    have K9 := HQ.out.2.2.trans hw9
    have d9 := D9.c1
    go_wp2
    go_ret3
    exact ⟨by rw [HZ.out.1, HZ.out.2.1, HZ.out.2.2]; rfl, K9⟩
  · have heq' : dHi (dLo (-N)) = dHi (-N) := heq
    clear heq
    have hLL : dLo (dLo (-N)) = dLo (-N) := dLo_dLo (-N)
    clear hlow
    have hρ' : (R != 0) = false := hρ rfl
    clear hρ
    go_enter Tryz.func125, Tryz.ntmps125
    go_wp2_with fail
    refine (HD.out _).mono ?_
    rintro e w2 ⟨rfl, hw2⟩
    have D2 := (boxes w x 63).1.keeps hw2
    have K2 := (((Keeps.refl w).alloc _).alloc _).trans hw2
    clear hw2
    have hsz := D2.lt
    have d2 := D2.c1
    go_wp2_with fail
    refine (rneg_any _ _).mono ?_
    rintro e w3 ⟨rfl, hw3⟩
    have D3 := (D2.alloc _).keeps hw3
    have Q3 := (Box.new w2 (dLo N) (dHi N) 63).keeps hw3
    have K3 := (K2.alloc _).trans hw3
    obtain ⟨q0, q1, q2, q3, q4⟩ := Q3
    have d3 := D3.c1
    clear hw3 d2
    have Q4 := (Box.mk q0 q1 q2 q3 q4).set (dLo (-N)) (dHi (-N))
    have D4 := (D3.other (by omega) (o := 0) (C := w2.heap.size) (.int .i64 (dLo (-N)))).other (by omega) (o := 1) (C := w2.heap.size) (.int .i64 (dHi (-N)))
    have K4 := (K3.setCell (p := ⟨w2.heap.size, 0, none⟩) (by have := K2.size; simp; omega) (.int .i64 (dLo (-N)))).setCell (p := ⟨w2.heap.size, 1, none⟩) (by have := K2.size; simp; omega) (.int .i64 (dHi (-N)))
    have HQ := Lib.hid (And.intro (Q4.keeps (Keeps.refl _).drew) (And.intro (D4.keeps (Keeps.refl _).drew) K4.drew))
    clear Q4 D4 K4
    go_wp2
    go_region_held3 (fun w' => w2.heap.size < w'.heap.size ∧ w'.cell? ⟨w2.heap.size, 0, none⟩ = some (.int .i64 (dLo (-N))) ∧ w'.cell? ⟨w2.heap.size, 1, none⟩ = some (.int .i64 (dHi (-N)))) (first | assumption | exact ⟨HQ.out.1.lt, HQ.out.1.c0, HQ.out.1.c1⟩ | exact keepK hw9 ⟨HQ.out.1.lt, HQ.out.1.c0, HQ.out.1.c1⟩)
      (first
        | (go_at_call 127; refine (rof_any _ (dLo_in _) _).mono ?_; rintro e w9 ⟨rfl, hw9⟩))
    have D9 := HQ.out.2.1.keeps hw9
    have K9 := HQ.out.2.2.trans hw9
    have d9 := D9.c1
    go_wp2
    go_quiet (fail)
    go_wp2
    go_ret3
    exact ⟨by rw [HZ.out.1, HZ.out.2.1, HZ.out.2.2]; rfl, K9.drewN _⟩
  · have hne' : (dHi (-N + -1) == dHi (dLo (-N + -1))) = false := hne
    clear hne
    have hLL : dLo (dLo (-N + -1)) = dLo (-N + -1) := dLo_dLo (-N + -1)
    clear hm
    have hρ' : (R != 0) = true := hρ
    clear hρ
    go_enter Tryz.func125, Tryz.ntmps125
    go_wp2_with fail
    refine (HD.out _).mono ?_
    rintro e w2 ⟨rfl, hw2⟩
    have D2 := (boxes w x 63).1.keeps hw2
    have K2 := (((Keeps.refl w).alloc _).alloc _).trans hw2
    clear hw2
    have hsz := D2.lt
    have d2 := D2.c1
    go_wp2_with fail
    refine (rneg_any _ _).mono ?_
    rintro e w3 ⟨rfl, hw3⟩
    have D3 := (D2.alloc _).keeps hw3
    have Q3 := (Box.new w2 (dLo N) (dHi N) 63).keeps hw3
    have K3 := (K2.alloc _).trans hw3
    obtain ⟨q0, q1, q2, q3, q4⟩ := Q3
    have d3 := D3.c1
    clear hw3 d2
    have Q4 := (Box.mk q0 q1 q2 q3 q4).set (dLo (-N)) (dHi (-N))
    have D4 := (D3.other (by omega) (o := 0) (C := w2.heap.size) (.int .i64 (dLo (-N)))).other (by omega) (o := 1) (C := w2.heap.size) (.int .i64 (dHi (-N)))
    have K4 := (K3.setCell (p := ⟨w2.heap.size, 0, none⟩) (by have := K2.size; simp; omega) (.int .i64 (dLo (-N)))).setCell (p := ⟨w2.heap.size, 1, none⟩) (by have := K2.size; simp; omega) (.int .i64 (dHi (-N)))
    have HB := Lib.hid (And.intro (Q4.keeps (Keeps.refl _).drew) (And.intro (D4.keeps (Keeps.refl _).drew) K4.drew))
    clear Q4 D4 K4
    go_wp2
    go_region_with (first
      | (go_at_call 127; refine (rof_any _ im1 _).mono ?_; rintro e w5 ⟨rfl, hw5⟩; obtain ⟨l0, l1, l2, l3, l4⟩ := HB.out.1.keeps hw5)
      | (go_at_call 128; refine (radd_any _ _ _).mono ?_; rintro e w6 ⟨rfl, hw6⟩; obtain ⟨p0, p1, p2, p3, p4⟩ := HB.out.1.keeps (hw5.trans hw6)))
    all_goals
      have Q7 := (Box.mk p0 p1 p2 p3 p4).set (dLo (-N + -1)) (dHi (-N + -1))
      have D7 := ((HB.out.2.1.keeps (hw5.trans hw6)).other (by omega) (o := 0) (C := w2.heap.size) (.int .i64 (dLo (-N + -1)))).other (by omega) (o := 1) (C := w2.heap.size) (.int .i64 (dHi (-N + -1)))
      have K7 := ((HB.out.2.2.trans (hw5.trans hw6)).setCell (p := ⟨w2.heap.size, 0, none⟩) (by have := K2.size; simp; omega) (.int .i64 (dLo (-N + -1)))).setCell (p := ⟨w2.heap.size, 1, none⟩) (by have := K2.size; simp; omega) (.int .i64 (dHi (-N + -1)))
      have HQ := Lib.hid (And.intro (Q7.keeps (Keeps.refl _).drew) (And.intro (D7.keeps (Keeps.refl _).drew) K7.drew))
      clear Q7 D7 K7 hw5 hw6 l0 l1 l2 l3 l4
      go_wp2
      go_region_held3 (fun w' => w2.heap.size < w'.heap.size ∧ w'.cell? ⟨w2.heap.size, 0, none⟩ = some (.int .i64 (dLo (-N + -1))) ∧ w'.cell? ⟨w2.heap.size, 1, none⟩ = some (.int .i64 (dHi (-N + -1)))) (first | assumption | exact ⟨HQ.out.1.lt, HQ.out.1.c0, HQ.out.1.c1⟩ | exact keepK hw9 ⟨HQ.out.1.lt, HQ.out.1.c0, HQ.out.1.c1⟩)
        (first
          | (go_at_call 127; refine (rof_any _ (dLo_in _) _).mono ?_; rintro e w9 ⟨rfl, hw9⟩))
      have D9 := HQ.out.2.1.keeps hw9
      have K9 := HQ.out.2.2.trans hw9
      have d9 := D9.c1
      go_wp2
      go_ret3
      exact ⟨by rw [HZ.out.1, HZ.out.2.1, HZ.out.2.2]; rfl, K9⟩
  · have heq' : dHi (dLo (-N + -1)) = dHi (-N + -1) := heq
    clear heq
    have hLL : dLo (dLo (-N + -1)) = dLo (-N + -1) := dLo_dLo (-N + -1)
    clear hm
    have hρ' : (R != 0) = true := hρ
    clear hρ
    go_enter Tryz.func125, Tryz.ntmps125
    go_wp2_with fail
    refine (HD.out _).mono ?_
    rintro e w2 ⟨rfl, hw2⟩
    have D2 := (boxes w x 63).1.keeps hw2
    have K2 := (((Keeps.refl w).alloc _).alloc _).trans hw2
    clear hw2
    have hsz := D2.lt
    have d2 := D2.c1
    go_wp2_with fail
    refine (rneg_any _ _).mono ?_
    rintro e w3 ⟨rfl, hw3⟩
    have D3 := (D2.alloc _).keeps hw3
    have Q3 := (Box.new w2 (dLo N) (dHi N) 63).keeps hw3
    have K3 := (K2.alloc _).trans hw3
    obtain ⟨q0, q1, q2, q3, q4⟩ := Q3
    have d3 := D3.c1
    clear hw3 d2
    have Q4 := (Box.mk q0 q1 q2 q3 q4).set (dLo (-N)) (dHi (-N))
    have D4 := (D3.other (by omega) (o := 0) (C := w2.heap.size) (.int .i64 (dLo (-N)))).other (by omega) (o := 1) (C := w2.heap.size) (.int .i64 (dHi (-N)))
    have K4 := (K3.setCell (p := ⟨w2.heap.size, 0, none⟩) (by have := K2.size; simp; omega) (.int .i64 (dLo (-N)))).setCell (p := ⟨w2.heap.size, 1, none⟩) (by have := K2.size; simp; omega) (.int .i64 (dHi (-N)))
    have HB := Lib.hid (And.intro (Q4.keeps (Keeps.refl _).drew) (And.intro (D4.keeps (Keeps.refl _).drew) K4.drew))
    clear Q4 D4 K4
    go_wp2
    go_region_with (first
      | (go_at_call 127; refine (rof_any _ im1 _).mono ?_; rintro e w5 ⟨rfl, hw5⟩; obtain ⟨l0, l1, l2, l3, l4⟩ := HB.out.1.keeps hw5)
      | (go_at_call 128; refine (radd_any _ _ _).mono ?_; rintro e w6 ⟨rfl, hw6⟩; obtain ⟨p0, p1, p2, p3, p4⟩ := HB.out.1.keeps (hw5.trans hw6)))
    all_goals
      have Q7 := (Box.mk p0 p1 p2 p3 p4).set (dLo (-N + -1)) (dHi (-N + -1))
      have D7 := ((HB.out.2.1.keeps (hw5.trans hw6)).other (by omega) (o := 0) (C := w2.heap.size) (.int .i64 (dLo (-N + -1)))).other (by omega) (o := 1) (C := w2.heap.size) (.int .i64 (dHi (-N + -1)))
      have K7 := ((HB.out.2.2.trans (hw5.trans hw6)).setCell (p := ⟨w2.heap.size, 0, none⟩) (by have := K2.size; simp; omega) (.int .i64 (dLo (-N + -1)))).setCell (p := ⟨w2.heap.size, 1, none⟩) (by have := K2.size; simp; omega) (.int .i64 (dHi (-N + -1)))
      have HQ := Lib.hid (And.intro (Q7.keeps (Keeps.refl _).drew) (And.intro (D7.keeps (Keeps.refl _).drew) K7.drew))
      clear Q7 D7 K7 hw5 hw6 l0 l1 l2 l3 l4
      go_wp2
      go_region_held3 (fun w' => w2.heap.size < w'.heap.size ∧ w'.cell? ⟨w2.heap.size, 0, none⟩ = some (.int .i64 (dLo (-N + -1))) ∧ w'.cell? ⟨w2.heap.size, 1, none⟩ = some (.int .i64 (dHi (-N + -1)))) (first | assumption | exact ⟨HQ.out.1.lt, HQ.out.1.c0, HQ.out.1.c1⟩ | exact keepK hw9 ⟨HQ.out.1.lt, HQ.out.1.c0, HQ.out.1.c1⟩)
        (first
          | (go_at_call 127; refine (rof_any _ (dLo_in _) _).mono ?_; rintro e w9 ⟨rfl, hw9⟩))
      have D9 := HQ.out.2.1.keeps hw9
      have K9 := HQ.out.2.2.trans hw9
      have d9 := D9.c1
      go_wp2
      go_quiet (fail)
      go_wp2
      go_ret3
      exact ⟨by rw [HZ.out.1, HZ.out.2.1, HZ.out.2.2]; rfl, K9.drewN _⟩
set_option maxRecDepth 100000 in
set_option maxHeartbeats 4000000 in
theorem rfloor_tf (x n N R : Int) (hn : InC n) (h0 : n ≠ 0) (hs : decide (dHi x < 0) = true) (ht : decide (n < 0) = false) (S : Signs x n true false N R) (w : World) :
    Calls Tryz.prog 125 #[.agg #[.int .i64 (dLo x), .int .i64 (dHi x)], .int .i64 n] w fun e w' => e = .returned (.tuple #[.int .i64 (fR x n), .int .i64 (fQ x n), .int .i64 (fE x n)]) ∧ Keeps w w' := by
  have HD : Hid (∀ w : World, Calls Tryz.prog 147 #[.agg #[.int .i64 (dLo (-x)), .int .i64 (dHi (-x))], .int .i64 n] w fun e w' => e = .returned (.tuple #[.int .i64 (dLo R), .agg #[.int .i64 (dLo N), .int .i64 (dHi N)]]) ∧ Keeps w w') := fun w => rdiv_sg hn h0 ht S w
  have hn0 : (n == 0) = false := by simpa using h0
  have hR : dLo R = R := dLo_cell ⟨by have := S.r0; omega, by have := S.r1; omega⟩
  have hway : RFloorWay x n true true N R := rfloor_way hn h0 ht S
  clear h0 hn S
  rcases hway with ⟨hm, hfar, HZ⟩ | ⟨hlow, hρ, hne, HZ⟩ | ⟨hlow, hρ, heq, HZ⟩ | ⟨hm, hρ, hne, HZ⟩ | ⟨hm, hρ, heq, HZ⟩
  · exact absurd hm (by decide)
  · have hne' : (dHi (-N) == dHi (dLo (-N))) = false := hne
    clear hne
    have hLL : dLo (dLo (-N)) = dLo (-N) := dLo_dLo (-N)
    clear hlow
    have hρ' : ((wrap64 (-R)) != 0) = false := hρ rfl
    clear hρ
    go_enter Tryz.func125, Tryz.ntmps125
    go_wp2_with fail
    refine (rneg_any _ _).mono ?_
    rintro e w1 ⟨rfl, hw1⟩
    have D1 := (boxes w x 63).1.keeps hw1
    have X1 := (boxes w x 63).2.keeps hw1
    have K1 := (((Keeps.refl w).alloc _).alloc _).trans hw1
    obtain ⟨x0, x1, x2, x3, x4⟩ := X1
    have d1 := D1.c1
    clear hw1
    go_wp2_with fail
    refine (HD.out _).mono ?_
    rintro e w2 ⟨rfl, hw2⟩
    have D2 := ((D1.other (by omega) _).other (by omega) _).keeps hw2
    have K2 := ((K1.setCell (by simp) _).setCell (by simp) _).trans hw2
    clear D1 K1 d1 x0 x1 x2 x3 x4 hw2
    have hsz := D2.lt
    have d2 := D2.c1
    go_wp2_with fail
    refine (rneg_any _ _).mono ?_
    rintro e w3 ⟨rfl, hw3⟩
    have D3 := (D2.alloc _).keeps hw3
    have Q3 := (Box.new w2 (dLo N) (dHi N) 63).keeps hw3
    have K3 := (K2.alloc _).trans hw3
    obtain ⟨q0, q1, q2, q3, q4⟩ := Q3
    have d3 := D3.c1
    clear hw3 d2
    have Q4 := (Box.mk q0 q1 q2 q3 q4).set (dLo (-N)) (dHi (-N))
    have D4 := (D3.other (by omega) (o := 0) (C := w2.heap.size) (.int .i64 (dLo (-N)))).other (by omega) (o := 1) (C := w2.heap.size) (.int .i64 (dHi (-N)))
    have K4 := (K3.setCell (p := ⟨w2.heap.size, 0, none⟩) (by have := K2.size; simp; omega) (.int .i64 (dLo (-N)))).setCell (p := ⟨w2.heap.size, 1, none⟩) (by have := K2.size; simp; omega) (.int .i64 (dHi (-N)))
    have HQ := Lib.hid (And.intro (Q4.keeps (Keeps.refl _).drew) (And.intro (D4.keeps (Keeps.refl _).drew) K4.drew))
    clear Q4 D4 K4
    go_wp2
    go_region_held3 (fun w' => w2.heap.size < w'.heap.size ∧ w'.cell? ⟨w2.heap.size, 0, none⟩ = some (.int .i64 (dLo (-N))) ∧ w'.cell? ⟨w2.heap.size, 1, none⟩ = some (.int .i64 (dHi (-N)))) (first | assumption | exact ⟨HQ.out.1.lt, HQ.out.1.c0, HQ.out.1.c1⟩ | exact keepK hw9 ⟨HQ.out.1.lt, HQ.out.1.c0, HQ.out.1.c1⟩)
      (first
        | (go_at_call 127; refine (rof_any _ (dLo_in _) _).mono ?_; rintro e w9 ⟨rfl, hw9⟩))
    have D9 := HQ.out.2.1.keeps hw9
    have K9 := HQ.out.2.2.trans hw9
    have d9 := D9.c1
    go_wp2
    go_ret3
    exact ⟨by rw [HZ.out.1, HZ.out.2.1, HZ.out.2.2]; rfl, K9⟩
  · have heq' : dHi (dLo (-N)) = dHi (-N) := heq
    clear heq
    have hLL : dLo (dLo (-N)) = dLo (-N) := dLo_dLo (-N)
    clear hlow
    have hρ' : ((wrap64 (-R)) != 0) = false := hρ rfl
    clear hρ
    go_enter Tryz.func125, Tryz.ntmps125
    go_wp2_with fail
    refine (rneg_any _ _).mono ?_
    rintro e w1 ⟨rfl, hw1⟩
    have D1 := (boxes w x 63).1.keeps hw1
    have X1 := (boxes w x 63).2.keeps hw1
    have K1 := (((Keeps.refl w).alloc _).alloc _).trans hw1
    obtain ⟨x0, x1, x2, x3, x4⟩ := X1
    have d1 := D1.c1
    clear hw1
    go_wp2_with fail
    refine (HD.out _).mono ?_
    rintro e w2 ⟨rfl, hw2⟩
    have D2 := ((D1.other (by omega) _).other (by omega) _).keeps hw2
    have K2 := ((K1.setCell (by simp) _).setCell (by simp) _).trans hw2
    clear D1 K1 d1 x0 x1 x2 x3 x4 hw2
    have hsz := D2.lt
    have d2 := D2.c1
    go_wp2_with fail
    refine (rneg_any _ _).mono ?_
    rintro e w3 ⟨rfl, hw3⟩
    have D3 := (D2.alloc _).keeps hw3
    have Q3 := (Box.new w2 (dLo N) (dHi N) 63).keeps hw3
    have K3 := (K2.alloc _).trans hw3
    obtain ⟨q0, q1, q2, q3, q4⟩ := Q3
    have d3 := D3.c1
    clear hw3 d2
    have Q4 := (Box.mk q0 q1 q2 q3 q4).set (dLo (-N)) (dHi (-N))
    have D4 := (D3.other (by omega) (o := 0) (C := w2.heap.size) (.int .i64 (dLo (-N)))).other (by omega) (o := 1) (C := w2.heap.size) (.int .i64 (dHi (-N)))
    have K4 := (K3.setCell (p := ⟨w2.heap.size, 0, none⟩) (by have := K2.size; simp; omega) (.int .i64 (dLo (-N)))).setCell (p := ⟨w2.heap.size, 1, none⟩) (by have := K2.size; simp; omega) (.int .i64 (dHi (-N)))
    have HQ := Lib.hid (And.intro (Q4.keeps (Keeps.refl _).drew) (And.intro (D4.keeps (Keeps.refl _).drew) K4.drew))
    clear Q4 D4 K4
    go_wp2
    go_region_held3 (fun w' => w2.heap.size < w'.heap.size ∧ w'.cell? ⟨w2.heap.size, 0, none⟩ = some (.int .i64 (dLo (-N))) ∧ w'.cell? ⟨w2.heap.size, 1, none⟩ = some (.int .i64 (dHi (-N)))) (first | assumption | exact ⟨HQ.out.1.lt, HQ.out.1.c0, HQ.out.1.c1⟩ | exact keepK hw9 ⟨HQ.out.1.lt, HQ.out.1.c0, HQ.out.1.c1⟩)
      (first
        | (go_at_call 127; refine (rof_any _ (dLo_in _) _).mono ?_; rintro e w9 ⟨rfl, hw9⟩))
    have D9 := HQ.out.2.1.keeps hw9
    have K9 := HQ.out.2.2.trans hw9
    have d9 := D9.c1
    go_wp2
    go_quiet (fail)
    go_wp2
    go_ret3
    exact ⟨by rw [HZ.out.1, HZ.out.2.1, HZ.out.2.2]; rfl, K9.drewN _⟩
  · have hne' : (dHi (-N + -1) == dHi (dLo (-N + -1))) = false := hne
    clear hne
    have hLL : dLo (dLo (-N + -1)) = dLo (-N + -1) := dLo_dLo (-N + -1)
    clear hm
    have hρ' : ((wrap64 (-R)) != 0) = true := hρ
    clear hρ
    go_enter Tryz.func125, Tryz.ntmps125
    go_wp2_with fail
    refine (rneg_any _ _).mono ?_
    rintro e w1 ⟨rfl, hw1⟩
    have D1 := (boxes w x 63).1.keeps hw1
    have X1 := (boxes w x 63).2.keeps hw1
    have K1 := (((Keeps.refl w).alloc _).alloc _).trans hw1
    obtain ⟨x0, x1, x2, x3, x4⟩ := X1
    have d1 := D1.c1
    clear hw1
    go_wp2_with fail
    refine (HD.out _).mono ?_
    rintro e w2 ⟨rfl, hw2⟩
    have D2 := ((D1.other (by omega) _).other (by omega) _).keeps hw2
    have K2 := ((K1.setCell (by simp) _).setCell (by simp) _).trans hw2
    clear D1 K1 d1 x0 x1 x2 x3 x4 hw2
    have hsz := D2.lt
    have d2 := D2.c1
    go_wp2_with fail
    refine (rneg_any _ _).mono ?_
    rintro e w3 ⟨rfl, hw3⟩
    have D3 := (D2.alloc _).keeps hw3
    have Q3 := (Box.new w2 (dLo N) (dHi N) 63).keeps hw3
    have K3 := (K2.alloc _).trans hw3
    obtain ⟨q0, q1, q2, q3, q4⟩ := Q3
    have d3 := D3.c1
    clear hw3 d2
    have Q4 := (Box.mk q0 q1 q2 q3 q4).set (dLo (-N)) (dHi (-N))
    have D4 := (D3.other (by omega) (o := 0) (C := w2.heap.size) (.int .i64 (dLo (-N)))).other (by omega) (o := 1) (C := w2.heap.size) (.int .i64 (dHi (-N)))
    have K4 := (K3.setCell (p := ⟨w2.heap.size, 0, none⟩) (by have := K2.size; simp; omega) (.int .i64 (dLo (-N)))).setCell (p := ⟨w2.heap.size, 1, none⟩) (by have := K2.size; simp; omega) (.int .i64 (dHi (-N)))
    have HB := Lib.hid (And.intro (Q4.keeps (Keeps.refl _).drew) (And.intro (D4.keeps (Keeps.refl _).drew) K4.drew))
    clear Q4 D4 K4
    go_wp2
    go_region_with (first
      | (go_at_call 127; refine (rof_any _ im1 _).mono ?_; rintro e w5 ⟨rfl, hw5⟩; obtain ⟨l0, l1, l2, l3, l4⟩ := HB.out.1.keeps hw5)
      | (go_at_call 128; refine (radd_any _ _ _).mono ?_; rintro e w6 ⟨rfl, hw6⟩; obtain ⟨p0, p1, p2, p3, p4⟩ := HB.out.1.keeps (hw5.trans hw6)))
    all_goals
      have Q7 := (Box.mk p0 p1 p2 p3 p4).set (dLo (-N + -1)) (dHi (-N + -1))
      have D7 := ((HB.out.2.1.keeps (hw5.trans hw6)).other (by omega) (o := 0) (C := w2.heap.size) (.int .i64 (dLo (-N + -1)))).other (by omega) (o := 1) (C := w2.heap.size) (.int .i64 (dHi (-N + -1)))
      have K7 := ((HB.out.2.2.trans (hw5.trans hw6)).setCell (p := ⟨w2.heap.size, 0, none⟩) (by have := K2.size; simp; omega) (.int .i64 (dLo (-N + -1)))).setCell (p := ⟨w2.heap.size, 1, none⟩) (by have := K2.size; simp; omega) (.int .i64 (dHi (-N + -1)))
      have HQ := Lib.hid (And.intro (Q7.keeps (Keeps.refl _).drew) (And.intro (D7.keeps (Keeps.refl _).drew) K7.drew))
      clear Q7 D7 K7 hw5 hw6 l0 l1 l2 l3 l4
      go_wp2
      go_region_held3 (fun w' => w2.heap.size < w'.heap.size ∧ w'.cell? ⟨w2.heap.size, 0, none⟩ = some (.int .i64 (dLo (-N + -1))) ∧ w'.cell? ⟨w2.heap.size, 1, none⟩ = some (.int .i64 (dHi (-N + -1)))) (first | assumption | exact ⟨HQ.out.1.lt, HQ.out.1.c0, HQ.out.1.c1⟩ | exact keepK hw9 ⟨HQ.out.1.lt, HQ.out.1.c0, HQ.out.1.c1⟩)
        (first
          | (go_at_call 127; refine (rof_any _ (dLo_in _) _).mono ?_; rintro e w9 ⟨rfl, hw9⟩))
      have D9 := HQ.out.2.1.keeps hw9
      have K9 := HQ.out.2.2.trans hw9
      have d9 := D9.c1
      go_wp2
      go_ret3
      exact ⟨by rw [HZ.out.1, HZ.out.2.1, HZ.out.2.2]; rfl, K9⟩
  · have heq' : dHi (dLo (-N + -1)) = dHi (-N + -1) := heq
    clear heq
    have hLL : dLo (dLo (-N + -1)) = dLo (-N + -1) := dLo_dLo (-N + -1)
    clear hm
    have hρ' : ((wrap64 (-R)) != 0) = true := hρ
    clear hρ
    go_enter Tryz.func125, Tryz.ntmps125
    go_wp2_with fail
    refine (rneg_any _ _).mono ?_
    rintro e w1 ⟨rfl, hw1⟩
    have D1 := (boxes w x 63).1.keeps hw1
    have X1 := (boxes w x 63).2.keeps hw1
    have K1 := (((Keeps.refl w).alloc _).alloc _).trans hw1
    obtain ⟨x0, x1, x2, x3, x4⟩ := X1
    have d1 := D1.c1
    clear hw1
    go_wp2_with fail
    refine (HD.out _).mono ?_
    rintro e w2 ⟨rfl, hw2⟩
    have D2 := ((D1.other (by omega) _).other (by omega) _).keeps hw2
    have K2 := ((K1.setCell (by simp) _).setCell (by simp) _).trans hw2
    clear D1 K1 d1 x0 x1 x2 x3 x4 hw2
    have hsz := D2.lt
    have d2 := D2.c1
    go_wp2_with fail
    refine (rneg_any _ _).mono ?_
    rintro e w3 ⟨rfl, hw3⟩
    have D3 := (D2.alloc _).keeps hw3
    have Q3 := (Box.new w2 (dLo N) (dHi N) 63).keeps hw3
    have K3 := (K2.alloc _).trans hw3
    obtain ⟨q0, q1, q2, q3, q4⟩ := Q3
    have d3 := D3.c1
    clear hw3 d2
    have Q4 := (Box.mk q0 q1 q2 q3 q4).set (dLo (-N)) (dHi (-N))
    have D4 := (D3.other (by omega) (o := 0) (C := w2.heap.size) (.int .i64 (dLo (-N)))).other (by omega) (o := 1) (C := w2.heap.size) (.int .i64 (dHi (-N)))
    have K4 := (K3.setCell (p := ⟨w2.heap.size, 0, none⟩) (by have := K2.size; simp; omega) (.int .i64 (dLo (-N)))).setCell (p := ⟨w2.heap.size, 1, none⟩) (by have := K2.size; simp; omega) (.int .i64 (dHi (-N)))
    have HB := Lib.hid (And.intro (Q4.keeps (Keeps.refl _).drew) (And.intro (D4.keeps (Keeps.refl _).drew) K4.drew))
    clear Q4 D4 K4
    go_wp2
    go_region_with (first
      | (go_at_call 127; refine (rof_any _ im1 _).mono ?_; rintro e w5 ⟨rfl, hw5⟩; obtain ⟨l0, l1, l2, l3, l4⟩ := HB.out.1.keeps hw5)
      | (go_at_call 128; refine (radd_any _ _ _).mono ?_; rintro e w6 ⟨rfl, hw6⟩; obtain ⟨p0, p1, p2, p3, p4⟩ := HB.out.1.keeps (hw5.trans hw6)))
    all_goals
      have Q7 := (Box.mk p0 p1 p2 p3 p4).set (dLo (-N + -1)) (dHi (-N + -1))
      have D7 := ((HB.out.2.1.keeps (hw5.trans hw6)).other (by omega) (o := 0) (C := w2.heap.size) (.int .i64 (dLo (-N + -1)))).other (by omega) (o := 1) (C := w2.heap.size) (.int .i64 (dHi (-N + -1)))
      have K7 := ((HB.out.2.2.trans (hw5.trans hw6)).setCell (p := ⟨w2.heap.size, 0, none⟩) (by have := K2.size; simp; omega) (.int .i64 (dLo (-N + -1)))).setCell (p := ⟨w2.heap.size, 1, none⟩) (by have := K2.size; simp; omega) (.int .i64 (dHi (-N + -1)))
      have HQ := Lib.hid (And.intro (Q7.keeps (Keeps.refl _).drew) (And.intro (D7.keeps (Keeps.refl _).drew) K7.drew))
      clear Q7 D7 K7 hw5 hw6 l0 l1 l2 l3 l4
      go_wp2
      go_region_held3 (fun w' => w2.heap.size < w'.heap.size ∧ w'.cell? ⟨w2.heap.size, 0, none⟩ = some (.int .i64 (dLo (-N + -1))) ∧ w'.cell? ⟨w2.heap.size, 1, none⟩ = some (.int .i64 (dHi (-N + -1)))) (first | assumption | exact ⟨HQ.out.1.lt, HQ.out.1.c0, HQ.out.1.c1⟩ | exact keepK hw9 ⟨HQ.out.1.lt, HQ.out.1.c0, HQ.out.1.c1⟩)
        (first
          | (go_at_call 127; refine (rof_any _ (dLo_in _) _).mono ?_; rintro e w9 ⟨rfl, hw9⟩))
      have D9 := HQ.out.2.1.keeps hw9
      have K9 := HQ.out.2.2.trans hw9
      have d9 := D9.c1
      go_wp2
      go_quiet (fail)
      go_wp2
      go_ret3
      exact ⟨by rw [HZ.out.1, HZ.out.2.1, HZ.out.2.2]; rfl, K9.drewN _⟩
set_option maxRecDepth 100000 in
set_option maxHeartbeats 4000000 in
theorem rfloor_tt (x n N R : Int) (hn : InC n) (h0 : n ≠ 0) (hs : decide (dHi x < 0) = true) (ht : decide (n < 0) = true) (S : Signs x n true true N R) (w : World) :
    Calls Tryz.prog 125 #[.agg #[.int .i64 (dLo x), .int .i64 (dHi x)], .int .i64 n] w fun e w' => e = .returned (.tuple #[.int .i64 (fR x n), .int .i64 (fQ x n), .int .i64 (fE x n)]) ∧ Keeps w w' := by
  have HD : Hid (∀ w : World, Calls Tryz.prog 147 #[.agg #[.int .i64 (dLo (-x)), .int .i64 (dHi (-x))], .int .i64 (wrap64 (-n))] w fun e w' => e = .returned (.tuple #[.int .i64 (dLo R), .agg #[.int .i64 (dLo N), .int .i64 (dHi N)]]) ∧ Keeps w w') := fun w => rdiv_sg hn h0 ht S w
  have hn0 : (n == 0) = false := by simpa using h0
  have hR : dLo R = R := dLo_cell ⟨by have := S.r0; omega, by have := S.r1; omega⟩
  have hway : RFloorWay x n true false N R := rfloor_way hn h0 ht S
  clear h0 hn S
  rcases hway with ⟨hm, hfar, HZ⟩ | ⟨hlow, hρ, hne, HZ⟩ | ⟨hlow, hρ, heq, HZ⟩ | ⟨hm, hρ, hne, HZ⟩ | ⟨hm, hρ, heq, HZ⟩
  · clear hm
    go_enter Tryz.func125, Tryz.ntmps125
    go_wp2_with fail
    refine (rneg_any _ _).mono ?_
    rintro e w1 ⟨rfl, hw1⟩
    have D1 := (boxes w x 63).1.keeps hw1
    have X1 := (boxes w x 63).2.keeps hw1
    have K1 := (((Keeps.refl w).alloc _).alloc _).trans hw1
    obtain ⟨x0, x1, x2, x3, x4⟩ := X1
    have d1 := D1.c1
    clear hw1
    go_wp2_with fail
    refine (HD.out _).mono ?_
    rintro e w2 ⟨rfl, hw2⟩
    have D2 := ((D1.other (by omega) _).other (by omega) _).keeps hw2
    have K2 := ((K1.setCell (by simp) _).setCell (by simp) _).trans hw2
    clear D1 K1 d1 x0 x1 x2 x3 x4 hw2
    have hsz := D2.lt
    have d2 := D2.c1
    go_wp2
    go_ret3
    exact ⟨by rw [HZ.out.1, HZ.out.2.1, HZ.out.2.2]; rfl, K2.alloc _⟩
  · have hne' : (dHi N == dHi (dLo N)) = false := hne
    clear hne
    have hLL : dLo (dLo N) = dLo N := dLo_dLo N
    replace hlow := hlow rfl
    clear hρ
    go_enter Tryz.func125, Tryz.ntmps125
    go_wp2_with fail
    refine (rneg_any _ _).mono ?_
    rintro e w1 ⟨rfl, hw1⟩
    have D1 := (boxes w x 63).1.keeps hw1
    have X1 := (boxes w x 63).2.keeps hw1
    have K1 := (((Keeps.refl w).alloc _).alloc _).trans hw1
    obtain ⟨x0, x1, x2, x3, x4⟩ := X1
    have d1 := D1.c1
    clear hw1
    go_wp2_with fail
    refine (HD.out _).mono ?_
    rintro e w2 ⟨rfl, hw2⟩
    have D2 := ((D1.other (by omega) _).other (by omega) _).keeps hw2
    have K2 := ((K1.setCell (by simp) _).setCell (by simp) _).trans hw2
    clear D1 K1 d1 x0 x1 x2 x3 x4 hw2
    have hsz := D2.lt
    have d2 := D2.c1
    have HQ := Lib.hid (And.intro ((Box.new w2 (dLo N) (dHi N) 63).keeps (Keeps.refl _).drew) (And.intro ((D2.alloc (.cells #[.int .i64 (dLo N), .int .i64 (dHi N)] 63)).keeps (Keeps.refl _).drew) (K2.alloc (.cells #[.int .i64 (dLo N), .int .i64 (dHi N)] 63)).drew))
    go_wp2
    go_region_held3 (fun w' => w2.heap.size < w'.heap.size ∧ w'.cell? ⟨w2.heap.size, 0, none⟩ = some (.int .i64 (dLo N)) ∧ w'.cell? ⟨w2.heap.size, 1, none⟩ = some (.int .i64 (dHi N))) (first | assumption | exact ⟨HQ.out.1.lt, HQ.out.1.c0, HQ.out.1.c1⟩ | exact keepK hw9 ⟨HQ.out.1.lt, HQ.out.1.c0, HQ.out.1.c1⟩)
      (first
        | (go_at_call 127; refine (rof_any _ (dLo_in _) _).mono ?_; rintro e w9 ⟨rfl, hw9⟩))
    have D9 := HQ.out.2.1.keeps hw9
    have K9 := HQ.out.2.2.trans hw9
    have d9 := D9.c1
    go_wp2
    go_ret3
    exact ⟨by rw [HZ.out.1, HZ.out.2.1, HZ.out.2.2]; rfl, K9⟩
  · have heq' : dHi (dLo N) = dHi N := heq
    clear heq
    have hLL : dLo (dLo N) = dLo N := dLo_dLo N
    replace hlow := hlow rfl
    clear hρ
    go_enter Tryz.func125, Tryz.ntmps125
    go_wp2_with fail
    refine (rneg_any _ _).mono ?_
    rintro e w1 ⟨rfl, hw1⟩
    have D1 := (boxes w x 63).1.keeps hw1
    have X1 := (boxes w x 63).2.keeps hw1
    have K1 := (((Keeps.refl w).alloc _).alloc _).trans hw1
    obtain ⟨x0, x1, x2, x3, x4⟩ := X1
    have d1 := D1.c1
    clear hw1
    go_wp2_with fail
    refine (HD.out _).mono ?_
    rintro e w2 ⟨rfl, hw2⟩
    have D2 := ((D1.other (by omega) _).other (by omega) _).keeps hw2
    have K2 := ((K1.setCell (by simp) _).setCell (by simp) _).trans hw2
    clear D1 K1 d1 x0 x1 x2 x3 x4 hw2
    have hsz := D2.lt
    have d2 := D2.c1
    have HQ := Lib.hid (And.intro ((Box.new w2 (dLo N) (dHi N) 63).keeps (Keeps.refl _).drew) (And.intro ((D2.alloc (.cells #[.int .i64 (dLo N), .int .i64 (dHi N)] 63)).keeps (Keeps.refl _).drew) (K2.alloc (.cells #[.int .i64 (dLo N), .int .i64 (dHi N)] 63)).drew))
    go_wp2
    go_region_held3 (fun w' => w2.heap.size < w'.heap.size ∧ w'.cell? ⟨w2.heap.size, 0, none⟩ = some (.int .i64 (dLo N)) ∧ w'.cell? ⟨w2.heap.size, 1, none⟩ = some (.int .i64 (dHi N))) (first | assumption | exact ⟨HQ.out.1.lt, HQ.out.1.c0, HQ.out.1.c1⟩ | exact keepK hw9 ⟨HQ.out.1.lt, HQ.out.1.c0, HQ.out.1.c1⟩)
      (first
        | (go_at_call 127; refine (rof_any _ (dLo_in _) _).mono ?_; rintro e w9 ⟨rfl, hw9⟩))
    have D9 := HQ.out.2.1.keeps hw9
    have K9 := HQ.out.2.2.trans hw9
    have d9 := D9.c1
    go_wp2
    go_quiet (fail)
    go_wp2
    go_ret3
    exact ⟨by rw [HZ.out.1, HZ.out.2.1, HZ.out.2.2]; rfl, K9.drewN _⟩
  · exact absurd hm (by decide)
  · exact absurd hm (by decide)
end Go.Proofs.YtnlkggfgloblcaaGreat
