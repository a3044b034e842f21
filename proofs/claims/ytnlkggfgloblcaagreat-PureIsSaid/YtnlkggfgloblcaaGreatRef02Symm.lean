/-
  What the document calls UMod and Symm of layer 2: what is left, the quotient and the throw, by whole numbers. Of what was there nothing changes.
-/
import Derived.Test.YtnlkggfgloblcaaGreatRef02Divide
import Derived.Test.YtnlkggfgloblcaaGreatRef02Signs
namespace Go.Proofs.YtnlkggfgloblcaaGreat
open Go.RowKit
theorem hi_zero {N : Int} (h0 : 0 ≤ N) (h1 : N < 340282366920938463463374607431768211456) : (dHi N != 0) = decide (18446744073709551616 ≤ N) := by
  unfold dHi wrap64
  rw [Bool.eq_iff_iff]
  simp
  omega
set_option maxHeartbeats 1000000 in
theorem rumod_any (x u : Int) (hu : InC u) (w : World) :
    Calls Tryz.prog 124 #[.agg #[.int .i64 (dLo x), .int .i64 (dHi x)], .int .i64 u] w fun e w' => e = .returned (.tuple #[.int .i64 (uR x u), .int .i64 (uQ x u), .int .i64 (uE x u)]) ∧ Keeps w w' := by
  by_cases h0 : u = 0
  · subst h0
    have HZ := Lib.hid (umod_zero x)
    go_enter Tryz.func124, Tryz.ntmps124
    go_wp2
    go_ret3
    exact ⟨by rw [HZ.out.1, HZ.out.2.1, HZ.out.2.2]; rfl, (Keeps.refl _).alloc _⟩
  · have hU := u_pos hu h0
    have h0' : (u == 0) = false := by simpa using h0
    have q0 := Int.ediv_nonneg (show 0 ≤ x % 340282366920938463463374607431768211456 by omega) (show 0 ≤ u % 18446744073709551616 by omega)
    have q1 : x % 340282366920938463463374607431768211456 / (u % 18446744073709551616) ≤ x % 340282366920938463463374607431768211456 := Int.ediv_le_self _ (by omega)
    have hz := hi_zero q0 (by omega)
    have HD := Lib.hid (fun w => rdivide_any x u hu h0 w)
    by_cases hc : 18446744073709551616 ≤ x % 340282366920938463463374607431768211456 / (u % 18446744073709551616)
    · have e : uE x u = -11 := by unfold uE; rw [if_neg h0, if_pos hc]
      have HZ : Hid (uE x u = -11 ∧ uR x u = 0 ∧ uQ x u = 0) := ⟨e, by simp [uR, e], by simp [uQ, e]⟩
      rw [decide_eq_true hc] at hz
      generalize x % 340282366920938463463374607431768211456 / (u % 18446744073709551616) = N at *
      generalize x % 340282366920938463463374607431768211456 % (u % 18446744073709551616) = R at *
      clear hu h0 hU q0 q1 hc e
      go_enter Tryz.func124, Tryz.ntmps124
      go_wp2_with (go_at_call 147; refine (HD.out _).mono ?_; rintro e w1 ⟨rfl, hw1⟩)
      go_ret3
      exact ⟨by rw [HZ.out.1, HZ.out.2.1, HZ.out.2.2]; rfl, (((Keeps.refl _).alloc _).trans hw1).alloc _⟩
    · have e : uE x u = 0 := by unfold uE; rw [if_neg h0, if_neg hc]
      have HZ : Hid (uE x u = 0 ∧ uR x u = dLo (x % 340282366920938463463374607431768211456 % (u % 18446744073709551616)) ∧ uQ x u = dLo (x % 340282366920938463463374607431768211456 / (u % 18446744073709551616))) := ⟨e, by simp [uR, e, dLo], by simp [uQ, e, dLo]⟩
      rw [decide_eq_false hc] at hz
      generalize x % 340282366920938463463374607431768211456 / (u % 18446744073709551616) = N at *
      generalize x % 340282366920938463463374607431768211456 % (u % 18446744073709551616) = R at *
      clear hu h0 hU q0 q1 hc e
      go_enter Tryz.func124, Tryz.ntmps124
      go_wp2_with (go_at_call 147; refine (HD.out _).mono ?_; rintro e w1 ⟨rfl, hw1⟩)
      go_quiet (fail)
      go_wp2
      go_ret3
      exact ⟨by rw [HZ.out.1, HZ.out.2.1, HZ.out.2.2]; rfl, ((((Keeps.refl _).alloc _).trans hw1).alloc _).drewN _⟩

theorem rdiv_sg {x n N R : Int} {s t : Bool} (hn : InC n) (h0 : n ≠ 0) (ht : decide (n < 0) = t) (S : Signs x n s t N R) (w : World) :
    Calls Tryz.prog 147 #[.agg #[.int .i64 (dLo (sgI x s)), .int .i64 (dHi (sgI x s))], .int .i64 (sgZ n t)] w fun e w' => e = .returned (.tuple #[.int .i64 (dLo R), .agg #[.int .i64 (dLo N), .int .i64 (dHi N)]]) ∧ Keeps w w' := by
  have hz : sgZ n t ≠ 0 := by subst ht; exact fun e => h0 ((sg_zero hn).1 e)
  have h := rdivide_any (sgI x s) (sgZ n t) (sg_in hn t) hz w
  rw [S.eN, S.eR] at h
  exact h
theorem boxes (w : World) (x : Int) (t : TypeId) : Box ((w.alloc (.cells #[.int .i64 (dLo x), .int .i64 (dHi x)] t)).alloc (.cells #[.int .i64 (dLo x), .int .i64 (dHi x)] t)) w.heap.size (dLo x) (dHi x) ∧
    Box ((w.alloc (.cells #[.int .i64 (dLo x), .int .i64 (dHi x)] t)).alloc (.cells #[.int .i64 (dLo x), .int .i64 (dHi x)] t)) (w.heap.size + 1) (dLo x) (dHi x) :=
  ⟨(Box.new w _ _ t).alloc _, Box.new1 w _ _ _ t⟩
set_option maxRecDepth 100000 in
set_option maxHeartbeats 2000000 in
theorem rsymm_ff (x n N R : Int) (hn : InC n) (h0 : n ≠ 0) (hs : decide (dHi x < 0) = false) (ht : decide (n < 0) = false) (S : Signs x n false false N R) (w : World) :
    Calls Tryz.prog 126 #[.agg #[.int .i64 (dLo x), .int .i64 (dHi x)], .int .i64 n] w fun e w' => e = .returned (.tuple #[.int .i64 (sR x n), .int .i64 (sQ x n), .int .i64 (sE x n)]) ∧ Keeps w w' := by
  have HD : Hid (∀ w : World, Calls Tryz.prog 147 #[.agg #[.int .i64 (dLo x), .int .i64 (dHi x)], .int .i64 n] w fun e w' => e = .returned (.tuple #[.int .i64 (dLo R), .agg #[.int .i64 (dLo N), .int .i64 (dHi N)]]) ∧ Keeps w w') := fun w => rdiv_sg hn h0 ht S w
  have hn0 : (n == 0) = false := by simpa using h0
  have hR : dLo R = R := dLo_cell ⟨by have := S.r0; omega, by have := S.r1; omega⟩
  have hway : RSymmWay x n false false N R := rsymm_way h0 S
  have hLL : dLo (dLo N) = dLo N := dLo_dLo N
  clear h0 hn S
  rcases hway with ⟨hm, hfar, HZ⟩ | ⟨hlow, hne, HZ⟩ | ⟨hlow, heq, HZ⟩
  · clear hm
    go_enter Tryz.func126, Tryz.ntmps126
    go_wp2_with fail
    refine (HD.out _).mono ?_
    rintro e w2 ⟨rfl, hw2⟩
    have D2 := (boxes w x 63).1.keeps hw2
    have K2 := (((Keeps.refl w).alloc _).alloc _).trans hw2
    clear hw2
    have hsz := D2.lt
    have d2 := D2.c1
    go_wp2
    go_ret3
    exact ⟨by rw [HZ.out.1, HZ.out.2.1, HZ.out.2.2]; rfl, K2.alloc _⟩
  · have hne' : (dHi N == dHi (dLo N)) = false := hne
    clear hne
    replace hlow := hlow rfl
    go_enter Tryz.func126, Tryz.ntmps126
    go_wp2_with fail
    refine (HD.out _).mono ?_
    rintro e w2 ⟨rfl, hw2⟩
    have D2 := (boxes w x 63).1.keeps hw2
    have K2 := (((Keeps.refl w).alloc _).alloc _).trans hw2
    clear hw2
    have hsz := D2.lt
    have d2 := D2.c1
    have HQ := Lib.hid (And.intro ((Box.new w2 (dLo N) (dHi N) 63).keeps (Keeps.refl _).drew) (And.intro ((D2.alloc (.cells #[.int .i64 (dLo N), .int .i64 (dHi N)] 63)).keeps (Keeps.refl _).drew) (K2.alloc (.cells #[.int .i64 (dLo N), .int .i64 (dHi N)] 63)).drew))
    go_wp2
    go_region_held3 (fun w' => w2.heap.size < w'.heap.size ∧ w'.cell? ⟨w2.heap.size, 0, none⟩ = some (.int .i64 (dLo N)) ∧ w'.cell? ⟨w2.heap.size, 1, none⟩ = some (.int .i64 (dHi N))) (first | assumption | exact ⟨HQ.out.1.lt, HQ.out.1.c0, HQ.out.1.c1⟩ | exact keepK hw9 ⟨HQ.out.1.lt, HQ.out.1.c0, HQ.out.1.c1⟩)
      (first
        | (go_at_call 127; refine (rof_any _ (dLo_in _) _).mono ?_; rintro e w9 ⟨rfl, hw9⟩))
    have D9 := HQ.out.2.1.keeps hw9
    have K9 := HQ.out.2.2.trans hw9
    have d9 := D9.c1
    go_wp2
    go_ret3
    exact ⟨by rw [HZ.out.1, HZ.out.2.1, HZ.out.2.2]; rfl, K9⟩
  · have heq' : dHi (dLo N) = dHi N := heq
    clear heq
    replace hlow := hlow rfl
    go_enter Tryz.func126, Tryz.ntmps126
    go_wp2_with fail
    refine (HD.out _).mono ?_
    rintro e w2 ⟨rfl, hw2⟩
    have D2 := (boxes w x 63).1.keeps hw2
    have K2 := (((Keeps.refl w).alloc _).alloc _).trans hw2
    clear hw2
    have hsz := D2.lt
    have d2 := D2.c1
    have HQ := Lib.hid (And.intro ((Box.new w2 (dLo N) (dHi N) 63).keeps (Keeps.refl _).drew) (And.intro ((D2.alloc (.cells #[.int .i64 (dLo N), .int .i64 (dHi N)] 63)).keeps (Keeps.refl _).drew) (K2.alloc (.cells #[.int .i64 (dLo N), .int .i64 (dHi N)] 63)).drew))
    go_wp2
    go_region_held3 (fun w' => w2.heap.size < w'.heap.size ∧ w'.cell? ⟨w2.heap.size, 0, none⟩ = some (.int .i64 (dLo N)) ∧ w'.cell? ⟨w2.heap.size, 1, none⟩ = some (.int .i64 (dHi N))) (first | assumption | exact ⟨HQ.out.1.lt, HQ.out.1.c0, HQ.out.1.c1⟩ | exact keepK hw9 ⟨HQ.out.1.lt, HQ.out.1.c0, HQ.out.1.c1⟩)
      (first
        | (go_at_call 127; refine (rof_any _ (dLo_in _) _).mono ?_; rintro e w9 ⟨rfl, hw9⟩))
    have D9 := HQ.out.2.1.keeps hw9
    have K9 := HQ.out.2.2.trans hw9
    have d9 := D9.c1
    go_wp2
    go_quiet (fail)
    go_wp2
    go_ret3
    exact ⟨by rw [HZ.out.1, HZ.out.2.1, HZ.out.2.2]; rfl, K9.drewN _⟩
set_option maxRecDepth 100000 in
set_option maxHeartbeats 2000000 in
theorem rsymm_ft (x n N R : Int) (hn : InC n) (h0 : n ≠ 0) (hs : decide (dHi x < 0) = false) (ht : decide (n < 0) = true) (S : Signs x n false true N R) (w : World) :
    Calls Tryz.prog 126 #[.agg #[.int .i64 (dLo x), .int .i64 (dHi x)], .int .i64 n] w fun e w' => e = .returned (.tuple #[.int .i64 (sR x n), .int .i64 (sQ x n), .int .i64 (sE x n)]) ∧ Keeps w w' := by
  have HD : Hid (∀ w : World, Calls Tryz.prog 147 #[.agg #[.int .i64 (dLo x), .int .i64 (dHi x)], .int .i64 (wrap64 (-n))] w fun e w' => e = .returned (.tuple #[.int .i64 (dLo R), .agg #[.int .i64 (dLo N), .int .i64 (dHi N)]]) ∧ Keeps w w') := fun w => rdiv_sg hn h0 ht S w
  have hn0 : (n == 0) = false := by simpa using h0
  have hR : dLo R = R := dLo_cell ⟨by have := S.r0; omega, by have := S.r1; omega⟩
  have hway : RSymmWay x n false true N R := rsymm_way h0 S
  have hLL : dLo (dLo (-N)) = dLo (-N) := dLo_dLo (-N)
  clear h0 hn S
  rcases hway with ⟨hm, hfar, HZ⟩ | ⟨hlow, hne, HZ⟩ | ⟨hlow, heq, HZ⟩
  · exact absurd hm (by decide)
  · have hne' : (dHi (-N) == dHi (dLo (-N))) = false := hne
    clear hne
    clear hlow
    go_enter Tryz.func126, Tryz.ntmps126
    go_wp2_with fail
    refine (HD.out _).mono ?_
    rintro e w2 ⟨rfl, hw2⟩
    have D2 := (boxes w x 63).1.keeps hw2
    have K2 := (((Keeps.refl w).alloc _).alloc _).trans hw2
    clear hw2
    have hsz := D2.lt
    have d2 := D2.c1
    go_wp2_with fail
    refine (rneg_any _ _).mono ?_
    rintro e w3 ⟨rfl, hw3⟩
    have D3 := (D2.alloc _).keeps hw3
    have Q3 := (Box.new w2 (dLo N) (dHi N) 63).keeps hw3
    have K3 := (K2.alloc _).trans hw3
    obtain ⟨q0, q1, q2, q3, q4⟩ := Q3
    have d3 := D3.c1
    clear hw3 d2
    have Q4 := (Box.mk q0 q1 q2 q3 q4).set (dLo (-N)) (dHi (-N))
    have D4 := (D3.other (by omega) (o := 0) (C := w2.heap.size) (.int .i64 (dLo (-N)))).other (by omega) (o := 1) (C := w2.heap.size) (.int .i64 (dHi (-N)))
    have K4 := (K3.setCell (p := ⟨w2.heap.size, 0, none⟩) (by have := K2.size; simp; omega) (.int .i64 (dLo (-N)))).setCell (p := ⟨w2.heap.size, 1, none⟩) (by have := K2.size; simp; omega) (.int .i64 (dHi (-N)))
    have HQ := Lib.hid (And.intro (Q4.keeps (Keeps.refl _).drew) (And.intro (D4.keeps (Keeps.refl _).drew) K4.drew))
    clear Q4 D4 K4
    go_wp2
    go_region_held3 (fun w' => w2.heap.size < w'.heap.size ∧ w'.cell? ⟨w2.heap.size, 0, none⟩ = some (.int .i64 (dLo (-N))) ∧ w'.cell? ⟨w2.heap.size, 1, none⟩ = some (.int .i64 (dHi (-N)))) (first | assumption | exact ⟨HQ.out.1.lt, HQ.out.1.c0, HQ.out.1.c1⟩ | exact keepK hw9 ⟨HQ.out.1.lt, HQ.out.1.c0, HQ.out.1.c1⟩)
      (first
        | (go_at_call 127; refine (rof_any _ (dLo_in _) _).mono ?_; rintro e w9 ⟨rfl, hw9⟩))
    have D9 := HQ.out.2.1.keeps hw9
    have K9 := HQ.out.2.2.trans hw9
    have d9 := D9.c1
    go_wp2
    go_ret3
    exact ⟨by rw [HZ.out.1, HZ.out.2.1, HZ.out.2.2]; rfl, K9⟩
  · have heq' : dHi (dLo (-N)) = dHi (-N) := heq
    clear heq
    clear hlow
    go_enter Tryz.func126, Tryz.ntmps126
    go_wp2_with fail
    refine (HD.out _).mono ?_
    rintro e w2 ⟨rfl, hw2⟩
    have D2 := (boxes w x 63).1.keeps hw2
    have K2 := (((Keeps.refl w).alloc _).alloc _).trans hw2
    clear hw2
    have hsz := D2.lt
    have d2 := D2.c1
    go_wp2_with fail
    refine (rneg_any _ _).mono ?_
    rintro e w3 ⟨rfl, hw3⟩
    have D3 := (D2.alloc _).keeps hw3
    have Q3 := (Box.new w2 (dLo N) (dHi N) 63).keeps hw3
    have K3 := (K2.alloc _).trans hw3
    obtain ⟨q0, q1, q2, q3, q4⟩ := Q3
    have d3 := D3.c1
    clear hw3 d2
    have Q4 := (Box.mk q0 q1 q2 q3 q4).set (dLo (-N)) (dHi (-N))
    have D4 := (D3.other (by omega) (o := 0) (C := w2.heap.size) (.int .i64 (dLo (-N)))).other (by omega) (o := 1) (C := w2.heap.size) (.int .i64 (dHi (-N)))
    have K4 := (K3.setCell (p := ⟨w2.heap.size, 0, none⟩) (by have := K2.size; simp; omega) (.int .i64 (dLo (-N)))).setCell (p := ⟨w2.heap.size, 1, none⟩) (by have := K2.size; simp; omega) (.int .i64 (dHi (-N)))
    have HQ := Lib.hid (And.intro (Q4.keeps (Keeps.refl _).drew) (And.intro (D4.keeps (Keeps.refl _).drew) K4.drew))
    clear Q4 D4 K4
    go_wp2
    go_region_held3 (fun w' => w2.heap.size < w'.heap.size ∧ w'.cell? ⟨w2.heap.size, 0, none⟩ = some (.int .i64 (dLo (-N))) ∧ w'.cell? ⟨w2.heap.size, 1, none⟩ = some (.int .i64 (dHi (-N)))) (first | assumption | exact ⟨HQ.out.1.lt, HQ.out.1.c0, HQ.out.1.c1⟩ | exact keepK hw9 ⟨HQ.out.1.lt, HQ.out.1.c0, HQ.out.1.c1⟩)
      (first
        | (go_at_call 127; refine (rof_any _ (dLo_in _) _).mono ?_; rintro e w9 ⟨rfl, hw9⟩))
    have D9 := HQ.out.2.1.keeps hw9
    have K9 := HQ.out.2.2.trans hw9
    have d9 := D9.c1
    go_wp2
    go_quiet (fail)
    go_wp2
    go_ret3
    exact ⟨by rw [HZ.out.1, HZ.out.2.1, HZ.out.2.2]; rfl, K9.drewN _⟩
set_option maxRecDepth 100000 in
set_option maxHeartbeats 2000000 in
theorem rsymm_tf (x n N R : Int) (hn : InC n) (h0 : n ≠ 0) (hs : decide (dHi x < 0) = true) (ht : decide (n < 0) = false) (S : Signs x n true false N R) (w : World) :
    Calls Tryz.prog 126 #[.agg #[.int .i64 (dLo x), .int .i64 (dHi x)], .int .i64 n] w fun e w' => e = .returned (.tuple #[.int .i64 (sR x n), .int .i64 (sQ x n), .int .i64 (sE x n)]) ∧ Keeps w w' := by
  have HD : Hid (∀ w : World, Calls Tryz.prog 147 #[.agg #[.int .i64 (dLo (-x)), .int .i64 (dHi (-x))], .int .i64 n] w fun e w' => e = .returned (.tuple #[.int .i64 (dLo R), .agg #[.int .i64 (dLo N), .int .i64 (dHi N)]]) ∧ Keeps w w') := fun w => rdiv_sg hn h0 ht S w
  have hn0 : (n == 0) = false := by simpa using h0
  have hR : dLo R = R := dLo_cell ⟨by have := S.r0; omega, by have := S.r1; omega⟩
  have hway : RSymmWay x n true true N R := rsymm_way h0 S
  have hLL : dLo (dLo (-N)) = dLo (-N) := dLo_dLo (-N)
  clear h0 hn S
  rcases hway with ⟨hm, hfar, HZ⟩ | ⟨hlow, hne, HZ⟩ | ⟨hlow, heq, HZ⟩
  · exact absurd hm (by decide)
  · have hne' : (dHi (-N) == dHi (dLo (-N))) = false := hne
    clear hne
    clear hlow
    go_enter Tryz.func126, Tryz.ntmps126
    go_wp2_with fail
    refine (rneg_any _ _).mono ?_
    rintro e w1 ⟨rfl, hw1⟩
    have D1 := (boxes w x 63).1.keeps hw1
    have X1 := (boxes w x 63).2.keeps hw1
    have K1 := (((Keeps.refl w).alloc _).alloc _).trans hw1
    obtain ⟨x0, x1, x2, x3, x4⟩ := X1
    have d1 := D1.c1
    clear hw1
    go_wp2_with fail
    refine (HD.out _).mono ?_
    rintro e w2 ⟨rfl, hw2⟩
    have D2 := ((D1.other (by omega) _).other (by omega) _).keeps hw2
    have K2 := ((K1.setCell (by simp) _).setCell (by simp) _).trans hw2
    clear D1 K1 d1 x0 x1 x2 x3 x4 hw2
    have hsz := D2.lt
    have d2 := D2.c1
    go_wp2_with fail
    refine (rneg_any _ _).mono ?_
    rintro e w3 ⟨rfl, hw3⟩
    have D3 := (D2.alloc _).keeps hw3
    have Q3 := (Box.new w2 (dLo N) (dHi N) 63).keeps hw3
    have K3 := (K2.alloc _).trans hw3
    obtain ⟨q0, q1, q2, q3, q4⟩ := Q3
    have d3 := D3.c1
    clear hw3 d2
    have Q4 := (Box.mk q0 q1 q2 q3 q4).set (dLo (-N)) (dHi (-N))
    have D4 := (D3.other (by omega) (o := 0) (C := w2.heap.size) (.int .i64 (dLo (-N)))).other (by omega) (o := 1) (C := w2.heap.size) (.int .i64 (dHi (-N)))
    have K4 := (K3.setCell (p := ⟨w2.heap.size, 0, none⟩) (by have := K2.size; simp; omega) (.int .i64 (dLo (-N)))).setCell (p := ⟨w2.heap.size, 1, none⟩) (by have := K2.size; simp; omega) (.int .i64 (dHi (-N)))
    have HQ := Lib.hid (And.intro (Q4.keeps (Keeps.refl _).drew) (And.intro (D4.keeps (Keeps.refl _).drew) K4.drew))
    clear Q4 D4 K4
    go_wp2
    go_region_held3 (fun w' => w2.heap.size < w'.heap.size ∧ w'.cell? ⟨w2.heap.size, 0, none⟩ = some (.int .i64 (dLo (-N))) ∧ w'.cell? ⟨w2.heap.size, 1, none⟩ = some (.int .i64 (dHi (-N)))) (first | assumption | exact ⟨HQ.out.1.lt, HQ.out.1.c0, HQ.out.1.c1⟩ | exact keepK hw9 ⟨HQ.out.1.lt, HQ.out.1.c0, HQ.out.1.c1⟩)
      (first
        | (go_at_call 127; refine (rof_any _ (dLo_in _) _).mono ?_; rintro e w9 ⟨rfl, hw9⟩))
    have D9 := HQ.out.2.1.keeps hw9
    have K9 := HQ.out.2.2.trans hw9
    have d9 := D9.c1
    go_wp2
    go_ret3
    exact ⟨by rw [HZ.out.1, HZ.out.2.1, HZ.out.2.2]; rfl, K9⟩
  · have heq' : dHi (dLo (-N)) = dHi (-N) := heq
    clear heq
    clear hlow
    go_enter Tryz.func126, Tryz.ntmps126
    go_wp2_with fail
    refine (rneg_any _ _).mono ?_
    rintro e w1 ⟨rfl, hw1⟩
    have D1 := (boxes w x 63).1.keeps hw1
    have X1 := (boxes w x 63).2.keeps hw1
    have K1 := (((Keeps.refl w).alloc _).alloc _).trans hw1
    obtain ⟨x0, x1, x2, x3, x4⟩ := X1
    have d1 := D1.c1
    clear hw1
    go_wp2_with fail
    refine (HD.out _).mono ?_
    rintro e w2 ⟨rfl, hw2⟩
    have D2 := ((D1.other (by omega) _).other (by omega) _).keeps hw2
    have K2 := ((K1.setCell (by simp) _).setCell (by simp) _).trans hw2
    clear D1 K1 d1 x0 x1 x2 x3 x4 hw2
    have hsz := D2.lt
    have d2 := D2.c1
    go_wp2_with fail
    refine (rneg_any _ _).mono ?_
    rintro e w3 ⟨rfl, hw3⟩
    have D3 := (D2.alloc _).keeps hw3
    have Q3 := (Box.new w2 (dLo N) (dHi N) 63).keeps hw3
    have K3 := (K2.alloc _).trans hw3
    obtain ⟨q0, q1, q2, q3, q4⟩ := Q3
    have d3 := D3.c1
    clear hw3 d2
    have Q4 := (Box.mk q0 q1 q2 q3 q4).set (dLo (-N)) (dHi (-N))
    have D4 := (D3.other (by omega) (o := 0) (C := w2.heap.size) (.int .i64 (dLo (-N)))).other (by omega) (o := 1) (C := w2.heap.size) (.int .i64 (dHi (-N)))
    have K4 := (K3.setCell (p := ⟨w2.heap.size, 0, none⟩) (by have := K2.size; simp; omega) (.int .i64 (dLo (-N)))).setCell (p := ⟨w2.heap.size, 1, none⟩) (by have := K2.size; simp; omega) (.int .i64 (dHi (-N)))
    have HQ := Lib.hid (And.intro (Q4.keeps (Keeps.refl _).drew) (And.intro (D4.keeps (Keeps.refl _).drew) K4.drew))
    clear Q4 D4 K4
    go_wp2
    go_region_held3 (fun w' => w2.heap.size < w'.heap.size ∧ w'.cell? ⟨w2.heap.size, 0, none⟩ = some (.int .i64 (dLo (-N))) ∧ w'.cell? ⟨w2.heap.size, 1, none⟩ = some (.int .i64 (dHi (-N)))) (first | assumption | exact ⟨HQ.out.1.lt, HQ.out.1.c0, HQ.out.1.c1⟩ | exact keepK hw9 ⟨HQ.out.1.lt, HQ.out.1.c0, HQ.out.1.c1⟩)
      (first
        | (go_at_call 127; refine (rof_any _ (dLo_in _) _).mono ?_; rintro e w9 ⟨rfl, hw9⟩))
    have D9 := HQ.out.2.1.keeps hw9
    have K9 := HQ.out.2.2.trans hw9
    have d9 := D9.c1
    go_wp2
    go_quiet (fail)
    go_wp2
    go_ret3
    exact ⟨by rw [HZ.out.1, HZ.out.2.1, HZ.out.2.2]; rfl, K9.drewN _⟩
set_option maxRecDepth 100000 in
set_option maxHeartbeats 2000000 in
theorem rsymm_tt (x n N R : Int) (hn : InC n) (h0 : n ≠ 0) (hs : decide (dHi x < 0) = true) (ht : decide (n < 0) = true) (S : Signs x n true true N R) (w : World) :
    Calls Tryz.prog 126 #[.agg #[.int .i64 (dLo x), .int .i64 (dHi x)], .int .i64 n] w fun e w' => e = .returned (.tuple #[.int .i64 (sR x n), .int .i64 (sQ x n), .int .i64 (sE x n)]) ∧ Keeps w w' := by
  have HD : Hid (∀ w : World, Calls Tryz.prog 147 #[.agg #[.int .i64 (dLo (-x)), .int .i64 (dHi (-x))], .int .i64 (wrap64 (-n))] w fun e w' => e = .returned (.tuple #[.int .i64 (dLo R), .agg #[.int .i64 (dLo N), .int .i64 (dHi N)]]) ∧ Keeps w w') := fun w => rdiv_sg hn h0 ht S w
  have hn0 : (n == 0) = false := by simpa using h0
  have hR : dLo R = R := dLo_cell ⟨by have := S.r0; omega, by have := S.r1; omega⟩
  have hway : RSymmWay x n true false N R := rsymm_way h0 S
  have hLL : dLo (dLo N) = dLo N := dLo_dLo N
  clear h0 hn S
  rcases hway with ⟨hm, hfar, HZ⟩ | ⟨hlow, hne, HZ⟩ | ⟨hlow, heq, HZ⟩
  · clear hm
    go_enter Tryz.func126, Tryz.ntmps126
    go_wp2_with fail
    refine (rneg_any _ _).mono ?_
    rintro e w1 ⟨rfl, hw1⟩
    have D1 := (boxes w x 63).1.keeps hw1
    have X1 := (boxes w x 63).2.keeps hw1
    have K1 := (((Keeps.refl w).alloc _).alloc _).trans hw1
    obtain ⟨x0, x1, x2, x3, x4⟩ := X1
    have d1 := D1.c1
    clear hw1
    go_wp2_with fail
    refine (HD.out _).mono ?_
    rintro e w2 ⟨rfl, hw2⟩
    have D2 := ((D1.other (by omega) _).other (by omega) _).keeps hw2
    have K2 := ((K1.setCell (by simp) _).setCell (by simp) _).trans hw2
    clear D1 K1 d1 x0 x1 x2 x3 x4 hw2
    have hsz := D2.lt
    have d2 := D2.c1
    go_wp2
    go_ret3
    exact ⟨by rw [HZ.out.1, HZ.out.2.1, HZ.out.2.2]; rfl, K2.alloc _⟩
  · have hne' : (dHi N == dHi (dLo N)) = false := hne
    clear hne
    replace hlow := hlow rfl
    go_enter Tryz.func126, Tryz.ntmps126
    go_wp2_with fail
    refine (rneg_any _ _).mono ?_
    rintro e w1 ⟨rfl, hw1⟩
    have D1 := (boxes w x 63).1.keeps hw1
    have X1 := (boxes w x 63).2.keeps hw1
    have K1 := (((Keeps.refl w).alloc _).alloc _).trans hw1
    obtain ⟨x0, x1, x2, x3, x4⟩ := X1
    have d1 := D1.c1
    clear hw1
    go_wp2_with fail
    refine (HD.out _).mono ?_
    rintro e w2 ⟨rfl, hw2⟩
    have D2 := ((D1.other (by omega) _).other (by omega) _).keeps hw2
    have K2 := ((K1.setCell (by simp) _).setCell (by simp) _).trans hw2
    clear D1 K1 d1 x0 x1 x2 x3 x4 hw2
    have hsz := D2.lt
    have d2 := D2.c1
    have HQ := Lib.hid (And.intro ((Box.new w2 (dLo N) (dHi N) 63).keeps (Keeps.refl _).drew) (And.intro ((D2.alloc (.cells #[.int .i64 (dLo N), .int .i64 (dHi N)] 63)).keeps (Keeps.refl _).drew) (K2.alloc (.cells #[.int .i64 (dLo N), .int .i64 (dHi N)] 63)).drew))
    go_wp2
    go_region_held3 (fun w' => w2.heap.size < w'.heap.size ∧ w'.cell? ⟨w2.heap.size, 0, none⟩ = some (.int .i64 (dLo N)) ∧ w'.cell? ⟨w2.heap.size, 1, none⟩ = some (.int .i64 (dHi N))) (first | assumption | exact ⟨HQ.out.1.lt, HQ.out.1.c0, HQ.out.1.c1⟩ | exact keepK hw9 ⟨HQ.out.1.lt, HQ.out.1.c0, HQ.out.1.c1⟩)
      (first
        | (go_at_call 127; refine (rof_any _ (dLo_in _) _).mono ?_; rintro e w9 ⟨rfl, hw9⟩))
    have D9 := HQ.out.2.1.keeps hw9
    have K9 := HQ.out.2.2.trans hw9
    have d9 := D9.c1
    go_wp2
    go_ret3
    exact ⟨by rw [HZ.out.1, HZ.out.2.1, HZ.out.2.2]; rfl, K9⟩
  · have heq' : dHi (dLo N) = dHi N := heq
    clear heq
    replace hlow := hlow rfl
    go_enter Tryz.func126, Tryz.ntmps126
    go_wp2_with fail
    refine (rneg_any _ _).mono ?_
    rintro e w1 ⟨rfl, hw1⟩
    have D1 := (boxes w x 63).1.keeps hw1
    have X1 := (boxes w x 63).2.keeps hw1
    have K1 := (((Keeps.refl w).alloc _).alloc _).trans hw1
    obtain ⟨x0, x1, x2, x3, x4⟩ := X1
    have d1 := D1.c1
    clear hw1
    go_wp2_with fail
    refine (HD.out _).mono ?_
    rintro e w2 ⟨rfl, hw2⟩
    have D2 := ((D1.other (by omega) _).other (by omega) _).keeps hw2
    have K2 := ((K1.setCell (by simp) _).setCell (by simp) _).trans hw2
    clear D1 K1 d1 x0 x1 x2 x3 x4 hw2
    have hsz := D2.lt
    have d2 := D2.c1
    have HQ := Lib.hid (And.intro ((Box.new w2 (dLo N) (dHi N) 63).keeps (Keeps.refl _).drew) (And.intro ((D2.alloc (.cells #[.int .i64 (dLo N), .int .i64 (dHi N)] 63)).keeps (Keeps.refl _).drew) (K2.alloc (.cells #[.int .i64 (dLo N), .int .i64 (dHi N)] 63)).drew))
    go_wp2
    go_region_held3 (fun w' => w2.heap.size < w'.heap.size ∧ w'.cell? ⟨w2.heap.size, 0, none⟩ = some (.int .i64 (dLo N)) ∧ w'.cell? ⟨w2.heap.size, 1, none⟩ = some (.int .i64 (dHi N))) (first | assumption | exact ⟨HQ.out.1.lt, HQ.out.1.c0, HQ.out.1.c1⟩ | exact keepK hw9 ⟨HQ.out.1.lt, HQ.out.1.c0, HQ.out.1.c1⟩)
      (first
        | (go_at_call 127; refine (rof_any _ (dLo_in _) _).mono ?_; rintro e w9 ⟨rfl, hw9⟩))
    have D9 := HQ.out.2.1.keeps hw9
    have K9 := HQ.out.2.2.trans hw9
    have d9 := D9.c1
    go_wp2
    go_quiet (fail)
    go_wp2
    go_ret3
    exact ⟨by rw [HZ.out.1, HZ.out.2.1, HZ.out.2.2]; rfl, K9.drewN _⟩
end Go.Proofs.YtnlkggfgloblcaaGreat
