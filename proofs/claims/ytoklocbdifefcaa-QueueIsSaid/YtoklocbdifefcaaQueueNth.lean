/-
  What package queue answers of Nth, Take, Drop and Ids.
-/
import Derived.Test.YtoklocbdifefcaaQueuePut
namespace Go.Proofs.Ytoklocbdifefcaa
open Go.RowKit

/-- A queue that a call hands back, who was taken, and whether it did it. -/
def Q3Post (A : Option Addr) (n : Nat) (N : Int) (l : List It) (x : Int) (b : Bool) (w : World) (e : Ending) (w' : World) : Prop :=
  ∃ A' n' c', e = .returned (.tuple #[.agg #[.int .i64 N, .slice A' n' c'], .int .i64 x, .bool b]) ∧ Its w' A' n' c' l ∧ Below w.heap.size w w' ∧ Born w A n A' n'
theorem skN {w w9 : World} {g xb xo k : Nat} {T : TypeId} {N d : Int} {A : Option Addr} {n c : Nat} (h : Below w.heap.size w w9) (Q : Qv w9 g T N A n c) (hc : w9.cell? ⟨xb, xo + k * 3, none⟩ = some (.int .i64 d)) :
    Below w.heap.size w w9 ∧ (w9.cell? ⟨g, 0, none⟩ = some (.int .i64 N) ∧ w9.cell? ⟨g, 1, none⟩ = some (.slice A n c)) ∧ w9.cell? ⟨xb, xo + k * 3, none⟩ = some (.int .i64 d) := ⟨h, ⟨Q.c0, Q.c1⟩, hc⟩
theorem cell_other (w : World) {g b : Nat} (h : b ≠ g) (k o : Nat) (v : Value) : (w.setCell ⟨g, k, none⟩ v).cell? ⟨b, o, none⟩ = w.cell? ⟨b, o, none⟩ := World.cell?_of_block (w := w) (Below.heap_setCell w ⟨g, k, none⟩ v b h)
theorem at_val {l : List It} {n : Nat} (h : l.length = n) (z : Int) : ((if z < 0 then 0 else z) % (n : Int)) = (atN l z : Int) := by
  unfold atN
  rw [h]
  split
  · rw [Int.max_eq_right (by omega)]; simp
  · rw [Int.max_eq_left (by omega), Int.natCast_emod, Int.toNat_of_nonneg (by omega)]
set_option maxHeartbeats 2000000 in
theorem nth_is (N : Int) (A : Option Addr) (n c : Nat) (l : List It) (z : Int) (w : World) (hn : n ≤ 4611686018427387904) (h : Its w A n c l) :
    Calls Try.prog 12 #[.agg #[.int .i64 N, .slice A n c], .int .i64 z] w (Q3Post A n (tkN N l) (nthL (tkL N l) z) (nthD (tkL N l) z) (nthB (tkL N l)) w) := by
  have X0 := Lib.hid ((Qv.new w 28 N A n c).alloc (.cells #[.int .i64 0, .slice none 0 0] 28))
  have X1 := Lib.hid (Qv.at_ (w.alloc (.cells #[.int .i64 N, .slice A n c] 28)) 28 0 none 0 0 (w.heap.size + 1) (by simp))
  have HB := Lib.hid (two_new w (.cells #[.int .i64 N, .slice A n c] 28) (.cells #[.int .i64 0, .slice none 0 0] 28))
  have H0 := Lib.hid h
  have H := Lib.hid (h.below HB.out)
  have HL := Lib.hid h.len
  clear h
  have hsq := sq_tk N l
  obtain ⟨N1, hN1⟩ : ∃ x, tkN N l = x := ⟨_, rfl⟩
  obtain ⟨l1, hl1⟩ : ∃ x, tkL N l = x := ⟨_, rfl⟩
  rw [hN1, hl1] at hsq ⊢
  have HN1 := Lib.hid hN1
  have HL1 := Lib.hid hl1
  have HS := Lib.hid hsq
  clear hN1 hl1 hsq
  go_enter Try.func12, Try.ntmps12
  go_upto_region 1 with (fail)
  generalize (w.alloc (.cells #[.int .i64 N, .slice A n c] 28)).alloc (.cells #[.int .i64 0, .slice none 0 0] 28) = W at *
  have gs := HB.out.size
  have gl := X1.out.lt
  have qa := X0.out.c0; have qb := X0.out.c1; have qfa := X0.out.f 0; have qfb := X0.out.f 1; have ql := X0.out.lt; have y0 := X1.out.c0; have y1 := X1.out.c1; have yf0 := X1.out.f 0; have yf1 := X1.out.f 1; have yl := X1.out.lt
  have AP0 := Lib.hid (its_old H0.out (g := w.heap.size) (Nat.le_refl _))
  have AP1 := Lib.hid (its_old H0.out (g := w.heap.size + 1) (Nat.le_succ _))
  go_upto_region 2 with (go_at_call 25; refine (taken_at N A n c l N1 l1 _ hn H.out HN1.out HL1.out).mono ?_; rintro e w1 ⟨A1, n1, c1, rfl, hi, hb, hbo⟩; have HI := Lib.hid hi; have HO := Lib.hid hbo; clear hi hbo; have HB := Lib.hid (below_then HB.out hb); have H := Lib.hid (H.out.below hb); have X0 := Lib.hid (X0.out.keep hb); have X1 := Lib.hid (X1.out.keep hb); clear hb; clear qa qb qfa qfb ql y0 y1 yf0 yf1 yl; have qa := X0.out.c0; have qb := X0.out.c1; have qfa := X0.out.f 0; have qfb := X0.out.f 1; have ql := X0.out.lt; have y0 := X1.out.c0; have y1 := X1.out.c1; have yf0 := X1.out.f 0; have yf1 := X1.out.f 1; have yl := X1.out.lt)
  have X0 := Lib.hid (X0.out.set N1 A1 n1 c1)
  have X1 := Lib.hid ((X1.out.other (p := ⟨w.heap.size, 0, none⟩) (by simp) (.int .i64 N1)).other (p := ⟨w.heap.size, 1, none⟩) (by simp) (.slice A1 n1 c1))
  have HB := Lib.hid (below_set (below_set HB.out (p := ⟨w.heap.size, 0, none⟩) (Nat.le_refl _) (.int .i64 N1)) (p := ⟨w.heap.size, 1, none⟩) (Nat.le_refl _) (.slice A1 n1 c1))
  have H := Lib.hid ((HI.out.set_ (HO.out _ (by omega) AP0.out) 0 (.int .i64 N1)).set_ (HO.out _ (by omega) AP0.out) 1 (.slice A1 n1 c1))
  have AQ1 := Lib.hid (HO.out _ (by omega) AP1.out)
  have BO : Hid (Born w A n A1 n1) := Lib.hid (Born.trans Born.same gs HO.out)
  generalize (w1.setCell ⟨w.heap.size, 0, none⟩ (.int .i64 N1)).setCell ⟨w.heap.size, 1, none⟩ (.slice A1 n1 c1) = W2 at *
  clear HI HO qa qb qfa qfb ql y0 y1 yf0 yf1 yl
  have hn1 : n1 ≤ 8 := by rw [← H.out.len]; exact HS.out.2.1
  have HL1 := Lib.hid H.out.len
  have qa := X0.out.c0; have qb := X0.out.c1; have qfa := X0.out.f 0; have qfb := X0.out.f 1; have ql := X0.out.lt; have y0 := X1.out.c0; have y1 := X1.out.c1; have yf0 := X1.out.f 0; have yf1 := X1.out.f 1; have yl := X1.out.lt
  by_cases h0 : n1 = 0
  · subst h0
    have HE : Hid (l1 = []) := Lib.hid (List.eq_nil_of_length_eq_zero HL1.out)
    have Z := Lib.hid (X1.out.set N1 A1 0 c1); have z0 := Z.out.c0; have z1 := Z.out.c1
    go_wp2
    refine bodyPost_ret (v := .tuple #[.agg #[.int .i64 N1, .slice A1 0 c1], .int .i64 0, .bool false]) (by simp [results, Try.results12, go_sem, z0, z1]) rfl ⟨A1, 0, c1, by rw [HE.out]; rfl, ?_, below_set (below_set HB.out (Nat.le_succ _) _) (Nat.le_succ _) _, BO.out⟩
    rw [nthL, if_pos HE.out, ← HE.out]
    exact (H.out.set_ AQ1.out 0 _).set_ AQ1.out 1 _
  have h1 : (0 : Int) < (n1 : Int) := by omega
  have gs2 := HB.out.size
  have gl2 := X1.out.lt
  go_upto_region 5 with (fail)
  have hne : l1 ≠ [] := fun e => h0 (by rw [← HL1.out, e]; rfl)
  have hlt := at_lt z hne
  obtain ⟨k, hk⟩ : ∃ k, atN l1 z = k := ⟨_, rfl⟩
  have HK := Lib.hid hk
  rw [at_val HL1.out z, hk]
  generalize (if z < 0 then 0 else z) = zz
  rw [hk, HL1.out] at hlt
  obtain ⟨xb, xo, rfl, hbl, f0, f1, f2⟩ := H.out.at_ k hlt
  obtain ⟨d, hd⟩ : ∃ d, (l1.getD k i0).d = d := ⟨_, rfl⟩
  rw [hd] at f0
  have HD := Lib.hid hd
  clear hk hd f1 f2
  have hx : xb ≠ w.heap.size + 1 := AQ1.out (by omega) xb xo rfl
  have g0 : (0 : Int) ≤ (k : Int) := by omega
  have g1 : (k : Int) < (n1 : Int) := by omega

  have hHeld0 : (fun w9 => Below w.heap.size w w9 ∧ (w9.cell? ⟨w.heap.size, 0, none⟩ = some (.int .i64 N1) ∧ w9.cell? ⟨w.heap.size, 1, none⟩ = some (.slice (some ⟨xb, xo, none⟩) n1 c1)) ∧ w9.cell? ⟨xb, xo + k * 3, none⟩ = some (.int .i64 d)) W2.drew := skN HB.out.drew X0.out.drew f0
  refine wp_region_held_drew (S := fun w9 => Below w.heap.size w w9 ∧ (w9.cell? ⟨w.heap.size, 0, none⟩ = some (.int .i64 N1) ∧ w9.cell? ⟨w.heap.size, 1, none⟩ = some (.slice (some ⟨xb, xo, none⟩) n1 c1)) ∧ w9.cell? ⟨xb, xo + k * 3, none⟩ = some (.int .i64 d)) (by kernel_rfl) hHeld0 (fun hHeld => ?_)
  clear hHeld0
  refine wpAnyH_take (i := 0) (oi := { dst := some 21, op := Op.load 28 (Operand.tmp 2), type := 28, pos := "queue.go:56", after := #[], guard := none }) (v := ?_) rfl (by kernel_rfl) (by kernel_rfl) (by kernel_rfl) (fun _ _ _ h => h) (Or.inl ⟨by kernel_rfl, ?_⟩) hHeld ?_
  rotate_left
  · intro w9 hSw; (try dsimp only at hSw); go_simp; try with_reducible rfl
  simp only [Act.put, List.setIfInBounds_toArray, List.set_cons_zero, List.set_cons_succ]
  refine wpAnyH_take (i := 1) (oi := { dst := some 22, op := Op.move (Operand.tmp 7), type := 3, pos := "queue.go:56", after := #[], guard := none }) (v := ?_) rfl (by kernel_rfl) (by kernel_rfl) (by kernel_rfl) (fun _ _ _ h => h) (Or.inl ⟨by kernel_rfl, ?_⟩) hHeld ?_
  rotate_left
  · intro w9 hSw; (try dsimp only at hSw); go_simp; try with_reducible rfl
  simp only [Act.put, List.setIfInBounds_toArray, List.set_cons_zero, List.set_cons_succ]
  refine wpAnyH_take (i := 3) (oi := { dst := some 24, op := Op.fieldAddr 28 (Operand.tmp 2) 1, type := 0, pos := "queue.go:56", after := #[{ on := 9, ground := Ground.gcOnly Departure.lateStores }], guard := none }) (v := ?_) rfl (by kernel_rfl) (by kernel_rfl) (by kernel_rfl) (fun _ _ _ h => h) (Or.inl ⟨by kernel_rfl, ?_⟩) hHeld ?_
  rotate_left
  · intro w9 hSw; (try dsimp only at hSw); go_simp; try with_reducible rfl
  simp only [Act.put, List.setIfInBounds_toArray, List.set_cons_zero, List.set_cons_succ]
  refine wpAnyH_take (i := 4) (oi := { dst := some 25, op := Op.load 26 (Operand.tmp 24), type := 26, pos := "queue.go:56", after := #[{ on := 3, ground := Ground.data }, { on := 9, ground := Ground.gcOnly Departure.lateStores }], guard := none }) (v := ?_) rfl (by kernel_rfl) (by kernel_rfl) (by kernel_rfl) (fun _ _ _ h => h) (Or.inl ⟨by kernel_rfl, ?_⟩) hHeld ?_
  rotate_left
  · intro w9 hSw; (try dsimp only at hSw); go_simp; try with_reducible rfl
  simp only [Act.put, List.setIfInBounds_toArray, List.set_cons_zero, List.set_cons_succ]
  refine wpAnyH_take (i := 5) (oi := { dst := some 26, op := Op.move (Operand.tmp 7), type := 3, pos := "queue.go:56", after := #[{ on := 9, ground := Ground.gcOnly Departure.lateStores }], guard := none }) (v := ?_) rfl (by kernel_rfl) (by kernel_rfl) (by kernel_rfl) (fun _ _ _ h => h) (Or.inl ⟨by kernel_rfl, ?_⟩) hHeld ?_
  rotate_left
  · intro w9 hSw; (try dsimp only at hSw); go_simp; try with_reducible rfl
  simp only [Act.put, List.setIfInBounds_toArray, List.set_cons_zero, List.set_cons_succ]
  refine wpAnyH_take (i := 6) (oi := { dst := some 27, op := Op.indexAddr 26 (Operand.tmp 25) (Operand.tmp 26), type := 0, pos := "queue.go:56", after := #[{ on := 4, ground := Ground.data }, { on := 5, ground := Ground.data }, { on := 9, ground := Ground.gcOnly Departure.lateStores }], guard := none }) (v := ?_) rfl (by kernel_rfl) (by kernel_rfl) (by kernel_rfl) (fun _ _ _ h => h) (Or.inl ⟨by kernel_rfl, ?_⟩) hHeld ?_
  rotate_left
  · intro w9 hSw; (try dsimp only at hSw); go_simp; try with_reducible rfl
  simp only [Act.put, List.setIfInBounds_toArray, List.set_cons_zero, List.set_cons_succ]
  refine wpAnyH_take (i := 7) (oi := { dst := some 28, op := Op.fieldAddr 59 (Operand.tmp 27) 0, type := 0, pos := "queue.go:56", after := #[{ on := 6, ground := Ground.data }, { on := 9, ground := Ground.gcOnly Departure.lateStores }], guard := none }) (v := ?_) rfl (by kernel_rfl) (by kernel_rfl) (by kernel_rfl) (fun _ _ _ h => h) (Or.inl ⟨by kernel_rfl, ?_⟩) hHeld ?_
  rotate_left
  · intro w9 hSw; (try dsimp only at hSw); go_simp; try with_reducible rfl
  simp only [Act.put, List.setIfInBounds_toArray, List.set_cons_zero, List.set_cons_succ]
  refine wpAnyH_take (i := 8) (oi := { dst := some 29, op := Op.load 3 (Operand.tmp 28), type := 3, pos := "queue.go:56", after := #[{ on := 7, ground := Ground.data }, { on := 9, ground := Ground.gcOnly Departure.lateStores }], guard := none }) (v := ?_) rfl (by kernel_rfl) (by kernel_rfl) (by kernel_rfl) (fun _ _ _ h => h) (Or.inl ⟨by kernel_rfl, ?_⟩) hHeld ?_
  rotate_left
  · intro w9 hSw; (try dsimp only at hSw); go_simp; try with_reducible rfl
  simp only [Act.put, List.setIfInBounds_toArray, List.set_cons_zero, List.set_cons_succ]
  refine wpAnyH_ready (rs := [2]) (by kernel_rfl) (by simp) ?_
  refine AllReadyH.cons (o := { dst := some 23, op := Op.call { callee := Callee.value (Operand.func 33), args := #[Operand.tmp 21, Operand.tmp 22], argTypes := #[28, 3] }, type := 28, pos := "queue.go:56", after := #[{ on := 0, ground := Ground.data }, { on := 1, ground := Ground.data }], guard := none }) rfl (fun K hK => ?_) AllReadyH.nil
  go_simp
  refine (without_is N1 (some ⟨xb, xo, none⟩) n1 c1 l1 k _ hlt (by omega) H.out.drew).mono ?_; rintro e w3 ⟨A3, n3, c3, rfl, hi3, hb, hbo⟩; have HI3 := Lib.hid hi3; have HO3 := Lib.hid hbo; have f3 := (hb.cell (p := ⟨xb, xo + k * 3, none⟩) hbl).trans f0; have HB := Lib.hid HB.out.drew; have H := Lib.hid H.out.drew; have X0 := Lib.hid X0.out.drew; have X1 := Lib.hid X1.out.drew; clear hi3 hbo; have HB := Lib.hid (below_then HB.out hb); have H := Lib.hid (H.out.below hb); have X0 := Lib.hid (X0.out.keep hb); have X1 := Lib.hid (X1.out.keep hb); clear hb; clear qa qb qfa qfb ql y0 y1 yf0 yf1 yl; have qa := X0.out.c0; have qb := X0.out.c1; have qfa := X0.out.f 0; have qfb := X0.out.f 1; have ql := X0.out.lt; have y0 := X1.out.c0; have y1 := X1.out.c1; have yf0 := X1.out.f 0; have yf1 := X1.out.f 1; have yl := X1.out.lt; have Z := Lib.hid (X1.out.set N1 A3 n3 c3); have z0 := Z.out.c0; have z1 := Z.out.c1
  refine hK.out _ _ (skN HB.out X0.out f3) (fun hHeld => ?_)
  clear hK K
  try simp only [Act.put, List.setIfInBounds_toArray, List.set_cons_zero, List.set_cons_succ]
  refine wpAnyH_ready (rs := [9]) (by kernel_rfl) (by simp) ?_
  refine AllReadyH.cons (o := { dst := none, op := Op.store 28 (Operand.tmp 4) (Operand.tmp 23), type := 0, pos := "queue.go:56", after := #[{ on := 2, ground := Ground.data }, { on := 2, ground := Ground.chain }, { on := 0, ground := Ground.phase }, { on := 1, ground := Ground.phase }, { on := 2, ground := Ground.phase }, { on := 3, ground := Ground.textOnly Departure.lateStores }, { on := 4, ground := Ground.textOnly Departure.lateStores }, { on := 5, ground := Ground.textOnly Departure.lateStores }, { on := 6, ground := Ground.textOnly Departure.lateStores }, { on := 7, ground := Ground.textOnly Departure.lateStores }, { on := 8, ground := Ground.textOnly Departure.lateStores }], guard := none }) rfl (fun K hK => ?_) AllReadyH.nil
  go_simp
  skip
  refine hK.out _ _ (skN (below_set (below_set HB.out (Nat.le_succ _) _) (Nat.le_succ _) _) ((X0.out.other (by simp) _).other (by simp) _) ((cell_other _ hx _ _ _).trans ((cell_other _ hx _ _ _).trans f3))) (fun hHeld => ?_)
  clear hK K
  try simp only [Act.put, List.setIfInBounds_toArray, List.set_cons_zero, List.set_cons_succ]
  refine wpAnyH_take (i := 10) (oi := { dst := some 5, op := Op.assign (Operand.tmp 29), type := 3, pos := "queue.go:56", after := #[{ on := 8, ground := Ground.data }, { on := 9, ground := Ground.chain }, { on := 0, ground := Ground.phase }, { on := 1, ground := Ground.phase }, { on := 2, ground := Ground.phase }, { on := 3, ground := Ground.phase }, { on := 4, ground := Ground.phase }, { on := 5, ground := Ground.phase }, { on := 6, ground := Ground.phase }, { on := 7, ground := Ground.phase }, { on := 8, ground := Ground.phase }, { on := 9, ground := Ground.phase }], guard := none }) (v := ?_) rfl (by kernel_rfl) (by kernel_rfl) (by kernel_rfl) (fun _ _ _ h => h) (Or.inl ⟨by kernel_rfl, ?_⟩) hHeld ?_
  rotate_left
  · intro w9 hSw; (try dsimp only at hSw); go_simp; try with_reducible rfl
  simp only [Act.put, List.setIfInBounds_toArray, List.set_cons_zero, List.set_cons_succ]
  refine wpAnyH_take (i := 11) (oi := { dst := some 6, op := Op.assign (Operand.const (Value.bool true)), type := 4, pos := "queue.go:56", after := #[{ on := 10, ground := Ground.chain }, { on := 0, ground := Ground.phase }, { on := 1, ground := Ground.phase }, { on := 2, ground := Ground.phase }, { on := 3, ground := Ground.phase }, { on := 4, ground := Ground.phase }, { on := 5, ground := Ground.phase }, { on := 6, ground := Ground.phase }, { on := 7, ground := Ground.phase }, { on := 8, ground := Ground.phase }, { on := 9, ground := Ground.phase }, { on := 10, ground := Ground.phase }], guard := none }) (v := ?_) rfl (by kernel_rfl) (by kernel_rfl) (by kernel_rfl) (fun _ _ _ h => h) (Or.inl ⟨by kernel_rfl, ?_⟩) hHeld ?_
  rotate_left
  · intro w9 hSw; (try dsimp only at hSw); go_simp; try with_reducible rfl
  simp only [Act.put, List.setIfInBounds_toArray, List.set_cons_zero, List.set_cons_succ]
  refine wpAnyH_done (by kernel_rfl) ?_ _
  go_wp2
  refine bodyPost_ret (v := .tuple #[.agg #[.int .i64 N1, .slice A3 n3 c3], .int .i64 d, .bool true]) (by simp [results, Try.results12, go_sem, z0, z1]) rfl ⟨A3, n3, c3, ?_, ?_, below_set (below_set HB.out (Nat.le_succ _) _) (Nat.le_succ _) _, BO.out.trans gs2 HO3.out⟩
  · unfold nthD nthB
    rw [if_neg hne, HK.out, HD.out]
    cases l1
    · exact absurd rfl hne
    · rfl
  · unfold nthL
    rw [if_neg hne, HK.out]
    exact (HI3.out.set_ (HO3.out _ gl2 AQ1.out) 0 _).set_ (HO3.out _ gl2 AQ1.out) 1 _
set_option maxHeartbeats 2000000 in
theorem take_is (N : Int) (A : Option Addr) (n c : Nat) (l : List It) (w : World) (hn : n ≤ 4611686018427387904) (h : Its w A n c l) :
    Calls Try.prog 14 #[.agg #[.int .i64 N, .slice A n c]] w (Q3Post A n (tkN N l) (nthL (tkL N l) 0) (nthD (tkL N l) 0) (nthB (tkL N l)) w) := by
  have X0 := Lib.hid ((Qv.new w 28 N A n c).alloc (.cells #[.int .i64 0, .slice none 0 0] 28))
  have X1 := Lib.hid (Qv.at_ (w.alloc (.cells #[.int .i64 N, .slice A n c] 28)) 28 0 none 0 0 (w.heap.size + 1) (by simp))
  have HB := Lib.hid (two_new w (.cells #[.int .i64 N, .slice A n c] 28) (.cells #[.int .i64 0, .slice none 0 0] 28))
  have H0 := Lib.hid h
  have H := Lib.hid (h.below HB.out)
  have HL := Lib.hid h.len
  clear h
  obtain ⟨N1, hN1⟩ : ∃ x, tkN N l = x := ⟨_, rfl⟩
  obtain ⟨l1, hl1⟩ : ∃ x, nthL (tkL N l) 0 = x := ⟨_, rfl⟩
  obtain ⟨d, hd⟩ : ∃ x, nthD (tkL N l) 0 = x := ⟨_, rfl⟩
  obtain ⟨b, hb⟩ : ∃ x, nthB (tkL N l) = x := ⟨_, rfl⟩
  have HC : Hid (∀ w, Its w A n c l → Calls Try.prog 12 #[.agg #[.int .i64 N, .slice A n c], .int .i64 0] w (Q3Post A n N1 l1 d b w)) := Lib.hid (fun w h => by
    have := nth_is N A n c l 0 w hn h
    rw [hN1, hl1, hd, hb] at this
    exact this)
  rw [hN1, hl1, hd, hb]
  clear hN1 hl1 hd hb
  go_enter Try.func14, Try.ntmps14
  go_upto_region 1 with (fail)
  generalize (w.alloc (.cells #[.int .i64 N, .slice A n c] 28)).alloc (.cells #[.int .i64 0, .slice none 0 0] 28) = W at *
  have gs := HB.out.size
  have gl := X1.out.lt
  have qa := X0.out.c0; have qb := X0.out.c1; have qfa := X0.out.f 0; have qfb := X0.out.f 1; have ql := X0.out.lt; have y0 := X1.out.c0; have y1 := X1.out.c1; have yf0 := X1.out.f 0; have yf1 := X1.out.f 1; have yl := X1.out.lt
  have AP1 := Lib.hid (its_old H0.out (g := w.heap.size + 1) (Nat.le_succ _))
  go_wp2_with (go_at_call 12; refine (HC.out _ H.out).mono ?_; rintro e w1 ⟨A1, n1, c1, rfl, hi, hb, hbo⟩; have HI := Lib.hid hi; have HO := Lib.hid hbo; clear hi hbo; have HB := Lib.hid (below_then HB.out hb); have H := Lib.hid (H.out.below hb); have X0 := Lib.hid (X0.out.keep hb); have X1 := Lib.hid (X1.out.keep hb); clear hb; clear qa qb qfa qfb ql y0 y1 yf0 yf1 yl; have qa := X0.out.c0; have qb := X0.out.c1; have qfa := X0.out.f 0; have qfb := X0.out.f 1; have ql := X0.out.lt; have y0 := X1.out.c0; have y1 := X1.out.c1; have yf0 := X1.out.f 0; have yf1 := X1.out.f 1; have yl := X1.out.lt; have Z := Lib.hid (X1.out.set N1 A1 n1 c1); have z0 := Z.out.c0; have z1 := Z.out.c1)
  refine bodyPost_ret (v := .tuple #[.agg #[.int .i64 N1, .slice A1 n1 c1], .int .i64 d, .bool b]) (by simp [results, Try.results14, go_sem, z0, z1]) rfl ⟨A1, n1, c1, rfl, (HI.out.set_ (HO.out _ gl AP1.out) 0 _).set_ (HO.out _ gl AP1.out) 1 _, below_set (below_set HB.out (Nat.le_succ _) _) (Nat.le_succ _) _, Born.trans Born.same gs HO.out⟩
set_option maxHeartbeats 2000000 in
theorem drop_is (N : Int) (A : Option Addr) (n c : Nat) (l : List It) (d : Int) (w : World) (hn : n ≤ 4611686018427387904) (h : Its w A n c l) :
    Calls Try.prog 16 #[.agg #[.int .i64 N, .slice A n c], .int .i64 d] w (Q2Post A n (tkN N l) (drL (tkL N l) d) (drB (tkL N l) d) w) := by
  have X0 := Lib.hid ((Qv.new w 28 N A n c).alloc (.cells #[.int .i64 0, .slice none 0 0] 28))
  have X1 := Lib.hid (Qv.at_ (w.alloc (.cells #[.int .i64 N, .slice A n c] 28)) 28 0 none 0 0 (w.heap.size + 1) (by simp))
  have HB := Lib.hid (two_new w (.cells #[.int .i64 N, .slice A n c] 28) (.cells #[.int .i64 0, .slice none 0 0] 28))
  have H0 := Lib.hid h
  have H := Lib.hid (h.below HB.out)
  have HL := Lib.hid h.len
  clear h
  have hsq := sq_tk N l
  obtain ⟨N1, hN1⟩ : ∃ x, tkN N l = x := ⟨_, rfl⟩
  obtain ⟨l1, hl1⟩ : ∃ x, tkL N l = x := ⟨_, rfl⟩
  rw [hN1, hl1] at hsq ⊢
  have HN1 := Lib.hid hN1
  have HL1 := Lib.hid hl1
  have HS := Lib.hid hsq
  clear hN1 hl1 hsq
  go_enter Try.func16, Try.ntmps16
  go_upto_region 1 with (fail)
  generalize (w.alloc (.cells #[.int .i64 N, .slice A n c] 28)).alloc (.cells #[.int .i64 0, .slice none 0 0] 28) = W at *
  have gs := HB.out.size
  have gl := X1.out.lt
  have qa := X0.out.c0; have qb := X0.out.c1; have qfa := X0.out.f 0; have qfb := X0.out.f 1; have ql := X0.out.lt; have y0 := X1.out.c0; have y1 := X1.out.c1; have yf0 := X1.out.f 0; have yf1 := X1.out.f 1; have yl := X1.out.lt
  have AP0 := Lib.hid (its_old H0.out (g := w.heap.size) (Nat.le_refl _))
  have AP1 := Lib.hid (its_old H0.out (g := w.heap.size + 1) (Nat.le_succ _))
  go_upto_region 2 with (go_at_call 25; refine (taken_at N A n c l N1 l1 _ hn H.out HN1.out HL1.out).mono ?_; rintro e w1 ⟨A1, n1, c1, rfl, hi, hb, hbo⟩; have HI := Lib.hid hi; have HO := Lib.hid hbo; clear hi hbo; have HB := Lib.hid (below_then HB.out hb); have H := Lib.hid (H.out.below hb); have X0 := Lib.hid (X0.out.keep hb); have X1 := Lib.hid (X1.out.keep hb); clear hb; clear qa qb qfa qfb ql y0 y1 yf0 yf1 yl; have qa := X0.out.c0; have qb := X0.out.c1; have qfa := X0.out.f 0; have qfb := X0.out.f 1; have ql := X0.out.lt; have y0 := X1.out.c0; have y1 := X1.out.c1; have yf0 := X1.out.f 0; have yf1 := X1.out.f 1; have yl := X1.out.lt)
  have X0 := Lib.hid (X0.out.set N1 A1 n1 c1)
  have X1 := Lib.hid ((X1.out.other (p := ⟨w.heap.size, 0, none⟩) (by simp) (.int .i64 N1)).other (p := ⟨w.heap.size, 1, none⟩) (by simp) (.slice A1 n1 c1))
  have HB := Lib.hid (below_set (below_set HB.out (p := ⟨w.heap.size, 0, none⟩) (Nat.le_refl _) (.int .i64 N1)) (p := ⟨w.heap.size, 1, none⟩) (Nat.le_refl _) (.slice A1 n1 c1))
  have H := Lib.hid ((HI.out.set_ (HO.out _ (by omega) AP0.out) 0 (.int .i64 N1)).set_ (HO.out _ (by omega) AP0.out) 1 (.slice A1 n1 c1))
  have AQ1 := Lib.hid (HO.out _ (by omega) AP1.out)
  have BO : Hid (Born w A n A1 n1) := Lib.hid (Born.trans Born.same gs HO.out)
  generalize (w1.setCell ⟨w.heap.size, 0, none⟩ (.int .i64 N1)).setCell ⟨w.heap.size, 1, none⟩ (.slice A1 n1 c1) = W2 at *
  clear HI HO qa qb qfa qfb ql y0 y1 yf0 yf1 yl
  have hn1 : n1 ≤ 8 := by rw [← H.out.len]; exact HS.out.2.1
  have HL1 := Lib.hid H.out.len
  have qa := X0.out.c0; have qb := X0.out.c1; have qfa := X0.out.f 0; have qfb := X0.out.f 1; have ql := X0.out.lt; have y0 := X1.out.c0; have y1 := X1.out.c1; have yf0 := X1.out.f 0; have yf1 := X1.out.f 1; have yl := X1.out.lt
  obtain ⟨r, hr⟩ : ∃ r, plI d l1 = r := ⟨_, rfl⟩
  have HR := Lib.hid hr
  have gs2 := HB.out.size
  have gl2 := X1.out.lt
  by_cases h3 : 0 ≤ r
  · have hlt : plA d l1 < l1.length := by
      rw [← hr] at h3
      unfold plI at h3
      split at h3
      · assumption
      · omega
    have hq : r = (plA d l1 : Int) := by rw [← hr]; unfold plI; rw [if_pos hlt]
    have HP := Lib.hid hlt
    obtain ⟨q, hq2⟩ : ∃ q, plA d l1 = q := ⟨_, rfl⟩
    have HQ := Lib.hid hq2
    rw [HL1.out, hq2] at hlt
    rw [hq2] at hq
    subst hq
    clear hr h3 hq2
    go_wp2_with (first
      | (go_at_call 27; refine (place_is N1 A1 n1 c1 l1 d _ _ (by omega) H.out HR.out).mono ?_; rintro e w3 ⟨rfl, hb⟩; have HB := Lib.hid (below_then HB.out hb); have H := Lib.hid (H.out.below hb); have X0 := Lib.hid (X0.out.keep hb); have X1 := Lib.hid (X1.out.keep hb); clear hb; clear qa qb qfa qfb ql y0 y1 yf0 yf1 yl; have qa := X0.out.c0; have qb := X0.out.c1; have qfa := X0.out.f 0; have qfb := X0.out.f 1; have ql := X0.out.lt; have y0 := X1.out.c0; have y1 := X1.out.c1; have yf0 := X1.out.f 0; have yf1 := X1.out.f 1; have yl := X1.out.lt)
      | (go_at_call 33; refine (without_is N1 A1 n1 c1 l1 q _ hlt (by omega) H.out).mono ?_; rintro e w4 ⟨A3, n3, c3, rfl, hi3, hb, hbo⟩; have HI3 := Lib.hid hi3; have HO3 := Lib.hid hbo; clear hi3 hbo; have gs3 := HB.out.size; have gl3 := X1.out.lt; have HB := Lib.hid (below_then HB.out hb); have H := Lib.hid (H.out.below hb); have X0 := Lib.hid (X0.out.keep hb); have X1 := Lib.hid (X1.out.keep hb); clear hb; clear qa qb qfa qfb ql y0 y1 yf0 yf1 yl; have qa := X0.out.c0; have qb := X0.out.c1; have qfa := X0.out.f 0; have qfb := X0.out.f 1; have ql := X0.out.lt; have y0 := X1.out.c0; have y1 := X1.out.c1; have yf0 := X1.out.f 0; have yf1 := X1.out.f 1; have yl := X1.out.lt; have Z := Lib.hid (X1.out.set N1 A3 n3 c3); have z0 := Z.out.c0; have z1 := Z.out.c1))
    refine bodyPost_ret (v := .tuple #[.agg #[.int .i64 N1, .slice A3 n3 c3], .bool true]) (by simp [results, Try.results16, go_sem, z0, z1]) rfl ⟨A3, n3, c3, ?_, ?_, below_set (below_set HB.out (Nat.le_succ _) _) (Nat.le_succ _) _, BO.out.trans gs3 HO3.out⟩
    · unfold drB
      rw [decide_eq_true HP.out]
    · unfold drL
      rw [if_pos HP.out, HQ.out]
      exact (HI3.out.set_ (HO3.out _ gl3 AQ1.out) 0 _).set_ (HO3.out _ gl3 AQ1.out) 1 _
  · have hlt : ¬ plA d l1 < l1.length := by
      rw [← hr] at h3
      unfold plI at h3
      split at h3
      · omega
      · assumption
    have hq : r = -1 := by rw [← hr]; unfold plI; rw [if_neg hlt]
    have HP := Lib.hid hlt
    subst hq
    clear hr h3 hlt
    go_wp2_with (go_at_call 27; refine (place_is N1 A1 n1 c1 l1 d _ _ (by omega) H.out HR.out).mono ?_; rintro e w3 ⟨rfl, hb⟩; have HB := Lib.hid (below_then HB.out hb); have H := Lib.hid (H.out.below hb); have X0 := Lib.hid (X0.out.keep hb); have X1 := Lib.hid (X1.out.keep hb); clear hb; clear qa qb qfa qfb ql y0 y1 yf0 yf1 yl; have qa := X0.out.c0; have qb := X0.out.c1; have qfa := X0.out.f 0; have qfb := X0.out.f 1; have ql := X0.out.lt; have y0 := X1.out.c0; have y1 := X1.out.c1; have yf0 := X1.out.f 0; have yf1 := X1.out.f 1; have yl := X1.out.lt; have Z := Lib.hid (X1.out.set N1 A1 n1 c1); have z0 := Z.out.c0; have z1 := Z.out.c1)
    refine bodyPost_ret (v := .tuple #[.agg #[.int .i64 N1, .slice A1 n1 c1], .bool false]) (by simp [results, Try.results16, go_sem, z0, z1]) rfl ⟨A1, n1, c1, ?_, ?_, below_set (below_set HB.out (Nat.le_succ _) _) (Nat.le_succ _) _, BO.out⟩
    · unfold drB
      rw [decide_eq_false HP.out]
    · unfold drL
      rw [if_neg HP.out]
      exact (H.out.set_ AQ1.out 0 _).set_ AQ1.out 1 _

end Go.Proofs.Ytoklocbdifefcaa
