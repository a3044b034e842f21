/-
  What the document's own calls without, Nth, Take, Drop and Ids answer (tenterhookref16): the same as package queue.
-/
import Derived.Test.YtoklocbdifefcaaQueueRSane
import Derived.Test.YtoklocbdifefcaaQueueIds
namespace Go.Proofs.Ytoklocbdifefcaa
open Go.RowKit

theorem rem_at3 {l : List It} {n : Nat} (h : l.length = n) (z : Int) : ((if 0 < z then z else 0) % (n : Int)) = (atN l z : Int) ∧ ((if z < 0 then 0 else z) % (n : Int)) = (atN l z : Int) ∧ ((if z > 0 then z else 0) % (n : Int)) = (atN l z : Int) := by
  have := at_val h z
  have e : (if 0 < z then z else 0) = (if z < 0 then 0 else z) := by split <;> split <;> omega
  exact ⟨by rw [e]; exact this, this, by rw [show (if z > 0 then z else 0) = (if 0 < z then z else 0) from rfl, e]; exact this⟩
set_option maxHeartbeats 1000000 in
theorem rwithout_is (N : Int) (A : Option Addr) (n c : Nat) (l : List It) (k : Nat) (w : World) (hk : k < n) (hn : n ≤ 1000) (h : Its w A n c l) :
    Calls Try.prog 34 #[.agg #[.int .i64 N, .slice A n c], .int .i64 (k : Int)] w (QPost A n N (ouL k l) w) := by
  have X0 := Lib.hid ((Qv.new w 24 N A n c).alloc (.cells #[.int .i64 0, .slice none 0 0] 24))
  have X1 := Lib.hid (Qv.at_ (w.alloc (.cells #[.int .i64 N, .slice A n c] 24)) 24 0 none 0 0 (w.heap.size + 1) (by simp))
  have HB := Lib.hid (two_new w (.cells #[.int .i64 N, .slice A n c] 24) (.cells #[.int .i64 0, .slice none 0 0] 24))
  have H0 := Lib.hid h
  have H := Lib.hid (h.below HB.out)
  have HL := Lib.hid h.len
  clear h
  obtain ⟨m, hm⟩ : ∃ m, m = k + 1 := ⟨_, rfl⟩
  have hw : IntKind.i64.wrap ((k : Int) + 1) = (m : Int) := by rw [IntKind.wrap_i64]; omega
  have HM := Lib.hid hm
  go_enter Try.func34, Try.ntmps34
  go_upto_region 1 with (fail)
  generalize (w.alloc (.cells #[.int .i64 N, .slice A n c] 24)).alloc (.cells #[.int .i64 0, .slice none 0 0] 24) = W at *
  have gs := HB.out.size
  have gl := X1.out.lt
  have qa := X0.out.c0; have qb := X0.out.c1; have qfa := X0.out.f 0; have qfb := X0.out.f 1; have ql := X0.out.lt; have y0 := X1.out.c0; have y1 := X1.out.c1; have yf0 := X1.out.f 0; have yf1 := X1.out.f 1; have yl := X1.out.lt
  have XW0 := X0
  have XW1 := X1
  have h1 := H.out.head etR k (by omega)
  have s1 := h1.1
  have HA := Lib.hid h1.2
  obtain ⟨A2, c2, s2, h2⟩ := H.out.tail etR m (by omega)
  have HC := Lib.hid h2
  clear h1 h2 hm
  go_upto_region 2 with (at_builtin; refine wpList_appI etR (W := W) rfl (.tmp 6) (.tmp 10) rfl rfl rfl (OwnI.made _ W) (HA.out.alloc _) (by omega) ?_; intro A3 c3 w3 hw3; rw [Nat.zero_add, List.nil_append] at hw3; have HO := Lib.hid hw3; clear hw3)
  have X0 := Lib.hid (XW0.out.keep HO.out.below)
  have X1 := Lib.hid (XW1.out.keep HO.out.below)
  clear qa qb qfa qfb ql y0 y1 yf0 yf1 yl
  have qa := X0.out.c0; have qb := X0.out.c1; have qfa := X0.out.f 0; have qfb := X0.out.f 1; have ql := X0.out.lt; have y0 := X1.out.c0; have y1 := X1.out.c1; have yf0 := X1.out.f 0; have yf1 := X1.out.f 1; have yl := X1.out.lt
  go_upto_region 3 with (at_builtin; refine wpList_appI etR (W := W) rfl (.tmp 12) (.tmp 17) rfl rfl rfl HO.out (HC.out.below HO.out.below) (by have := HM.out; omega) ?_; intro A4 c4 w4 hw4; have HO2 := Lib.hid hw4; clear hw4)
  have X0 := Lib.hid (XW0.out.keep HO2.out.below)
  have X1 := Lib.hid (XW1.out.keep HO2.out.below)
  have HB4 := Lib.hid (below_then HB.out HO2.out.below)
  have HF4 := Lib.hid HO2.out.fre
  clear qa qb qfa qfb ql y0 y1 yf0 yf1 yl
  have qa := X0.out.c0; have qb := X0.out.c1; have qfa := X0.out.f 0; have qfb := X0.out.f 1; have ql := X0.out.lt; have y0 := X1.out.c0; have y1 := X1.out.c1; have yf0 := X1.out.f 0; have yf1 := X1.out.f 1; have yl := X1.out.lt
  have Z := Lib.hid (X1.out.set N A4 (k + (n - m)) c4); have z0 := Z.out.c0; have z1 := Z.out.c1
  go_wp2
  refine bodyPost_ret (v := .agg #[.int .i64 N, .slice A4 (k + (n - m)) c4]) (by simp [results, Try.results34, go_sem, z0, z1]) rfl ⟨A4, _, c4, rfl, ?_, below_set (below_set HB4.out (Nat.le_succ _) _) (Nat.le_succ _) _, HF4.out.born gs⟩
  have hi := (HO2.out.its.set_ (g := w.heap.size + 1) (HF4.out.ne gl) 0 (.int .i64 N)).set_ (g := w.heap.size + 1) (HF4.out.ne gl) 1 (.slice A4 (k + (n - m)) c4)
  exact hi.as (by rw [HM.out]; rfl)

set_option maxHeartbeats 2000000 in
theorem rnth_is (N : Int) (A : Option Addr) (n c : Nat) (l : List It) (z : Int) (w : World) (h : Its w A n c l) :
    Calls Try.prog 13 #[.agg #[.int .i64 N, .slice A n c], .int .i64 z] w (Q3Post A n (tkN N l) (nthL (tkL N l) z) (nthD (tkL N l) z) (nthB (tkL N l)) w) := by
  have X0 := Lib.hid ((Qv.new w 24 N A n c).alloc (.cells #[.int .i64 0, .slice none 0 0] 24))
  have X1 := Lib.hid (Qv.at_ (w.alloc (.cells #[.int .i64 N, .slice A n c] 24)) 24 0 none 0 0 (w.heap.size + 1) (by simp))
  have HB := Lib.hid (two_new w (.cells #[.int .i64 N, .slice A n c] 24) (.cells #[.int .i64 0, .slice none 0 0] 24))
  have H0 := Lib.hid h
  have H := Lib.hid (h.below HB.out)
  have HL := Lib.hid h.len
  clear h
  have hsq := sq_tk N l
  obtain ⟨N1, hN1⟩ : ∃ x, tkN N l = x := ⟨_, rfl⟩
  obtain ⟨l1, hl1⟩ : ∃ x, tkL N l = x := ⟨_, rfl⟩
  rw [hN1, hl1] at hsq ⊢
  have HN1 := Lib.hid hN1
  have HL1 := Lib.hid hl1
  have HS := Lib.hid hsq
  clear hN1 hl1 hsq
  go_enter Try.func13, Try.ntmps13
  go_upto_region 1 with (fail)
  generalize (w.alloc (.cells #[.int .i64 N, .slice A n c] 24)).alloc (.cells #[.int .i64 0, .slice none 0 0] 24) = W at *
  have gs := HB.out.size
  have gl := X1.out.lt
  have qa := X0.out.c0; have qb := X0.out.c1; have qfa := X0.out.f 0; have qfb := X0.out.f 1; have ql := X0.out.lt; have y0 := X1.out.c0; have y1 := X1.out.c1; have yf0 := X1.out.f 0; have yf1 := X1.out.f 1; have yl := X1.out.lt
  have AP0 := Lib.hid (its_old H0.out (g := w.heap.size) (Nat.le_refl _))
  have AP1 := Lib.hid (its_old H0.out (g := w.heap.size + 1) (Nat.le_succ _))
  go_upto_region 2 with (go_at_call 31; refine (rtaken_at N A n c l N1 l1 _ H.out HN1.out HL1.out).mono ?_; rintro e w1 ⟨A1, n1, c1, rfl, hi, hb, hbo⟩; have HI := Lib.hid hi; have HO := Lib.hid hbo; clear hi hbo; have HB := Lib.hid (below_then HB.out hb); have H := Lib.hid (H.out.below hb); have X0 := Lib.hid (X0.out.keep hb); have X1 := Lib.hid (X1.out.keep hb); clear hb; clear qa qb qfa qfb ql y0 y1 yf0 yf1 yl; have qa := X0.out.c0; have qb := X0.out.c1; have qfa := X0.out.f 0; have qfb := X0.out.f 1; have ql := X0.out.lt; have y0 := X1.out.c0; have y1 := X1.out.c1; have yf0 := X1.out.f 0; have yf1 := X1.out.f 1; have yl := X1.out.lt)
  have X0 := Lib.hid (X0.out.set N1 A1 n1 c1)
  have X1 := Lib.hid ((X1.out.other (p := ⟨w.heap.size, 0, none⟩) (by simp) (.int .i64 N1)).other (p := ⟨w.heap.size, 1, none⟩) (by simp) (.slice A1 n1 c1))
  have HB := Lib.hid (below_set (below_set HB.out (p := ⟨w.heap.size, 0, none⟩) (Nat.le_refl _) (.int .i64 N1)) (p := ⟨w.heap.size, 1, none⟩) (Nat.le_refl _) (.slice A1 n1 c1))
  have H := Lib.hid ((HI.out.set_ (HO.out _ (by omega) AP0.out) 0 (.int .i64 N1)).set_ (HO.out _ (by omega) AP0.out) 1 (.slice A1 n1 c1))
  have AQ1 := Lib.hid (HO.out _ (by omega) AP1.out)
  have BO : Hid (Born w A n A1 n1) := Lib.hid (Born.trans Born.same gs HO.out)
  generalize (w1.setCell ⟨w.heap.size, 0, none⟩ (.int .i64 N1)).setCell ⟨w.heap.size, 1, none⟩ (.slice A1 n1 c1) = W2 at *
  clear HI HO qa qb qfa qfb ql y0 y1 yf0 yf1 yl
  have hn1 : n1 ≤ 8 := by rw [← H.out.len]; exact HS.out.2.1
  have HL1 := Lib.hid H.out.len
  have qa := X0.out.c0; have qb := X0.out.c1; have qfa := X0.out.f 0; have qfb := X0.out.f 1; have ql := X0.out.lt; have y0 := X1.out.c0; have y1 := X1.out.c1; have yf0 := X1.out.f 0; have yf1 := X1.out.f 1; have yl := X1.out.lt
  by_cases h0 : n1 = 0
  · subst h0
    have HE : Hid (l1 = []) := Lib.hid (List.eq_nil_of_length_eq_zero HL1.out)
    have Z := Lib.hid (X1.out.set N1 A1 0 c1); have z0 := Z.out.c0; have z1 := Z.out.c1
    go_wp2
    refine bodyPost_ret (v := .tuple #[.agg #[.int .i64 N1, .slice A1 0 c1], .int .i64 0, .bool false]) (by simp [results, Try.results13, go_sem, z0, z1]) rfl ⟨A1, 0, c1, by rw [HE.out]; rfl, ?_, below_set (below_set HB.out (Nat.le_succ _) _) (Nat.le_succ _) _, BO.out⟩
    rw [nthL, if_pos HE.out, ← HE.out]
    exact (H.out.set_ AQ1.out 0 _).set_ AQ1.out 1 _
  have h1 : (0 : Int) < (n1 : Int) := by omega
  have gs2 := HB.out.size
  have gl2 := X1.out.lt
  go_upto_region 5 with (fail)
  have hne : l1 ≠ [] := fun e => h0 (by rw [← HL1.out, e]; rfl)
  have hlt := at_lt z hne
  obtain ⟨k, hk⟩ : ∃ k, atN l1 z = k := ⟨_, rfl⟩
  have HK := Lib.hid hk
  have hrem := rem_at3 HL1.out z
  rw [hk] at hrem
  first
    | rw [hrem.1]
    | rw [hrem.2.1]
    | rw [hrem.2.2]
  clear hrem
  first
    | generalize (if 0 < z then z else 0) = zz
    | generalize (if z < 0 then 0 else z) = zz
    | skip
  rw [hk, HL1.out] at hlt
  obtain ⟨xb, xo, rfl, hbl, f0, f1, f2⟩ := H.out.at_ k hlt
  obtain ⟨d, hd⟩ : ∃ d, (l1.getD k i0).d = d := ⟨_, rfl⟩
  rw [hd] at f0
  have HD := Lib.hid hd
  clear hk hd f1 f2
  have hx : xb ≠ w.heap.size + 1 := AQ1.out (by omega) xb xo rfl
  have g0 : (0 : Int) ≤ (k : Int) := by omega
  have g1 : (k : Int) < (n1 : Int) := by omega

  have hHeld0 : (fun w9 => Below w.heap.size w w9 ∧ (w9.cell? ⟨w.heap.size, 0, none⟩ = some (.int .i64 N1) ∧ w9.cell? ⟨w.heap.size, 1, none⟩ = some (.slice (some ⟨xb, xo, none⟩) n1 c1)) ∧ w9.cell? ⟨xb, xo + k * 3, none⟩ = some (.int .i64 d)) W2.drew := skN HB.out.drew X0.out.drew f0
  refine wp_region_held_drew (S := fun w9 => Below w.heap.size w w9 ∧ (w9.cell? ⟨w.heap.size, 0, none⟩ = some (.int .i64 N1) ∧ w9.cell? ⟨w.heap.size, 1, none⟩ = some (.slice (some ⟨xb, xo, none⟩) n1 c1)) ∧ w9.cell? ⟨xb, xo + k * 3, none⟩ = some (.int .i64 d)) (by kernel_rfl) hHeld0 (fun hHeld => ?_)
  clear hHeld0
  refine wpAnyH_take (i := 0) (oi := { dst := some 21, op := Op.load 24 (Operand.tmp 2), type := 24, pos := "ref.go:81", after := #[], guard := none }) (v := ?_) rfl (by kernel_rfl) (by kernel_rfl) (by kernel_rfl) (fun _ _ _ h => h) (Or.inl ⟨by kernel_rfl, ?_⟩) hHeld ?_
  rotate_left
  · intro w9 hSw; (try dsimp only at hSw); go_simp; try with_reducible rfl
  simp only [Act.put, List.setIfInBounds_toArray, List.set_cons_zero, List.set_cons_succ]
  refine wpAnyH_take (i := 1) (oi := { dst := some 22, op := Op.move (Operand.tmp 7), type := 3, pos := "ref.go:81", after := #[], guard := none }) (v := ?_) rfl (by kernel_rfl) (by kernel_rfl) (by kernel_rfl) (fun _ _ _ h => h) (Or.inl ⟨by kernel_rfl, ?_⟩) hHeld ?_
  rotate_left
  · intro w9 hSw; (try dsimp only at hSw); go_simp; try with_reducible rfl
  simp only [Act.put, List.setIfInBounds_toArray, List.set_cons_zero, List.set_cons_succ]
  refine wpAnyH_take (i := 3) (oi := { dst := some 24, op := Op.fieldAddr 24 (Operand.tmp 2) 1, type := 0, pos := "ref.go:81", after := #[{ on := 9, ground := Ground.gcOnly Departure.lateStores }], guard := none }) (v := ?_) rfl (by kernel_rfl) (by kernel_rfl) (by kernel_rfl) (fun _ _ _ h => h) (Or.inl ⟨by kernel_rfl, ?_⟩) hHeld ?_
  rotate_left
  · intro w9 hSw; (try dsimp only at hSw); go_simp; try with_reducible rfl
  simp only [Act.put, List.setIfInBounds_toArray, List.set_cons_zero, List.set_cons_succ]
  refine wpAnyH_take (i := 4) (oi := { dst := some 25, op := Op.load 22 (Operand.tmp 24), type := 22, pos := "ref.go:81", after := #[{ on := 3, ground := Ground.data }, { on := 9, ground := Ground.gcOnly Departure.lateStores }], guard := none }) (v := ?_) rfl (by kernel_rfl) (by kernel_rfl) (by kernel_rfl) (fun _ _ _ h => h) (Or.inl ⟨by kernel_rfl, ?_⟩) hHeld ?_
  rotate_left
  · intro w9 hSw; (try dsimp only at hSw); go_simp; try with_reducible rfl
  simp only [Act.put, List.setIfInBounds_toArray, List.set_cons_zero, List.set_cons_succ]
  refine wpAnyH_take (i := 5) (oi := { dst := some 26, op := Op.move (Operand.tmp 7), type := 3, pos := "ref.go:81", after := #[{ on := 9, ground := Ground.gcOnly Departure.lateStores }], guard := none }) (v := ?_) rfl (by kernel_rfl) (by kernel_rfl) (by kernel_rfl) (fun _ _ _ h => h) (Or.inl ⟨by kernel_rfl, ?_⟩) hHeld ?_
  rotate_left
  · intro w9 hSw; (try dsimp only at hSw); go_simp; try with_reducible rfl
  simp only [Act.put, List.setIfInBounds_toArray, List.set_cons_zero, List.set_cons_succ]
  refine wpAnyH_take (i := 6) (oi := { dst := some 27, op := Op.indexAddr 22 (Operand.tmp 25) (Operand.tmp 26), type := 0, pos := "ref.go:81", after := #[{ on := 4, ground := Ground.data }, { on := 5, ground := Ground.data }, { on := 9, ground := Ground.gcOnly Departure.lateStores }], guard := none }) (v := ?_) rfl (by kernel_rfl) (by kernel_rfl) (by kernel_rfl) (fun _ _ _ h => h) (Or.inl ⟨by kernel_rfl, ?_⟩) hHeld ?_
  rotate_left
  · intro w9 hSw; (try dsimp only at hSw); go_simp; try with_reducible rfl
  simp only [Act.put, List.setIfInBounds_toArray, List.set_cons_zero, List.set_cons_succ]
  refine wpAnyH_take (i := 7) (oi := { dst := some 28, op := Op.fieldAddr 52 (Operand.tmp 27) 0, type := 0, pos := "ref.go:81", after := #[{ on := 6, ground := Ground.data }, { on := 9, ground := Ground.gcOnly Departure.lateStores }], guard := none }) (v := ?_) rfl (by kernel_rfl) (by kernel_rfl) (by kernel_rfl) (fun _ _ _ h => h) (Or.inl ⟨by kernel_rfl, ?_⟩) hHeld ?_
  rotate_left
  · intro w9 hSw; (try dsimp only at hSw); go_simp; try with_reducible rfl
  simp only [Act.put, List.setIfInBounds_toArray, List.set_cons_zero, List.set_cons_succ]
  refine wpAnyH_take (i := 8) (oi := { dst := some 29, op := Op.load 3 (Operand.tmp 28), type := 3, pos := "ref.go:81", after := #[{ on := 7, ground := Ground.data }, { on := 9, ground := Ground.gcOnly Departure.lateStores }], guard := none }) (v := ?_) rfl (by kernel_rfl) (by kernel_rfl) (by kernel_rfl) (fun _ _ _ h => h) (Or.inl ⟨by kernel_rfl, ?_⟩) hHeld ?_
  rotate_left
  · intro w9 hSw; (try dsimp only at hSw); go_simp; try with_reducible rfl
  simp only [Act.put, List.setIfInBounds_toArray, List.set_cons_zero, List.set_cons_succ]
  refine wpAnyH_ready (rs := [2]) (by kernel_rfl) (by simp) ?_
  refine AllReadyH.cons (o := { dst := some 23, op := Op.call { callee := Callee.value (Operand.func 34), args := #[Operand.tmp 21, Operand.tmp 22], argTypes := #[24, 3] }, type := 24, pos := "ref.go:81", after := #[{ on := 0, ground := Ground.data }, { on := 1, ground := Ground.data }], guard := none }) rfl (fun K hK => ?_) AllReadyH.nil
  go_simp
  refine (rwithout_is N1 (some ⟨xb, xo, none⟩) n1 c1 l1 k _ hlt (by omega) H.out.drew).mono ?_; rintro e w3 ⟨A3, n3, c3, rfl, hi3, hb, hbo⟩; have HI3 := Lib.hid hi3; have HO3 := Lib.hid hbo; have f3 := (hb.cell (p := ⟨xb, xo + k * 3, none⟩) hbl).trans f0; have HB := Lib.hid HB.out.drew; have H := Lib.hid H.out.drew; have X0 := Lib.hid X0.out.drew; have X1 := Lib.hid X1.out.drew; clear hi3 hbo; have HB := Lib.hid (below_then HB.out hb); have H := Lib.hid (H.out.below hb); have X0 := Lib.hid (X0.out.keep hb); have X1 := Lib.hid (X1.out.keep hb); clear hb; clear qa qb qfa qfb ql y0 y1 yf0 yf1 yl; have qa := X0.out.c0; have qb := X0.out.c1; have qfa := X0.out.f 0; have qfb := X0.out.f 1; have ql := X0.out.lt; have y0 := X1.out.c0; have y1 := X1.out.c1; have yf0 := X1.out.f 0; have yf1 := X1.out.f 1; have yl := X1.out.lt; have Z := Lib.hid (X1.out.set N1 A3 n3 c3); have z0 := Z.out.c0; have z1 := Z.out.c1
  refine hK.out _ _ (skN HB.out X0.out f3) (fun hHeld => ?_)
  clear hK K
  try simp only [Act.put, List.setIfInBounds_toArray, List.set_cons_zero, List.set_cons_succ]
  refine wpAnyH_ready (rs := [9]) (by kernel_rfl) (by simp) ?_
  refine AllReadyH.cons (o := { dst := none, op := Op.store 24 (Operand.tmp 4) (Operand.tmp 23), type := 0, pos := "ref.go:81", after := #[{ on := 2, ground := Ground.data }, { on := 2, ground := Ground.chain }, { on := 0, ground := Ground.phase }, { on := 1, ground := Ground.phase }, { on := 2, ground := Ground.phase }, { on := 3, ground := Ground.textOnly Departure.lateStores }, { on := 4, ground := Ground.textOnly Departure.lateStores }, { on := 5, ground := Ground.textOnly Departure.lateStores }, { on := 6, ground := Ground.textOnly Departure.lateStores }, { on := 7, ground := Ground.textOnly Departure.lateStores }, { on := 8, ground := Ground.textOnly Departure.lateStores }], guard := none }) rfl (fun K hK => ?_) AllReadyH.nil
  go_simp
  skip
  refine hK.out _ _ (skN (below_set (below_set HB.out (Nat.le_succ _) _) (Nat.le_succ _) _) ((X0.out.other (by simp) _).other (by simp) _) ((cell_other _ hx _ _ _).trans ((cell_other _ hx _ _ _).trans f3))) (fun hHeld => ?_)
  clear hK K
  try simp only [Act.put, List.setIfInBounds_toArray, List.set_cons_zero, List.set_cons_succ]
  refine wpAnyH_take (i := 10) (oi := { dst := some 5, op := Op.assign (Operand.tmp 29), type := 3, pos := "ref.go:81", after := #[{ on := 8, ground := Ground.data }, { on := 9, ground := Ground.chain }, { on := 0, ground := Ground.phase }, { on := 1, ground := Ground.phase }, { on := 2, ground := Ground.phase }, { on := 3, ground := Ground.phase }, { on := 4, ground := Ground.phase }, { on := 5, ground := Ground.phase }, { on := 6, ground := Ground.phase }, { on := 7, ground := Ground.phase }, { on := 8, ground := Ground.phase }, { on := 9, ground := Ground.phase }], guard := none }) (v := ?_) rfl (by kernel_rfl) (by kernel_rfl) (by kernel_rfl) (fun _ _ _ h => h) (Or.inl ⟨by kernel_rfl, ?_⟩) hHeld ?_
  rotate_left
  · intro w9 hSw; (try dsimp only at hSw); go_simp; try with_reducible rfl
  simp only [Act.put, List.setIfInBounds_toArray, List.set_cons_zero, List.set_cons_succ]
  refine wpAnyH_take (i := 11) (oi := { dst := some 6, op := Op.assign (Operand.const (Value.bool true)), type := 4, pos := "ref.go:81", after := #[{ on := 10, ground := Ground.chain }, { on := 0, ground := Ground.phase }, { on := 1, ground := Ground.phase }, { on := 2, ground := Ground.phase }, { on := 3, ground := Ground.phase }, { on := 4, ground := Ground.phase }, { on := 5, ground := Ground.phase }, { on := 6, ground := Ground.phase }, { on := 7, ground := Ground.phase }, { on := 8, ground := Ground.phase }, { on := 9, ground := Ground.phase }, { on := 10, ground := Ground.phase }], guard := none }) (v := ?_) rfl (by kernel_rfl) (by kernel_rfl) (by kernel_rfl) (fun _ _ _ h => h) (Or.inl ⟨by kernel_rfl, ?_⟩) hHeld ?_
  rotate_left
  · intro w9 hSw; (try dsimp only at hSw); go_simp; try with_reducible rfl
  simp only [Act.put, List.setIfInBounds_toArray, List.set_cons_zero, List.set_cons_succ]
  refine wpAnyH_done (by kernel_rfl) ?_ _
  go_wp2
  refine bodyPost_ret (v := .tuple #[.agg #[.int .i64 N1, .slice A3 n3 c3], .int .i64 d, .bool true]) (by simp [results, Try.results13, go_sem, z0, z1]) rfl ⟨A3, n3, c3, ?_, ?_, below_set (below_set HB.out (Nat.le_succ _) _) (Nat.le_succ _) _, BO.out.trans gs2 HO3.out⟩
  · unfold nthD nthB
    rw [if_neg hne, HK.out, HD.out]
    cases l1
    · exact absurd rfl hne
    · rfl
  · unfold nthL
    rw [if_neg hne, HK.out]
    exact (HI3.out.set_ (HO3.out _ gl2 AQ1.out) 0 _).set_ (HO3.out _ gl2 AQ1.out) 1 _
set_option maxHeartbeats 2000000 in
theorem rtake_is (N : Int) (A : Option Addr) (n c : Nat) (l : List It) (w : World) (h : Its w A n c l) :
    Calls Try.prog 15 #[.agg #[.int .i64 N, .slice A n c]] w (Q3Post A n (tkN N l) (nthL (tkL N l) 0) (nthD (tkL N l) 0) (nthB (tkL N l)) w) := by
  have X0 := Lib.hid ((Qv.new w 24 N A n c).alloc (.cells #[.int .i64 0, .slice none 0 0] 24))
  have X1 := Lib.hid (Qv.at_ (w.alloc (.cells #[.int .i64 N, .slice A n c] 24)) 24 0 none 0 0 (w.heap.size + 1) (by simp))
  have HB := Lib.hid (two_new w (.cells #[.int .i64 N, .slice A n c] 24) (.cells #[.int .i64 0, .slice none 0 0] 24))
  have H0 := Lib.hid h
  have H := Lib.hid (h.below HB.out)
  have HL := Lib.hid h.len
  clear h
  obtain ⟨N1, hN1⟩ : ∃ x, tkN N l = x := ⟨_, rfl⟩
  obtain ⟨l1, hl1⟩ : ∃ x, nthL (tkL N l) 0 = x := ⟨_, rfl⟩
  obtain ⟨d, hd⟩ : ∃ x, nthD (tkL N l) 0 = x := ⟨_, rfl⟩
  obtain ⟨b, hb⟩ : ∃ x, nthB (tkL N l) = x := ⟨_, rfl⟩
  have HC : Hid (∀ w, Its w A n c l → Calls Try.prog 13 #[.agg #[.int .i64 N, .slice A n c], .int .i64 0] w (Q3Post A n N1 l1 d b w)) := Lib.hid (fun w h => by
    have := rnth_is N A n c l 0 w h
    rw [hN1, hl1, hd, hb] at this
    exact this)
  rw [hN1, hl1, hd, hb]
  clear hN1 hl1 hd hb
  go_enter Try.func15, Try.ntmps15
  go_upto_region 1 with (fail)
  generalize (w.alloc (.cells #[.int .i64 N, .slice A n c] 24)).alloc (.cells #[.int .i64 0, .slice none 0 0] 24) = W at *
  have gs := HB.out.size
  have gl := X1.out.lt
  have qa := X0.out.c0; have qb := X0.out.c1; have qfa := X0.out.f 0; have qfb := X0.out.f 1; have ql := X0.out.lt; have y0 := X1.out.c0; have y1 := X1.out.c1; have yf0 := X1.out.f 0; have yf1 := X1.out.f 1; have yl := X1.out.lt
  have AP1 := Lib.hid (its_old H0.out (g := w.heap.size + 1) (Nat.le_succ _))
  go_wp2_with (go_at_call 13; refine (HC.out _ H.out).mono ?_; rintro e w1 ⟨A1, n1, c1, rfl, hi, hb, hbo⟩; have HI := Lib.hid hi; have HO := Lib.hid hbo; clear hi hbo; have HB := Lib.hid (below_then HB.out hb); have H := Lib.hid (H.out.below hb); have X0 := Lib.hid (X0.out.keep hb); have X1 := Lib.hid (X1.out.keep hb); clear hb; clear qa qb qfa qfb ql y0 y1 yf0 yf1 yl; have qa := X0.out.c0; have qb := X0.out.c1; have qfa := X0.out.f 0; have qfb := X0.out.f 1; have ql := X0.out.lt; have y0 := X1.out.c0; have y1 := X1.out.c1; have yf0 := X1.out.f 0; have yf1 := X1.out.f 1; have yl := X1.out.lt; have Z := Lib.hid (X1.out.set N1 A1 n1 c1); have z0 := Z.out.c0; have z1 := Z.out.c1)
  refine bodyPost_ret (v := .tuple #[.agg #[.int .i64 N1, .slice A1 n1 c1], .int .i64 d, .bool b]) (by simp [results, Try.results15, go_sem, z0, z1]) rfl ⟨A1, n1, c1, rfl, (HI.out.set_ (HO.out _ gl AP1.out) 0 _).set_ (HO.out _ gl AP1.out) 1 _, below_set (below_set HB.out (Nat.le_succ _) _) (Nat.le_succ _) _, Born.trans Born.same gs HO.out⟩

set_option maxHeartbeats 2000000 in
theorem rdrop_is (N : Int) (A : Option Addr) (n c : Nat) (l : List It) (d : Int) (w : World) (h : Its w A n c l) :
    Calls Try.prog 17 #[.agg #[.int .i64 N, .slice A n c], .int .i64 d] w (Q2Post A n (tkN N l) (drL (tkL N l) d) (drB (tkL N l) d) w) := by
  have X0 := Lib.hid ((Qv.new w 24 N A n c).alloc (.cells #[.int .i64 0, .slice none 0 0] 24))
  have X1 := Lib.hid (Qv.at_ (w.alloc (.cells #[.int .i64 N, .slice A n c] 24)) 24 0 none 0 0 (w.heap.size + 1) (by simp))
  have HB := Lib.hid (two_new w (.cells #[.int .i64 N, .slice A n c] 24) (.cells #[.int .i64 0, .slice none 0 0] 24))
  have H0 := Lib.hid h
  have H := Lib.hid (h.below HB.out)
  have HL := Lib.hid h.len
  clear h
  have hsq := sq_tk N l
  obtain ⟨N1, hN1⟩ : ∃ x, tkN N l = x := ⟨_, rfl⟩
  obtain ⟨l1, hl1⟩ : ∃ x, tkL N l = x := ⟨_, rfl⟩
  rw [hN1, hl1] at hsq ⊢
  have HN1 := Lib.hid hN1
  have HL1 := Lib.hid hl1
  have HS := Lib.hid hsq
  clear hN1 hl1 hsq
  go_enter Try.func17, Try.ntmps17
  go_upto_region 1 with (fail)
  generalize (w.alloc (.cells #[.int .i64 N, .slice A n c] 24)).alloc (.cells #[.int .i64 0, .slice none 0 0] 24) = W at *
  have gs := HB.out.size
  have gl := X1.out.lt
  have qa := X0.out.c0; have qb := X0.out.c1; have qfa := X0.out.f 0; have qfb := X0.out.f 1; have ql := X0.out.lt; have y0 := X1.out.c0; have y1 := X1.out.c1; have yf0 := X1.out.f 0; have yf1 := X1.out.f 1; have yl := X1.out.lt
  have AP0 := Lib.hid (its_old H0.out (g := w.heap.size) (Nat.le_refl _))
  have AP1 := Lib.hid (its_old H0.out (g := w.heap.size + 1) (Nat.le_succ _))
  go_upto_region 2 with (go_at_call 31; refine (rtaken_at N A n c l N1 l1 _ H.out HN1.out HL1.out).mono ?_; rintro e w1 ⟨A1, n1, c1, rfl, hi, hb, hbo⟩; have HI := Lib.hid hi; have HO := Lib.hid hbo; clear hi hbo; have HB := Lib.hid (below_then HB.out hb); have H := Lib.hid (H.out.below hb); have X0 := Lib.hid (X0.out.keep hb); have X1 := Lib.hid (X1.out.keep hb); clear hb; clear qa qb qfa qfb ql y0 y1 yf0 yf1 yl; have qa := X0.out.c0; have qb := X0.out.c1; have qfa := X0.out.f 0; have qfb := X0.out.f 1; have ql := X0.out.lt; have y0 := X1.out.c0; have y1 := X1.out.c1; have yf0 := X1.out.f 0; have yf1 := X1.out.f 1; have yl := X1.out.lt)
  have X0 := Lib.hid (X0.out.set N1 A1 n1 c1)
  have X1 := Lib.hid ((X1.out.other (p := ⟨w.heap.size, 0, none⟩) (by simp) (.int .i64 N1)).other (p := ⟨w.heap.size, 1, none⟩) (by simp) (.slice A1 n1 c1))
  have HB := Lib.hid (below_set (below_set HB.out (p := ⟨w.heap.size, 0, none⟩) (Nat.le_refl _) (.int .i64 N1)) (p := ⟨w.heap.size, 1, none⟩) (Nat.le_refl _) (.slice A1 n1 c1))
  have H := Lib.hid ((HI.out.set_ (HO.out _ (by omega) AP0.out) 0 (.int .i64 N1)).set_ (HO.out _ (by omega) AP0.out) 1 (.slice A1 n1 c1))
  have AQ1 := Lib.hid (HO.out _ (by omega) AP1.out)
  have BO : Hid (Born w A n A1 n1) := Lib.hid (Born.trans Born.same gs HO.out)
  generalize (w1.setCell ⟨w.heap.size, 0, none⟩ (.int .i64 N1)).setCell ⟨w.heap.size, 1, none⟩ (.slice A1 n1 c1) = W2 at *
  clear HI HO qa qb qfa qfb ql y0 y1 yf0 yf1 yl
  have hn1 : n1 ≤ 8 := by rw [← H.out.len]; exact HS.out.2.1
  have HL1 := Lib.hid H.out.len
  have qa := X0.out.c0; have qb := X0.out.c1; have qfa := X0.out.f 0; have qfb := X0.out.f 1; have ql := X0.out.lt; have y0 := X1.out.c0; have y1 := X1.out.c1; have yf0 := X1.out.f 0; have yf1 := X1.out.f 1; have yl := X1.out.lt
  have gs2 := HB.out.size
  have gl2 := X1.out.lt
  go_upto_region 3 with (fail)
  go_loop [6] (fun i => ∃ j : Nat, j ≤ n1 ∧ i = .int .i64 j ∧ ∀ q, q < j → (l1.getD q i0).d ≠ d) (fun i => ((n1 : Int) - intOf i).toNat)
  case atStart => exact ⟨0, by omega, rfl, fun q hq => absurd hq (by omega)⟩
  case round =>
    obtain ⟨j, hj, rfl, hq⟩ := hrel
    have HQ := Lib.hid hq
    clear hq
    by_cases hlt : j < n1
    · obtain ⟨xb, xo, hA, hbl, f0, f1, f2⟩ := H.out.at_ j hlt
      obtain ⟨y, hy⟩ : ∃ y, (l1.getD j i0).d = y := ⟨_, rfl⟩
      have HY := Lib.hid hy
      rw [hy] at f0
      clear hy f1 f2
      cases hyd : (y == d)
      · have HNX : Hid (∀ q, q < j + 1 → (l1.getD q i0).d ≠ d) := Lib.hid (fun q hq => by
          rcases Nat.lt_succ_iff_lt_or_eq.1 hq with g | rfl
          · exact HQ.out q g
          · rw [HY.out]; simpa using hyd)
        subst hA
        go_wp2
        go_round
        case rel => exact ⟨j + 1, by omega, by go_num, HNX.out⟩
        case measure => simp [intOf]; omega
      · have HP : Hid (plA d l1 = j) := Lib.hid (pl_eq d l1 j (by rw [HL1.out]; omega) HQ.out (fun _ => by rw [HY.out]; simpa using hyd))
        subst hA
        go_wp2_with (go_at_call 34; refine (rwithout_is N1 (some ⟨xb, xo, none⟩) n1 c1 l1 j _ hlt (by omega) H.out).mono ?_; rintro e w4 ⟨A3, n3, c3, rfl, hi3, hb, hbo⟩; have HI3 := Lib.hid hi3; have HO3 := Lib.hid hbo; clear hi3 hbo; have HB := Lib.hid (below_then HB.out hb); have H := Lib.hid (H.out.below hb); have X0 := Lib.hid (X0.out.keep hb); have X1 := Lib.hid (X1.out.keep hb); clear hb; clear qa qb qfa qfb ql y0 y1 yf0 yf1 yl; have qa := X0.out.c0; have qb := X0.out.c1; have qfa := X0.out.f 0; have qfb := X0.out.f 1; have ql := X0.out.lt; have y0 := X1.out.c0; have y1 := X1.out.c1; have yf0 := X1.out.f 0; have yf1 := X1.out.f 1; have yl := X1.out.lt; have Z := Lib.hid (X1.out.set N1 A3 n3 c3); have z0 := Z.out.c0; have z1 := Z.out.c1)
        refine bodyPost_ret (v := .tuple #[.agg #[.int .i64 N1, .slice A3 n3 c3], .bool true]) (by simp [results, Try.results17, go_sem, z0, z1]) rfl ⟨A3, n3, c3, ?_, ?_, below_set (below_set HB.out (Nat.le_succ _) _) (Nat.le_succ _) _, BO.out.trans gs2 HO3.out⟩
        · unfold drB
          rw [decide_eq_true (show plA d l1 < l1.length by rw [HP.out, HL1.out]; exact hlt)]
        · unfold drL
          rw [if_pos (show plA d l1 < l1.length by rw [HP.out, HL1.out]; exact hlt), HP.out]
          exact (HI3.out.set_ (HO3.out _ gl2 AQ1.out) 0 _).set_ (HO3.out _ gl2 AQ1.out) 1 _
    · obtain rfl : j = n1 := by omega
      have HP : Hid (¬ plA d l1 < l1.length) := Lib.hid (fun g => HQ.out _ (by rw [HL1.out] at g; exact g) (pl_at d l1 g))
      have Z := Lib.hid (X1.out.set N1 A1 j c1); have z0 := Z.out.c0; have z1 := Z.out.c1
      go_wp2
      refine bodyPost_ret (v := .tuple #[.agg #[.int .i64 N1, .slice A1 j c1], .bool false]) (by simp [results, Try.results17, go_sem, z0, z1]) rfl ⟨A1, j, c1, ?_, ?_, below_set (below_set HB.out (Nat.le_succ _) _) (Nat.le_succ _) _, BO.out⟩
      · unfold drB
        rw [decide_eq_false HP.out]
      · unfold drL
        rw [if_neg HP.out]
        exact (H.out.set_ AQ1.out 0 _).set_ AQ1.out 1 _
set_option maxHeartbeats 2000000 in
theorem rids_is (N : Int) (A : Option Addr) (n c : Nat) (l : List It) (w : World) (h : Its w A n c l) :
    Calls Try.prog 22 #[.agg #[.int .i64 N, .slice A n c]] w (IdPost (idL (tkL N l)) w) := by
  have hsq := sq_tk N l
  obtain ⟨N1, hN1⟩ : ∃ x, tkN N l = x := ⟨_, rfl⟩
  obtain ⟨l1, hl1⟩ : ∃ x, tkL N l = x := ⟨_, rfl⟩
  rw [hN1, hl1] at hsq
  rw [hl1]
  have HN1 := Lib.hid hN1
  have HL1 := Lib.hid hl1
  have X0 := Lib.hid (Qv.new w 24 N A n c)
  have HB := Lib.hid (below_one w (.cells #[.int .i64 N, .slice A n c] 24))
  have H0 := Lib.hid h
  have H := Lib.hid (h.below HB.out)
  have h8 : l1.length ≤ 8 := hsq.2.1
  clear hN1 hl1 hsq h
  go_enter Try.func22, Try.ntmps22
  go_upto_region 1 with (fail)
  generalize w.alloc (.cells #[.int .i64 N, .slice A n c] 24) = W at *
  have qa := X0.out.c0; have qb := X0.out.c1
  have gl := X0.out.lt
  have AP0 := Lib.hid (its_old H0.out (g := w.heap.size) (Nat.le_refl _))
  go_upto_region 2 with (go_at_call 31; refine (rtaken_at N A n c l N1 l1 _ H.out HN1.out HL1.out).mono ?_; rintro e w1 ⟨A1, n1, c1, rfl, hi, hb, hbo⟩; have HI := Lib.hid hi; have HO := Lib.hid hbo; have HB := Lib.hid (below_then HB.out hb); have X0 := Lib.hid (X0.out.keep hb); clear hi hb hbo qa qb; have qa := X0.out.c0; have qb := X0.out.c1; have qfa := X0.out.f 0; have qfb := X0.out.f 1; have ql := X0.out.lt)
  have X0 := Lib.hid (X0.out.set N1 A1 n1 c1)
  have HB := Lib.hid (below_set (below_set HB.out (p := ⟨w.heap.size, 0, none⟩) (Nat.le_refl _) (.int .i64 N1)) (p := ⟨w.heap.size, 1, none⟩) (Nat.le_refl _) (.slice A1 n1 c1))
  have HI := Lib.hid ((HI.out.set_ (HO.out _ gl AP0.out) 0 (.int .i64 N1)).set_ (HO.out _ gl AP0.out) 1 (.slice A1 n1 c1))
  generalize (w1.setCell ⟨w.heap.size, 0, none⟩ (.int .i64 N1)).setCell ⟨w.heap.size, 1, none⟩ (.slice A1 n1 c1) = W2 at *
  clear qa qb qfa qfb ql HO AP0 H H0
  have hn1 : n1 ≤ 8 := by rw [← HI.out.len]; exact h8
  have HL := Lib.hid HI.out.len
  go_upto_region 4 with (fail)
  go_loopw [3, 4] (fun v i wr => ∃ (j : Nat) (A' : Option Addr) (c' : Nat), j ≤ n1 ∧ i = .int .i64 j ∧ v = .slice A' j c' ∧ Own W2 wr A' j c' (idL (l1.take j))) (fun _ i _ => ((n1 : Int) - intOf i).toNat)
  case atStart => exact ⟨0, none, 0, by omega, rfl, rfl, Own.nil _⟩
  case round =>
    obtain ⟨j, A', c', hj, rfl, rfl, hO⟩ := hrel
    have HO := Lib.hid hO
    have qa := (X0.out.keep hO.below).c0
    have qb := (X0.out.keep hO.below).c1
    clear hO
    by_cases hlt : j < n1
    · have hjl : j < l1.length := by rw [HL.out]; exact hlt
      obtain ⟨xb, xo, rfl, hbl, f0, f1, f2⟩ := (HI.out.below HO.out.below).at_ j hlt
      have HX := Lib.hid (id_next l1 j hjl)
      generalize l1.getD j i0 = e at HX f0 f1 f2
      obtain ⟨d, p, t⟩ := e
      simp only at f0 f1 f2
      go_wp2_with (at_builtin; refine wpList_app (W := W2) rfl (.tmp 14) (.tmp 21) rfl rfl rfl (HO.out.grow (below_one wr (.cells #[.int .i64 d] 3))) (stk_one _ _ d _ rfl) (by omega) ?_; intro A3 c3 w3 hw3; have HW := Lib.hid hw3; clear hw3)
      go_roundw
      case rel => exact ⟨j + 1, A3, c3, by omega, by go_num, by go_num, by rw [HX.out]; exact HW.out⟩
      case measure => simp [intOf]; omega
    · obtain rfl : j = n1 := by omega
      go_wp2
      go_ret
      have hO := HO.out
      rw [List.take_of_length_le (by rw [HL.out]; exact Nat.le_refl _)] at hO
      exact ⟨A', j, c', rfl, hO.stk, below_then HB.out hO.below⟩

end Go.Proofs.Ytoklocbdifefcaa
