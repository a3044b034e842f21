/-
  What package timer answers of Put.
-/
import Derived.Test.YtpkfmbknbdlnpaaTimerDue
import Derived.Test.YtpkfmbknbdlnpaaTimerDrop
namespace Go.Proofs.Ytpkfmbknbdlnpaa
open Go.RowKit Go.Shelf
attribute [local go_sem] Oper.semAt_some

theorem boxed_own {β : Type} (B : Nat) (t : TypeId) (g : β → Value) : _root_.Go.Own (fun (s : β) W => Boxed W B t (g s)) := by
  rintro s X Y row hv hg hrow
  refine hv.kept hg (fun e' => ?_)
  obtain ⟨o, ho, hc⟩ := hrow B e'.symm
  rw [show X.heap[B]? = _ from hv] at ho; cases ho; cases hc
theorem skV {W w9 : World} {b i : Nat} {T T' : TypeId} {v : Value} {x : Np} (h : Boxed W b T v) (X : Nv W i T' x) (hb : Below W.heap.size W w9) : Below W.heap.size W w9 ∧ w9.cell? ⟨b, 0, none⟩ = some v ∧ w9.cell? ⟨i, 0, none⟩ = some (.int .i64 x.d) ∧ w9.cell? ⟨i, 1, none⟩ = some (.int .i64 x.t) :=
  ⟨hb, (hb.cell (p := ⟨b, 0, none⟩) h.lt).trans h.cell, (X.keep hb).c0, (X.keep hb).c1⟩
set_option maxHeartbeats 2000000 in
theorem tput_no (A : Option Addr) (n c : Nat) (l l1 : List Np) (d t : Int) (w : World) (hn : n ≤ 4611686018427387904) (h : Nps w A n c l) (hl1 : tnL l = l1) (hp : pnB l1 d t = false) :
    Calls Try.prog 8 #[.slice A n c, .int .i64 d, .int .i64 t] w (NBPost (pnL l1 d t) (pnB l1 d t) w) := by
  have hsn := sn_tn l
  rw [hl1] at hsn
  have HL1 := Lib.hid hl1
  have HS := Lib.hid hsn
  have H := Lib.hid h
  have HP := Lib.hid hp
  have HPL : Hid (pnL l1 d t = l1) := Lib.hid (by unfold pnL; rw [hp]; rfl)
  clear hl1 hsn h
  cases hv : npB ⟨d, t⟩
  · have HV1 := Lib.hid hv
    clear hv hp
    go_enter Try.func8, Try.ntmps8
    go_wp2_with (first | (go_at_call 22; refine (ntaken_any A n c l l1 _ hn H.out HL1.out).mono ?_; rintro e w1 ⟨A1, n1, c1, rfl, hi1, hb1, _⟩; have hn1 : n1 ≤ 8 := (by rw [← hi1.len]; exact HS.out.1); have HX := Lib.hid (Nv.new w1 49 ⟨d, t⟩); have HI := Lib.hid (hi1.alloc (.cells #[.int .i64 d, .int .i64 t] 49)); have HB := Lib.hid (hb1.alloc hb1.size (.cells #[.int .i64 d, .int .i64 t] 49)); clear hi1 hb1) | (go_at_call 23; refine (isNap_is d t _ HV1.out _).mono ?_; rintro e w2 ⟨rfl, hb⟩; have HI := Lib.hid (HI.out.below hb); have HX := Lib.hid (HX.out.keep hb); have HB := Lib.hid (below_then HB.out hb); clear hb))
    go_ret2
    exact ⟨A1, n1, c1, by rw [HP.out]; rfl, by rw [HPL.out]; exact HI.out, HB.out⟩
  · have hh : hsB l1 d = true := by
      unfold pnB at hp
      rw [hv] at hp
      simpa using hp
    have HV1 := Lib.hid hv
    obtain ⟨k, hk, he, _⟩ := nf_yes_hs hh
    have HE := Lib.hid he
    have hk0 : (0 : Int) ≤ (k : Int) := by omega
    clear hv hp hh he
    go_enter Try.func8, Try.ntmps8
    go_wp2_with (first | (go_at_call 22; refine (ntaken_any A n c l l1 _ hn H.out HL1.out).mono ?_; rintro e w1 ⟨A1, n1, c1, rfl, hi1, hb1, _⟩; have hn1 : n1 ≤ 8 := (by rw [← hi1.len]; exact HS.out.1); have HX := Lib.hid (Nv.new w1 49 ⟨d, t⟩); have HI := Lib.hid (hi1.alloc (.cells #[.int .i64 d, .int .i64 t] 49)); have HB := Lib.hid (hb1.alloc hb1.size (.cells #[.int .i64 d, .int .i64 t] 49)); clear hi1 hb1) | (go_at_call 23; refine (isNap_is d t _ HV1.out _).mono ?_; rintro e w2 ⟨rfl, hb⟩; have HI := Lib.hid (HI.out.below hb); have HX := Lib.hid (HX.out.keep hb); have HB := Lib.hid (below_then HB.out hb); clear hb) | (go_at_call 24; refine (nplace_is A1 n1 c1 l1 d _ _ (by omega) HI.out HE.out).mono ?_; rintro e w3 ⟨rfl, hb⟩; have HI := Lib.hid (HI.out.below hb); have HX := Lib.hid (HX.out.keep hb); have HB := Lib.hid (below_then HB.out hb); clear hb))
    go_ret2
    exact ⟨A1, n1, c1, by rw [HP.out]; rfl, by rw [HPL.out]; exact HI.out, HB.out⟩
set_option maxRecDepth 100000 in
set_option maxHeartbeats 4000000 in
theorem tput_in (A : Option Addr) (n c : Nat) (l l1 : List Np) (d t : Int) (w : World) (hn : n ≤ 4611686018427387904) (h : Nps w A n c l) (hl1 : tnL l = l1) (hp : pnB l1 d t = true) :
    CallsIn Fence.wide 3 Try.prog 8 #[.slice A n c, .int .i64 d, .int .i64 t] w (NBPost (pnL l1 d t) (pnB l1 d t) w) := by
  have hsn := sn_tn l
  rw [hl1] at hsn
  have HL1 := Lib.hid hl1
  have HS := Lib.hid hsn
  have H := Lib.hid h
  have HP := Lib.hid hp
  have hp2 : npB ⟨d, t⟩ = true ∧ hsB l1 d = false := by
    unfold pnB at hp
    simpa using hp
  have HV1 := Lib.hid hp2.1
  have HE := Lib.hid (nf_no_hs hp2.2)
  clear hl1 hsn h hp hp2
  refine callsIn_of_wp_marks Try.func8 rfl trivial ?_ rfl
  simp only [Try.ntmps8, List.size_toArray, List.length_cons, List.length_nil, Nat.reduceAdd, Nat.reduceSub, Array.replicate_succ, Array.replicate_zero, List.push_toArray, List.append_toArray, List.nil_append, List.cons_append]
  gi_wp2_with (first | (refine ⟨trivial, ?_⟩; gi_at_call 22; refine (callsIn_wide.2 (ntaken_any A n c l l1 _ hn H.out HL1.out)).mono ?_; rintro e w1 ⟨A1, n1, c1, rfl, hi1, hb1, _⟩; have hn1 : n1 ≤ 8 := (by rw [← hi1.len]; exact HS.out.1); have HX := Lib.hid (Nv.new w1 49 ⟨d, t⟩); have HI := Lib.hid (hi1.alloc (.cells #[.int .i64 d, .int .i64 t] 49)); have HB := Lib.hid (hb1.alloc hb1.size (.cells #[.int .i64 d, .int .i64 t] 49)); clear hi1 hb1) | (refine ⟨trivial, ?_⟩; gi_at_call 23; refine (callsIn_wide.2 (isNap_is d t _ HV1.out _)).mono ?_; rintro e w2 ⟨rfl, hb⟩; have HI := Lib.hid (HI.out.below hb); have HX := Lib.hid (HX.out.keep hb); have HB := Lib.hid (below_then HB.out hb); clear hb) | (refine ⟨trivial, ?_⟩; gi_at_call 24; refine (callsIn_wide.2 (nplace_is A1 n1 c1 l1 d _ _ (by omega) HI.out HE.out)).mono ?_; rintro e w3 ⟨rfl, hb⟩; have HI := Lib.hid (HI.out.below hb); have HX := Lib.hid (HX.out.keep hb); have HB := Lib.hid (below_then HB.out hb); clear hb) | (refine ⟨trivial, ?_⟩; gi_at_call 25; refine (ndue_in A1 n1 c1 t 2 _).mono ?_; rintro e w' ⟨rfl, rfl⟩))
  rename_i K9 hK9
  have HK9 := Lib.hid hK9
  clear hK9
  have hcl : (((w3.alloc (.cells #[.int .i64 0] 3)).alloc (.cells #[.slice A1 n1 c1] 24)).alloc (.cells #[.int .i64 t] 3)).cell? ⟨w3.heap.size + 1, 0, none⟩ = some (.slice A1 n1 c1) := by simp [go_sem]
  have hct : (((w3.alloc (.cells #[.int .i64 0] 3)).alloc (.cells #[.slice A1 n1 c1] 24)).alloc (.cells #[.int .i64 t] 3)).cell? ⟨w3.heap.size + 1 + 1, 0, none⟩ = some (.int .i64 t) := by simp [go_sem]
  have hsz : (((w3.alloc (.cells #[.int .i64 0] 3)).alloc (.cells #[.slice A1 n1 c1] 24)).alloc (.cells #[.int .i64 t] 3)).heap.size = w3.heap.size + 3 := by simp
  have HB0 := Lib.hid (show Below w3.heap.size w3 (((w3.alloc (.cells #[.int .i64 0] 3)).alloc (.cells #[.slice A1 n1 c1] 24)).alloc (.cells #[.int .i64 t] 3)) from (((Below.refl _ w3).alloc (Nat.le_refl _) _).alloc (by simp) _).alloc (by simp; omega) _)
  have HBX := Lib.hid (((Boxed.new w3 3 (.int .i64 0)).alloc (.cells #[.slice A1 n1 c1] 24)).alloc (.cells #[.int .i64 t] 3))
  have HI0 := Lib.hid (HI.out.below HB0.out)
  have HAP : Hid (Apt A1 n1 w3.heap.size) := Lib.hid (nps_old HI.out (Nat.le_refl _))
  generalize ((w3.alloc (.cells #[.int .i64 0] 3)).alloc (.cells #[.slice A1 n1 c1] 24)).alloc (.cells #[.int .i64 t] 3) = W0 at *
  refine wpIn_rangeFunc_ownG rfl (by omega) (gf := 32) (lb := #[.pointer (some ⟨w3.heap.size + 1, 0, none⟩), .pointer (some ⟨w3.heap.size + 1 + 1, 0, none⟩)]) rfl trivial (enters_of Try.func32 (by kernel_rfl) rfl)
    (ndue_stops A1 n1 c1 l1 t w3.heap.size (w3.heap.size + 1) (w3.heap.size + 1 + 1) 2 W0 hn1 HS.out.2 HI0.out HAP.out (by omega) (by omega) (by omega) (by omega) hcl hct (by omega))
    (fun h k => h.trans k) (KB.put (Nat.le_refl _)) (Below.refl _ _) (fun _ => rfl)
    (fun pre W => Boxed W w3.heap.size 3 (.int .i64 (pre.length : Nat)) ∧ Below w3.heap.size w3 W ∧ KB w3.heap.size W0.heap.size W0 W)
    (fun _ _ _ => False)
    (OwnFrom.and (Own.from (boxed_own w3.heap.size 3 (fun pre : List Int => .int .i64 (pre.length : Nat))) _) (OwnFrom.and (ownFrom_below (Nat.le_refl _) (by omega)) (ownFrom_kb (Nat.le_refl _))))
    (fun _ _ _ _ _ hs _ _ => hs)
    ⟨HBX.out, HB0.out, KB.refl _ _ _⟩
    (fun x => { tmps := #[.slice A1 n1 c1, .int .i64 d, .int .i64 t, undef, undef, undef, .slice none 0 0, .bool false, .pointer (some ⟨w1.heap.size, 0, none⟩), .pointer (some ⟨w3.heap.size, 0, none⟩), .slice A n c, .slice A1 n1 c1, .int .i64 d, .int .i64 t, .agg #[.int .i64 d, .int .i64 t], .agg #[.int .i64 d, .int .i64 t], .bool true, .bool false, .bool false, .slice A1 n1 c1, .int .i64 d, .int .i64 (-1), .bool false, .bool false, undef, .slice A1 n1 c1, .int .i64 t, .func (.func 32) #[] #[.pointer (some ⟨w3.heap.size + 1, 0, none⟩), .pointer (some ⟨w3.heap.size + 1 + 1, 0, none⟩)], .int .i64 x, undef, undef, undef, undef, undef, undef, undef, undef, undef, undef, undef, undef], defers := [] }) ?assign ?body ?done ?stop
  case assign =>
    intro l x W K hK
    gi_wp2
    exact hK
  case body =>
    rintro lp pre x W ⟨hv, hB, hKB⟩ hlt
    clear HK9
    have hc := hv.cell
    have hf := hv.frozen
    have hw : IntKind.i64.wrap ((pre.length : Nat) + 1 : Int) = ((pre.length + 1 : Nat) : Int) := by rw [IntKind.wrap_i64]; omega
    gi_wp2
    exact ⟨(KeepsOthers.setCell _ _ _).from _, KB.set _ _ _, by have := hv.set (.int .i64 ((pre.length + 1 : Nat) : Int)); simpa using this, hB.setCell (Nat.le_refl _) _, hKB.trans (KB.set _ _ _)⟩
  case done =>
    rintro D ys W hD rfl ⟨hv, hB, hKB⟩ hK
    have hlt1 : w3.heap.size < W.heap.size := hv.lt
    have hlD : D < W.heap.size := (Array.getElem?_eq_some_iff.1 hK).1
    obtain ⟨m, hm⟩ : ∃ m, m = (niL (upL l1 t)).length := ⟨_, rfl⟩
    rw [← hm] at hv
    have hmu : m = (upL l1 t).length := by rw [hm]; unfold niL; simp
    have hmn : m ≤ n1 := by rw [hmu, ← HI.out.len]; exact up_le _ _
    have HV := Lib.hid hv
    have HBW := Lib.hid (below_then HB.out hB)
    have HX := Lib.hid (HX.out.keep hB)
    have HKD := Lib.hid hK
    have HMU := Lib.hid hmu
    have h1 := (HI.out.below hB).head ntT m hmn
    have s1 := h1.1
    have HA := Lib.hid h1.2
    obtain ⟨A2, c2, s2, h2⟩ := (HI.out.below hB).tail ntT m hmn
    have HC := Lib.hid h2
    clear h1 h2 hm hmu hv hB hK hKB hcl hct hsz
    refine HK9.out _ _ (wpIn_wide.2 (wp_ret ?_))
    clear HK9
    dsimp only
    go_upto_region 8 with (fail)
    have hHeld0 : (fun w9 => Below W.heap.size W w9 ∧ w9.cell? ⟨w3.heap.size, 0, none⟩ = some (.int .i64 (m : Int)) ∧ w9.cell? ⟨w1.heap.size, 0, none⟩ = some (.int .i64 d) ∧ w9.cell? ⟨w1.heap.size, 1, none⟩ = some (.int .i64 t)) W.drew := skV HV.out HX.out (Below.refl _ _).drew
    refine wp_region_held_drew (S := fun w9 => Below W.heap.size W w9 ∧ w9.cell? ⟨w3.heap.size, 0, none⟩ = some (.int .i64 (m : Int)) ∧ w9.cell? ⟨w1.heap.size, 0, none⟩ = some (.int .i64 d) ∧ w9.cell? ⟨w1.heap.size, 1, none⟩ = some (.int .i64 t)) (by kernel_rfl) hHeld0 (fun hHeld => ?_)
    clear hHeld0
    refine wpAnyH_take (i := 0) (oi := { dst := some 31, op := Op.move (Operand.tmp 0), type := 24, pos := "timer.go:44", after := #[], guard := none }) (v := ?_) rfl (by kernel_rfl) (by kernel_rfl) (by kernel_rfl) (fun _ _ _ h => h) (Or.inl ⟨by kernel_rfl, ?_⟩) hHeld ?_
    rotate_left
    · intro w9 hSw; (try dsimp only at hSw); go_simp; try with_reducible rfl
    simp only [Act.put, List.setIfInBounds_toArray, List.set_cons_zero, List.set_cons_succ]
    refine wpAnyH_take (i := 1) (oi := { dst := some 32, op := Op.load 3 (Operand.tmp 9), type := 3, pos := "timer.go:44", after := #[], guard := none }) (v := ?_) rfl (by kernel_rfl) (by kernel_rfl) (by kernel_rfl) (fun _ _ _ h => h) (Or.inl ⟨by kernel_rfl, ?_⟩) hHeld ?_
    rotate_left
    · intro w9 hSw; (try dsimp only at hSw); go_simp; try with_reducible rfl
    simp only [Act.put, List.setIfInBounds_toArray, List.set_cons_zero, List.set_cons_succ]
    refine wpAnyH_take (i := 2) (oi := { dst := some 33, op := Op.slice 24 (Operand.tmp 31) none (some (Operand.tmp 32)) none, type := 24, pos := "timer.go:44", after := #[{ on := 0, ground := Ground.data }, { on := 1, ground := Ground.data }], guard := none }) (v := ?_) rfl (by kernel_rfl) (by kernel_rfl) (by kernel_rfl) (fun _ _ _ h => h) (Or.inl ⟨by kernel_rfl, ?_⟩) hHeld ?_
    rotate_left
    · intro w9 hSw; (try dsimp only at hSw); go_simp; try with_reducible rfl
    simp only [Act.put, List.setIfInBounds_toArray, List.set_cons_zero, List.set_cons_succ]
    refine wpAnyH_take (i := 3) (oi := { dst := some 34, op := Op.load 49 (Operand.tmp 8), type := 49, pos := "timer.go:44", after := #[], guard := none }) (v := ?_) rfl (by kernel_rfl) (by kernel_rfl) (by kernel_rfl) (fun _ _ _ h => h) (Or.inl ⟨by kernel_rfl, ?_⟩) hHeld ?_
    rotate_left
    · intro w9 hSw; (try dsimp only at hSw); go_simp; try with_reducible rfl
    simp only [Act.put, List.setIfInBounds_toArray, List.set_cons_zero, List.set_cons_succ]
    refine wpAnyH_take (i := 5) (oi := { dst := some 36, op := Op.move (Operand.tmp 0), type := 24, pos := "timer.go:44", after := #[], guard := none }) (v := ?_) rfl (by kernel_rfl) (by kernel_rfl) (by kernel_rfl) (fun _ _ _ h => h) (Or.inl ⟨by kernel_rfl, ?_⟩) hHeld ?_
    rotate_left
    · intro w9 hSw; (try dsimp only at hSw); go_simp; try with_reducible rfl
    simp only [Act.put, List.setIfInBounds_toArray, List.set_cons_zero, List.set_cons_succ]
    refine wpAnyH_take (i := 6) (oi := { dst := some 37, op := Op.load 3 (Operand.tmp 9), type := 3, pos := "timer.go:44", after := #[], guard := none }) (v := ?_) rfl (by kernel_rfl) (by kernel_rfl) (by kernel_rfl) (fun _ _ _ h => h) (Or.inl ⟨by kernel_rfl, ?_⟩) hHeld ?_
    rotate_left
    · intro w9 hSw; (try dsimp only at hSw); go_simp; try with_reducible rfl
    simp only [Act.put, List.setIfInBounds_toArray, List.set_cons_zero, List.set_cons_succ]
    refine wpAnyH_take (i := 7) (oi := { dst := some 38, op := Op.slice 24 (Operand.tmp 36) (some (Operand.tmp 37)) none none, type := 24, pos := "timer.go:44", after := #[{ on := 5, ground := Ground.data }, { on := 6, ground := Ground.data }], guard := none }) (v := ?_) rfl (by kernel_rfl) (by kernel_rfl) (by kernel_rfl) (fun _ _ _ h => h) (Or.inl ⟨by kernel_rfl, ?_⟩) hHeld ?_
    rotate_left
    · intro w9 hSw; (try dsimp only at hSw); go_simp; try with_reducible rfl
    simp only [Act.put, List.setIfInBounds_toArray, List.set_cons_zero, List.set_cons_succ]
    refine wpAnyH_ready (rs := [4]) (by kernel_rfl) (by simp) ?_
    refine AllReadyH.cons (o := { dst := some 35, op := Op.buildSlice 24 1 #[(0, Operand.tmp 34)], type := 24, pos := "timer.go:44", after := #[{ on := 3, ground := Ground.data }], guard := none }) rfl (fun K hK => ?_) AllReadyH.nil
    go_simp
    skip
    refine hK.out _ _ (skV HV.out HX.out ((Below.refl _ W).alloc (Nat.le_refl _) _).drew) (fun hHeld => ?_)
    clear hK K
    try simp only [Act.put, List.setIfInBounds_toArray, List.set_cons_zero, List.set_cons_succ]
    refine wpAnyH_ready (rs := [8]) (by kernel_rfl) (by simp) ?_
    refine AllReadyH.cons (o := { dst := some 39, op := Op.buildSlice 62 3 #[(0, Operand.tmp 33), (1, Operand.tmp 35), (2, Operand.tmp 38)], type := 62, pos := "timer.go:44", after := #[{ on := 2, ground := Ground.data }, { on := 4, ground := Ground.data }, { on := 7, ground := Ground.data }], guard := none }) rfl (fun K hK => ?_) AllReadyH.nil
    go_simp
    skip
    refine hK.out _ _ (skV HV.out HX.out (((Below.refl _ W).alloc (Nat.le_refl _) (.cells #[.int .i64 d, .int .i64 t] 49)).alloc (by simp) (.cells #[.slice A1 m c1, .slice (some ⟨W.heap.size, 0, none⟩) 1 1, .slice A2 (n1 - m) c2] 24)).drew) (fun hHeld => ?_)
    clear hK K
    try simp only [Act.put, List.setIfInBounds_toArray, List.set_cons_zero, List.set_cons_succ]
    refine wpAnyH_ready (rs := [9]) (by kernel_rfl) (by simp) ?_
    refine AllReadyH.cons (o := { dst := some 40, op := Op.call { callee := Callee.value (Operand.func 26), args := #[Operand.tmp 39], argTypes := #[62] }, type := 24, pos := "timer.go:44", after := #[{ on := 8, ground := Ground.data }], guard := none }) rfl (fun K hK => ?_) AllReadyH.nil
    go_simp
    refine (concatN3_is (W.heap.size + 1) A1 m c1 (l1.take m) (some ⟨W.heap.size, 0, none⟩) 1 1 [⟨d, t⟩] A2 (n1 - m) c2 (l1.drop m) (((W.alloc (.cells #[.int .i64 d, .int .i64 t] 49)).alloc (.cells #[.slice A1 m c1, .slice (some ⟨W.heap.size, 0, none⟩) 1 1, .slice A2 (n1 - m) c2] 24)).drew) (new_blockN (W.alloc (.cells #[.int .i64 d, .int .i64 t] 49)) _ _ (by simp)) ((HA.out.alloc _).alloc _).drew ((Nps.new1 W 49 ⟨d, t⟩).alloc _).drew ((HC.out.alloc _).alloc _).drew (by omega)).mono ?_; rintro e w7 ⟨A3, c3, rfl, hi3, hb3⟩; have HB3 := Lib.hid (below_then ((((Below.refl _ W).alloc (Nat.le_refl _) (.cells #[.int .i64 d, .int .i64 t] 49)).alloc (by simp) (.cells #[.slice A1 m c1, .slice (some ⟨W.heap.size, 0, none⟩) 1 1, .slice A2 (n1 - m) c2] 24)).drew) hb3); have HI3 := Lib.hid hi3; clear hb3 hi3
    refine hK.out _ _ (skV HV.out HX.out HB3.out) (fun hHeld => ?_)
    clear hK K
    try simp only [Act.put, List.setIfInBounds_toArray, List.set_cons_zero, List.set_cons_succ]
    refine wpAnyH_take (i := 10) (oi := { dst := some 6, op := Op.assign (Operand.tmp 40), type := 24, pos := "timer.go:44", after := #[{ on := 9, ground := Ground.data }, { on := 9, ground := Ground.chain }, { on := 0, ground := Ground.phase }, { on := 1, ground := Ground.phase }, { on := 2, ground := Ground.phase }, { on := 3, ground := Ground.phase }, { on := 4, ground := Ground.phase }, { on := 5, ground := Ground.phase }, { on := 6, ground := Ground.phase }, { on := 7, ground := Ground.phase }, { on := 8, ground := Ground.phase }, { on := 9, ground := Ground.phase }], guard := none }) (v := ?_) rfl (by kernel_rfl) (by kernel_rfl) (by kernel_rfl) (fun _ _ _ h => h) (Or.inl ⟨by kernel_rfl, ?_⟩) hHeld ?_
    rotate_left
    · intro w9 hSw; (try dsimp only at hSw); go_simp; try with_reducible rfl
    simp only [Act.put, List.setIfInBounds_toArray, List.set_cons_zero, List.set_cons_succ]
    refine wpAnyH_take (i := 11) (oi := { dst := some 7, op := Op.assign (Operand.const (Value.bool true)), type := 4, pos := "timer.go:44", after := #[{ on := 10, ground := Ground.chain }, { on := 0, ground := Ground.phase }, { on := 1, ground := Ground.phase }, { on := 2, ground := Ground.phase }, { on := 3, ground := Ground.phase }, { on := 4, ground := Ground.phase }, { on := 5, ground := Ground.phase }, { on := 6, ground := Ground.phase }, { on := 7, ground := Ground.phase }, { on := 8, ground := Ground.phase }, { on := 9, ground := Ground.phase }, { on := 10, ground := Ground.phase }], guard := none }) (v := ?_) rfl (by kernel_rfl) (by kernel_rfl) (by kernel_rfl) (fun _ _ _ h => h) (Or.inl ⟨by kernel_rfl, ?_⟩) hHeld ?_
    rotate_left
    · intro w9 hSw; (try dsimp only at hSw); go_simp; try with_reducible rfl
    simp only [Act.put, List.setIfInBounds_toArray, List.set_cons_zero, List.set_cons_succ]
    refine wpAnyH_done (by kernel_rfl) ?_ _
    go_wp2
    have hD3 : w7.heap[D]? = some (.deferred (some [])) := (HB3.out.block D hlD).trans HKD.out
    show bodyPostM Fence.wide 3 Try.prog Try.f8 _ Exit.ret _ _
    refine ⟨by simp, .inl ⟨_, _, rfl, run_takeDeferred hD3, ?_⟩⟩
    refine ⟨_, results_tmp2 rfl _ _ _, A3, _, c3, by rw [HP.out]; rfl, (HI3.out.as ?_).put _ hD3, ?_⟩
    · unfold pnL
      rw [HP.out, if_pos rfl, HMU.out, up_take HS.out.2, ov_drop HS.out.2]
      rfl
    · exact below_put (below_then HBW.out HB3.out) (by have h1 := HB.out.size; have h2 := HB0.out.size; omega) hD3
  case stop =>
    rintro D c pre W _ _ h _
    exact h.elim
theorem tput_any (A : Option Addr) (n c : Nat) (l : List Np) (d t : Int) (w : World) (hn : n ≤ 4611686018427387904) (h : Nps w A n c l) :
    Calls Try.prog 8 #[.slice A n c, .int .i64 d, .int .i64 t] w (NBPost (pnL (tnL l) d t) (pnB (tnL l) d t) w) := by
  cases hp : pnB (tnL l) d t
  · have := tput_no A n c l _ d t w hn h rfl hp
    rwa [hp] at this
  · have := callsIn_wide.1 (tput_in A n c l _ d t w hn h rfl hp)
    rwa [hp] at this
end Go.Proofs.Ytpkfmbknbdlnpaa
