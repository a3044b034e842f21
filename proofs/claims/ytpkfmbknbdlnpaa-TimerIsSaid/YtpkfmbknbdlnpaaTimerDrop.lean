/-
  What package timer answers of Next and Drop.
-/
import Derived.Test.YtpkfmbknbdlnpaaTimerSane
import Derived.Test.YtpkfmbknbdlnpaaTimerConcat
import Derived.Test.YtpkfmbknbdlnpaaTimerRefB
namespace Go.Proofs.Ytpkfmbknbdlnpaa
open Go.RowKit

theorem concatN2_is (g : Nat) (A : Option Addr) (k c : Nat) (l : List Np) (B : Option Addr) (m d : Nat) (l' : List Np) (V : World) (hg : V.heap[g]? = some (.cells #[.slice A k c, .slice B m d] 24 (0, 0))) (h : Nps V A k c l) (h' : Nps V B m d l') (hk : k + m ≤ 1000) :
    Calls Try.prog 26 #[.slice (some ⟨g, 0, none⟩) 2 2] V fun e w' => ∃ A' c', e = .returned (.slice A' (k + m) c') ∧ Nps w' A' (k + m) c' (l ++ l') ∧ Below V.heap.size V w' := by
  refine (concatN_any g [⟨A, k, c, l⟩, ⟨B, m, d, l'⟩] 2 _ rfl hg ?_ (by simp [tot]; omega) (by omega)).mono ?_
  · intro j hj
    match j, hj with
    | 0, _ => exact h
    | 1, _ => exact h'
  · rintro x w' ⟨A', c', rfl, ho⟩
    have e1 : tot [⟨A, k, c, l⟩, ⟨B, m, d, l'⟩] = k + m := by simp [tot]
    have e2 : allL [⟨A, k, c, l⟩, ⟨B, m, d, l'⟩] = l ++ l' := by simp [allL]
    rw [e1, e2] at ho
    exact ⟨A', c', by rw [e1], ho.nps, ho.below⟩
theorem concatN3_is (g : Nat) (A : Option Addr) (k c : Nat) (l : List Np) (B : Option Addr) (m d : Nat) (l' : List Np) (C : Option Addr) (q f : Nat) (l3 : List Np) (V : World) (hg : V.heap[g]? = some (.cells #[.slice A k c, .slice B m d, .slice C q f] 24 (0, 0))) (h : Nps V A k c l) (h' : Nps V B m d l') (h3 : Nps V C q f l3) (hk : k + m + q ≤ 1000) :
    Calls Try.prog 26 #[.slice (some ⟨g, 0, none⟩) 3 3] V fun e w' => ∃ A' c', e = .returned (.slice A' (k + m + q) c') ∧ Nps w' A' (k + m + q) c' (l ++ (l' ++ l3)) ∧ Below V.heap.size V w' := by
  refine (concatN_any g [⟨A, k, c, l⟩, ⟨B, m, d, l'⟩, ⟨C, q, f, l3⟩] 3 _ rfl hg ?_ (by simp [tot]; omega) (by omega)).mono ?_
  · intro j hj
    match j, hj with
    | 0, _ => exact h
    | 1, _ => exact h'
    | 2, _ => exact h3
  · rintro x w' ⟨A', c', rfl, ho⟩
    have e1 : tot [⟨A, k, c, l⟩, ⟨B, m, d, l'⟩, ⟨C, q, f, l3⟩] = k + m + q := by simp [tot]; omega
    have e2 : allL [⟨A, k, c, l⟩, ⟨B, m, d, l'⟩, ⟨C, q, f, l3⟩] = l ++ (l' ++ l3) := by simp [allL]
    rw [e1, e2] at ho
    exact ⟨A', c', by rw [e1], ho.nps, ho.below⟩
theorem new_blockN (w : World) (o : Obj) (g : Nat) (hg : w.heap.size = g) : (w.alloc o).heap[g]? = some o := by
  subst hg
  show (w.heap.push _)[w.heap.size]? = _
  rw [Array.getElem?_push, if_pos rfl]
set_option maxHeartbeats 1000000 in
theorem tnext_any (A : Option Addr) (n c : Nat) (l : List Np) (w : World) (hn : n ≤ 4611686018427387904) (h : Nps w A n c l) :
    Calls Try.prog 15 #[.slice A n c] w fun e w' => e = .returned (.tuple #[.int .i64 (neI (tnL l)), .bool (neB (tnL l))]) ∧ Below w.heap.size w w' := by
  have hsn := sn_tn l
  obtain ⟨l1, hl1⟩ : ∃ x, tnL l = x := ⟨_, rfl⟩
  rw [hl1] at hsn ⊢
  have HL1 := Lib.hid hl1
  have HS := Lib.hid hsn
  have H := Lib.hid h
  clear hl1 hsn h
  rcases Nat.eq_zero_or_pos l1.length with h0 | h0
  · have HQ : Hid (l1 = []) := Lib.hid (List.eq_nil_of_length_eq_zero h0)
    have H0 := Lib.hid h0
    clear h0
    go_enter Try.func15, Try.ntmps15
    go_wp2_with (go_at_call 22; refine (ntaken_any A n c l l1 _ hn H.out HL1.out).mono ?_; rintro e w1 ⟨A1, n1, c1, rfl, hi, hb, _⟩; have HI := Lib.hid hi; have HB := Lib.hid hb; have hn1 : n1 ≤ 8 := (by rw [← hi.len]; exact HS.out.1); clear hi hb; obtain rfl : n1 = 0 := (by rw [← HI.out.len]; exact H0.out))
    go_ret2
    exact ⟨by rw [HQ.out]; rfl, HB.out⟩
  · have HQ : Hid (l1 ≠ []) := Lib.hid (by rintro rfl; simp at h0)
    have H0 := Lib.hid h0
    clear h0
    go_enter Try.func15, Try.ntmps15
    go_wp2_with (go_at_call 22; refine (ntaken_any A n c l l1 _ hn H.out HL1.out).mono ?_; rintro e w1 ⟨A1, n1, c1, rfl, hi, hb, _⟩; have HI := Lib.hid hi; have HB := Lib.hid hb; have hn1 : n1 ≤ 8 := (by rw [← hi.len]; exact HS.out.1); clear hi hb; have hp : 0 < n1 := (by rw [← HI.out.len]; exact H0.out); have hne : ((n1 : Int) == 0) = false := (by simp; omega); have hlt : (0 : Int) < (n1 : Int) := (by omega); obtain ⟨xb, xo, rfl, hbl, f0, f1⟩ := HI.out.at_ 0 hp; rw [Nat.zero_mul, Nat.add_zero] at f0 f1)
    go_ret2
    exact ⟨by unfold neI neB; rw [if_neg HQ.out, List.isEmpty_eq_false_iff.2 HQ.out]; rfl, HB.out⟩
set_option maxHeartbeats 2000000 in
theorem tdrop_any (A : Option Addr) (n c : Nat) (l : List Np) (d : Int) (w : World) (hn : n ≤ 4611686018427387904) (h : Nps w A n c l) :
    Calls Try.prog 13 #[.slice A n c, .int .i64 d] w (NBPost (dpL (tnL l) d) (dpB (tnL l) d) w) := by
  have hsn := sn_tn l
  obtain ⟨l1, hl1⟩ : ∃ x, tnL l = x := ⟨_, rfl⟩
  rw [hl1] at hsn ⊢
  have HL1 := Lib.hid hl1
  have HS := Lib.hid hsn
  have H := Lib.hid h
  clear hl1 hsn h
  cases hv : hsB l1 d
  · have HV := Lib.hid hv
    have HE := Lib.hid (nf_no_hs hv)
    clear hv
    go_enter Try.func13, Try.ntmps13
    go_wp2_with (first | (go_at_call 22; refine (ntaken_any A n c l l1 _ hn H.out HL1.out).mono ?_; rintro e w1 ⟨A1, n1, c1, rfl, hi, hb, _⟩; have HI := Lib.hid hi; have HB := Lib.hid hb; have hn1 : n1 ≤ 8 := (by rw [← hi.len]; exact HS.out.1); clear hi hb) | (go_at_call 24; refine (nplace_is A1 n1 c1 l1 d _ _ (by omega) HI.out HE.out).mono ?_; rintro e w2 ⟨rfl, hb⟩; have HI := Lib.hid (HI.out.below hb); have HB := Lib.hid (below_then HB.out hb); clear hb))
    go_ret2
    exact ⟨A1, n1, c1, by unfold dpB; rw [HV.out]; rfl, by rw [dp_nohs HV.out]; exact HI.out, HB.out⟩
  · have HV := Lib.hid hv
    obtain ⟨k, hk, he, hek⟩ := nf_yes_hs hv
    have HE := Lib.hid he
    have HEK := Lib.hid hek
    have hk0 : ¬ (k : Int) < 0 := by omega
    clear hv he hek
    obtain ⟨m, hm⟩ : ∃ m, m = k + 1 := ⟨_, rfl⟩
    have hk8 : k < 8 := by have := HS.out.1; omega
    have hw : IntKind.i64.wrap ((k : Int) + 1) = (m : Int) := by rw [IntKind.wrap_i64]; omega
    have HM := Lib.hid hm
    go_enter Try.func13, Try.ntmps13
    go_upto_region 5 with (first | (go_at_call 22; refine (ntaken_any A n c l l1 _ hn H.out HL1.out).mono ?_; rintro e w1 ⟨A1, n1, c1, rfl, hi, hb, _⟩; have HI := Lib.hid hi; have HB := Lib.hid hb; have hn1 : n1 ≤ 8 := (by rw [← hi.len]; exact HS.out.1); clear hi hb) | (go_at_call 24; refine (nplace_is A1 n1 c1 l1 d _ _ (by omega) HI.out HE.out).mono ?_; rintro e w2 ⟨rfl, hb⟩; have HI := Lib.hid (HI.out.below hb); have HB := Lib.hid (below_then HB.out hb); clear hb))
    generalize w2 = W at *
    have HLN := Lib.hid HI.out.len
    have hkn : k < n1 := by rw [← HLN.out]; exact hk
    have h1 := HI.out.head ntT k (by omega)
    have s1 := h1.1
    have HA := Lib.hid h1.2
    obtain ⟨A2, c2, s2, h2⟩ := HI.out.tail ntT m (by omega)
    have HC := Lib.hid h2
    clear h1 h2 hm
    have hHeld0 : (fun w9 => Below w.heap.size w w9) W.drew := HB.out.drew
    refine wp_region_held_drew (S := fun w9 => Below w.heap.size w w9) (by kernel_rfl) hHeld0 (fun hHeld => ?_)
    clear hHeld0
    refine wpAnyH_take (i := 0) (oi := { dst := some 15, op := Op.move (Operand.tmp 0), type := 24, pos := "timer.go:65", after := #[], guard := none }) (v := ?_) rfl (by kernel_rfl) (by kernel_rfl) (by kernel_rfl) (fun _ _ _ h => h) (Or.inl ⟨by kernel_rfl, ?_⟩) hHeld ?_
    rotate_left
    · intro w9 hSw; (try dsimp only at hSw); go_simp; try with_reducible rfl
    simp only [Act.put, List.setIfInBounds_toArray, List.set_cons_zero, List.set_cons_succ]
    refine wpAnyH_take (i := 1) (oi := { dst := some 16, op := Op.move (Operand.tmp 6), type := 3, pos := "timer.go:65", after := #[], guard := none }) (v := ?_) rfl (by kernel_rfl) (by kernel_rfl) (by kernel_rfl) (fun _ _ _ h => h) (Or.inl ⟨by kernel_rfl, ?_⟩) hHeld ?_
    rotate_left
    · intro w9 hSw; (try dsimp only at hSw); go_simp; try with_reducible rfl
    simp only [Act.put, List.setIfInBounds_toArray, List.set_cons_zero, List.set_cons_succ]
    refine wpAnyH_take (i := 2) (oi := { dst := some 17, op := Op.slice 24 (Operand.tmp 15) none (some (Operand.tmp 16)) none, type := 24, pos := "timer.go:65", after := #[{ on := 0, ground := Ground.data }, { on := 1, ground := Ground.data }], guard := none }) (v := ?_) rfl (by kernel_rfl) (by kernel_rfl) (by kernel_rfl) (fun _ _ _ h => h) (Or.inl ⟨by kernel_rfl, ?_⟩) hHeld ?_
    rotate_left
    · intro w9 hSw; (try dsimp only at hSw); go_simp; try with_reducible rfl
    simp only [Act.put, List.setIfInBounds_toArray, List.set_cons_zero, List.set_cons_succ]
    refine wpAnyH_take (i := 3) (oi := { dst := some 18, op := Op.move (Operand.tmp 0), type := 24, pos := "timer.go:65", after := #[], guard := none }) (v := ?_) rfl (by kernel_rfl) (by kernel_rfl) (by kernel_rfl) (fun _ _ _ h => h) (Or.inl ⟨by kernel_rfl, ?_⟩) hHeld ?_
    rotate_left
    · intro w9 hSw; (try dsimp only at hSw); go_simp; try with_reducible rfl
    simp only [Act.put, List.setIfInBounds_toArray, List.set_cons_zero, List.set_cons_succ]
    refine wpAnyH_take (i := 4) (oi := { dst := some 19, op := Op.move (Operand.tmp 6), type := 3, pos := "timer.go:65", after := #[], guard := none }) (v := ?_) rfl (by kernel_rfl) (by kernel_rfl) (by kernel_rfl) (fun _ _ _ h => h) (Or.inl ⟨by kernel_rfl, ?_⟩) hHeld ?_
    rotate_left
    · intro w9 hSw; (try dsimp only at hSw); go_simp; try with_reducible rfl
    simp only [Act.put, List.setIfInBounds_toArray, List.set_cons_zero, List.set_cons_succ]
    refine wpAnyH_take (i := 5) (oi := { dst := some 20, op := Op.binOp BinOp.add 3 (Operand.tmp 19) (Operand.const (Value.int IntKind.i64 1)) 3, type := 3, pos := "timer.go:65", after := #[{ on := 4, ground := Ground.data }], guard := none }) (v := ?_) rfl (by kernel_rfl) (by kernel_rfl) (by kernel_rfl) (fun _ _ _ h => h) (Or.inl ⟨by kernel_rfl, ?_⟩) hHeld ?_
    rotate_left
    · intro w9 hSw; (try dsimp only at hSw); go_simp; try with_reducible rfl
    simp only [Act.put, List.setIfInBounds_toArray, List.set_cons_zero, List.set_cons_succ]
    refine wpAnyH_take (i := 6) (oi := { dst := some 21, op := Op.slice 24 (Operand.tmp 18) (some (Operand.tmp 20)) none none, type := 24, pos := "timer.go:65", after := #[{ on := 3, ground := Ground.data }, { on := 5, ground := Ground.data }], guard := none }) (v := ?_) rfl (by kernel_rfl) (by kernel_rfl) (by kernel_rfl) (fun _ _ _ h => h) (Or.inl ⟨by kernel_rfl, ?_⟩) hHeld ?_
    rotate_left
    · intro w9 hSw; (try dsimp only at hSw); go_simp; try with_reducible rfl
    simp only [Act.put, List.setIfInBounds_toArray, List.set_cons_zero, List.set_cons_succ]
    refine wpAnyH_ready (rs := [7]) (by kernel_rfl) (by simp) ?_
    refine AllReadyH.cons (o := { dst := some 22, op := Op.buildSlice 62 2 #[(0, Operand.tmp 17), (1, Operand.tmp 21)], type := 62, pos := "timer.go:65", after := #[{ on := 2, ground := Ground.data }, { on := 6, ground := Ground.data }], guard := none }) rfl (fun K hK => ?_) AllReadyH.nil
    go_simp
    skip
    refine hK.out _ _ ((HB.out.alloc HB.out.size _).drew) (fun hHeld => ?_)
    clear hK K
    try simp only [Act.put, List.setIfInBounds_toArray, List.set_cons_zero, List.set_cons_succ]
    refine wpAnyH_ready (rs := [8]) (by kernel_rfl) (by simp) ?_
    refine AllReadyH.cons (o := { dst := some 23, op := Op.call { callee := Callee.value (Operand.func 26), args := #[Operand.tmp 22], argTypes := #[62] }, type := 24, pos := "timer.go:65", after := #[{ on := 7, ground := Ground.data }], guard := none }) rfl (fun K hK => ?_) AllReadyH.nil
    go_simp
    refine (concatN2_is W.heap.size A1 k c1 (l1.take k) A2 (n1 - m) c2 (l1.drop m) (W.alloc (.cells #[.slice A1 k c1, .slice A2 (n1 - m) c2] 24)).drew (new_blockN W _ _ rfl) (HA.out.alloc _).drew (HC.out.alloc _).drew (by have := HM.out; omega)).mono ?_; rintro e w3 ⟨A3, c3, rfl, hi3, hb3⟩; have HB3 := Lib.hid (below_then ((HB.out.alloc HB.out.size _).drew) hb3); have HI3 := Lib.hid hi3; clear hb3 hi3
    refine hK.out _ _ (HB3.out) (fun hHeld => ?_)
    clear hK K
    try simp only [Act.put, List.setIfInBounds_toArray, List.set_cons_zero, List.set_cons_succ]
    refine wpAnyH_take (i := 9) (oi := { dst := some 4, op := Op.assign (Operand.tmp 23), type := 24, pos := "timer.go:65", after := #[{ on := 8, ground := Ground.data }, { on := 8, ground := Ground.chain }, { on := 0, ground := Ground.phase }, { on := 1, ground := Ground.phase }, { on := 2, ground := Ground.phase }, { on := 3, ground := Ground.phase }, { on := 4, ground := Ground.phase }, { on := 5, ground := Ground.phase }, { on := 6, ground := Ground.phase }, { on := 7, ground := Ground.phase }, { on := 8, ground := Ground.phase }], guard := none }) (v := ?_) rfl (by kernel_rfl) (by kernel_rfl) (by kernel_rfl) (fun _ _ _ h => h) (Or.inl ⟨by kernel_rfl, ?_⟩) hHeld ?_
    rotate_left
    · intro w9 hSw; (try dsimp only at hSw); go_simp; try with_reducible rfl
    simp only [Act.put, List.setIfInBounds_toArray, List.set_cons_zero, List.set_cons_succ]
    refine wpAnyH_take (i := 10) (oi := { dst := some 5, op := Op.assign (Operand.const (Value.bool true)), type := 4, pos := "timer.go:65", after := #[{ on := 9, ground := Ground.chain }, { on := 0, ground := Ground.phase }, { on := 1, ground := Ground.phase }, { on := 2, ground := Ground.phase }, { on := 3, ground := Ground.phase }, { on := 4, ground := Ground.phase }, { on := 5, ground := Ground.phase }, { on := 6, ground := Ground.phase }, { on := 7, ground := Ground.phase }, { on := 8, ground := Ground.phase }, { on := 9, ground := Ground.phase }], guard := none }) (v := ?_) rfl (by kernel_rfl) (by kernel_rfl) (by kernel_rfl) (fun _ _ _ h => h) (Or.inl ⟨by kernel_rfl, ?_⟩) hHeld ?_
    rotate_left
    · intro w9 hSw; (try dsimp only at hSw); go_simp; try with_reducible rfl
    simp only [Act.put, List.setIfInBounds_toArray, List.set_cons_zero, List.set_cons_succ]
    refine wpAnyH_done (by kernel_rfl) ?_ _
    go_wp2
    go_ret2
    exact ⟨A3, _, c3, by unfold dpB; rw [HV.out]; rfl, by rw [dp_cut HS.out.2 HV.out, HEK.out, ← HM.out]; exact HI3.out, HB3.out⟩
end Go.Proofs.Ytpkfmbknbdlnpaa
