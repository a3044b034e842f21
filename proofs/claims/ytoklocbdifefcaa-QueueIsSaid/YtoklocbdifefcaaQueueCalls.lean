/-
  What the small calls of package queue answer: stand, ahead, isItem, place, clashes, behind.
-/
import Derived.Test.YtoklocbdifefcaaQueueConcat
import Derived.Test.YtoklocbdifefcaaFloatInts
import Derived.Laws.Cover2
import Derived.Laws.Cover3
import Derived.Deep.RegionHeld3
namespace Go.Proofs.Ytoklocbdifefcaa
open Go.RowKit

/-- The float of a whole number, and how two of them stand to each other. -/
def fI (z : Int) : Nat := FloatKind.f64.nearest z
theorem fI_of (z : Int) : floatOfInt .f64 z = fI z := rfl
def ordI (a b : Int) : Ordering := if a < b then .lt else if a = b then .eq else .gt
theorem ord_fI (a b : Int) (ha : a.natAbs < 2 ^ 53) (hb : b.natAbs < 2 ^ 53) : FloatKind.f64.format.order (fI a) (fI b) = some (ordI a b) := by
  unfold fI ordI
  rw [order_floats a b ha hb]
  rfl
/-- A number that no float rounds. -/
def Fw (z : Int) : Prop := z.natAbs < 2 ^ 53
theorem fw_it {i : It} {n : Int} (h : itB i n = true) (hn : n ≤ 1099511627777) : Fw i.p ∧ Fw i.t := by
  rw [it_iff] at h
  unfold Fw
  omega

set_option maxHeartbeats 400000 in
theorem stand_is (d p t : Int) (w : World) :
    Calls Try.prog 29 #[.agg #[.int .i64 d, .int .i64 p, .int .i64 t]] w fun e w' => e = .returned (.complex .f64 (fI p) (fI t)) ∧ Below w.heap.size w w' := by
  have f := fI_of
  go_enter Try.func29, Try.ntmps29
  go_wp2
  go_ret
  exact ⟨rfl, below_one _ _⟩
set_option maxHeartbeats 400000 in
theorem ahead_raw (x y u v : Nat) (o1 o2 : Ordering) (h1 : FloatKind.f64.format.order x u = some o1) (h2 : FloatKind.f64.format.order y v = some o2) (w : World) :
    Calls Try.prog 36 #[.complex .f64 x y, .complex .f64 u v] w fun e w' => e = .returned (.bool (o1 == .gt || (o1 == .eq && o2 == .lt))) ∧ w' = w := by
  cases o1 <;> cases o2
  all_goals
    go_enter Try.func36, Try.ntmps36
    go_wp2
    go_ret
    exact ⟨rfl, rfl⟩
theorem ord_ah (a b : It) : (ordI a.p b.p == .gt || (ordI a.p b.p == .eq && ordI a.t b.t == .lt)) = ahB a b := by
  unfold ordI
  cases h : ahB a b
  · rw [ah_no] at h
    split
    · rfl
    · split
      · split
        · omega
        · split <;> rfl
      · omega
  · rw [ah_iff] at h
    split
    · omega
    · split
      · split
        · rfl
        · omega
      · rfl
theorem ahead_is (p t p' t' : Int) (r : Bool) (h1 : Fw p) (h2 : Fw t) (h3 : Fw p') (h4 : Fw t') (h : ahB ⟨0, p, t⟩ ⟨0, p', t'⟩ = r) (w : World) :
    Calls Try.prog 36 #[.complex .f64 (fI p) (fI t), .complex .f64 (fI p') (fI t')] w fun e w' => e = .returned (.bool r) ∧ w' = w := by
  rw [← h, ← ord_ah]
  exact ahead_raw _ _ _ _ _ _ (ord_fI _ _ h1 h3) (ord_fI _ _ h2 h4) w
set_option maxHeartbeats 1000000 in
theorem isItem_is (d p t n : Int) (r : Bool) (h : itB ⟨d, p, t⟩ n = r) (w : World) :
    Calls Try.prog 26 #[.agg #[.int .i64 d, .int .i64 p, .int .i64 t], .int .i64 n] w fun e w' => e = .returned (.bool r) ∧ Below w.heap.size w w' := by
  by_cases h1 : 0 ≤ d
  · by_cases h2 : d < 8
    · by_cases h3 : 0 ≤ p
      · by_cases h4 : p ≤ 4
        · by_cases h5 : 0 ≤ t
          · by_cases h6 : t < n
            · obtain rfl : true = r := by rw [← h]; exact (it_iff.2 ⟨h1, h2, h3, h4, h5, h6⟩).symm
              clear h
              go_enter Try.func26, Try.ntmps26
              go_wp2
              go_ret
              exact ⟨rfl, below_one _ _⟩
            · obtain rfl : false = r := by rw [← h]; unfold itB; simp; omega
              clear h
              go_enter Try.func26, Try.ntmps26
              go_wp2
              go_ret
              exact ⟨rfl, below_one _ _⟩
          · obtain rfl : false = r := by rw [← h]; unfold itB; simp; omega
            clear h
            go_enter Try.func26, Try.ntmps26
            go_wp2
            go_ret
            exact ⟨rfl, below_one _ _⟩
        · obtain rfl : false = r := by rw [← h]; unfold itB; simp; omega
          clear h
          go_enter Try.func26, Try.ntmps26
          go_wp2
          go_ret
          exact ⟨rfl, below_one _ _⟩
      · obtain rfl : false = r := by rw [← h]; unfold itB; simp; omega
        clear h
        go_enter Try.func26, Try.ntmps26
        go_wp2
        go_ret
        exact ⟨rfl, below_one _ _⟩
    · obtain rfl : false = r := by rw [← h]; unfold itB; simp; omega
      clear h
      go_enter Try.func26, Try.ntmps26
      go_wp2
      go_ret
      exact ⟨rfl, below_one _ _⟩
  · obtain rfl : false = r := by rw [← h]; unfold itB; simp; omega
    clear h
    go_enter Try.func26, Try.ntmps26
    go_wp2
    go_ret
    exact ⟨rfl, below_one _ _⟩
set_option maxHeartbeats 400000 in
theorem place1_is (d p t d' : Int) (b : Nat) (r : Bool) (h : plP d' ⟨d, p, t⟩ = r) (w : World) (hc : w.cell? ⟨b, 0, none⟩ = some (.int .i64 d')) (hb : b < w.heap.size) :
    Calls Try.prog 38 #[.agg #[.int .i64 d, .int .i64 p, .int .i64 t], .pointer (some ⟨b, 0, none⟩)] w fun e w' => e = .returned (.bool r) ∧ Below w.heap.size w w' := by
  have c0 : (w.alloc (.cells #[.int .i64 d, .int .i64 p, .int .i64 t] 59)).cell? ⟨b, 0, none⟩ = some (.int .i64 d') := ((below_one w _).cell (p := ⟨b, 0, none⟩) hb).trans hc
  have hr : (d == d') = r := h
  go_enter Try.func38, Try.ntmps38
  go_wp2
  go_ret
  exact ⟨rfl, below_one _ _⟩
set_option maxHeartbeats 400000 in
theorem clashes1_is (d p t : Int) (x : It) (b : Nat) (T : TypeId) (r : Bool) (h : clP x ⟨d, p, t⟩ = r) (w : World) (hx : Iv w b T x) :
    Calls Try.prog 41 #[.agg #[.int .i64 d, .int .i64 p, .int .i64 t], .pointer (some ⟨b, 0, none⟩)] w fun e w' => e = .returned (.bool r) ∧ Below w.heap.size w w' := by
  have X := hx.alloc (.cells #[.int .i64 d, .int .i64 p, .int .i64 t] 59)
  have c0 := X.c0
  have c2 := X.c2
  have hr : (d == x.d || t == x.t) = r := h
  clear h X
  cases h1 : (d == x.d)
  · cases h2 : (t == x.t)
    · obtain rfl : false = r := by rw [← hr, h1, h2]; rfl
      clear hr
      go_enter Try.func41, Try.ntmps41
      go_wp2
      go_ret
      exact ⟨rfl, below_one _ _⟩
    · obtain rfl : true = r := by rw [← hr, h1, h2]; rfl
      clear hr
      go_enter Try.func41, Try.ntmps41
      go_wp2
      go_ret
      exact ⟨rfl, below_one _ _⟩
  · obtain rfl : true = r := by rw [← hr, h1]; rfl
    clear hr
    go_enter Try.func41, Try.ntmps41
    go_wp2
    go_ret
    exact ⟨rfl, below_one _ _⟩
set_option maxHeartbeats 1000000 in
theorem indexP_any (A : Option Addr) (n c : Nat) (l : List It) (d' : Int) (b : Nat) (r : Int) (w : World) (hc : w.cell? ⟨b, 0, none⟩ = some (.int .i64 d')) (hb : b < w.heap.size) (hn : n ≤ 100000) (h : Its w A n c l) (hr : fiI (plP d') l = r) :
    Calls Try.prog 37 #[.slice A n c, .func (.func 38) #[] #[.pointer (some ⟨b, 0, none⟩)]] w fun e w' => e = .returned (.int .i64 r) ∧ Below w.heap.size w w' := by
  have H := Lib.hid h
  have HL := Lib.hid h.len
  have HR := Lib.hid hr
  have HC := Lib.hid hc
  clear hc
  clear h hr
  go_enter Try.func37, Try.ntmps37
  go_wp2
  go_loopw [8] (fun i wr => ∃ j : Nat, j ≤ n ∧ i = .int .i64 j ∧ (∀ q, q < j → (plP d') (l.getD q i0) = false) ∧ Below w.heap.size w wr) (fun i _ => ((n : Int) - intOf i).toNat)
  case atStart => exact ⟨0, by omega, rfl, fun q hq => absurd hq (by omega), Below.refl _ _⟩
  case round =>
    obtain ⟨j, hj, rfl, hp, hb⟩ := hrel
    have HP := Lib.hid hp
    have HV := Lib.hid hb
    clear hp hb
    by_cases hlt : j < n
    · obtain ⟨xb, xo, rfl, hbl, f0, f1, f2⟩ := (H.out.below HV.out).at_ j hlt
      obtain ⟨v, hv⟩ : ∃ v, (plP d') (l.getD j i0) = v := ⟨_, rfl⟩
      have HQ := Lib.hid hv
      have HQ2 := Lib.hid hv
      clear hv
      generalize l.getD j i0 = e at HQ f0 f1 f2
      obtain ⟨d, p, t⟩ := e
      simp only at f0 f1 f2
      cases v
      · go_wp2_with (go_at_call 38; refine (place1_is d p t d' b _ HQ.out _ (((HV.out).cell (p := ⟨b, 0, none⟩) hb).trans HC.out) (Nat.lt_of_lt_of_le hb HV.out.size)).mono ?_; rintro e w1 ⟨rfl, hb1⟩; have HB := Lib.hid (below_then HV.out hb1); clear hb1)
        go_roundw
        case rel => exact ⟨j + 1, by omega, by go_num, fun q hq => by
          rcases Nat.lt_succ_iff_lt_or_eq.1 hq with g | rfl
          · exact HP.out q g
          · exact HQ2.out, HB.out⟩
        case measure => simp [intOf]; omega
      · go_wp2_with (go_at_call 38; refine (place1_is d p t d' b _ HQ.out _ (((HV.out).cell (p := ⟨b, 0, none⟩) hb).trans HC.out) (Nat.lt_of_lt_of_le hb HV.out.size)).mono ?_; rintro e w1 ⟨rfl, hb1⟩; have HB := Lib.hid (below_then HV.out hb1); clear hb1)
        go_ret
        exact ⟨by rw [← HR.out, fi_yes (by rw [HL.out]; exact hlt) HP.out HQ2.out]; rfl, HB.out⟩
    · obtain rfl : j = n := by omega
      go_wp2
      go_ret
      exact ⟨by rw [← HR.out, fi_none (fun q hq => HP.out q (by rw [HL.out] at hq; exact hq))]; rfl, HV.out⟩
set_option maxHeartbeats 1000000 in
theorem indexC_any (A : Option Addr) (n c : Nat) (l : List It) (x : It) (b : Nat) (T : TypeId) (r : Int) (w : World) (hx : Iv w b T x) (hn : n ≤ 100000) (h : Its w A n c l) (hr : fiI (clP x) l = r) :
    Calls Try.prog 37 #[.slice A n c, .func (.func 41) #[] #[.pointer (some ⟨b, 0, none⟩)]] w fun e w' => e = .returned (.int .i64 r) ∧ Below w.heap.size w w' := by
  have H := Lib.hid h
  have HL := Lib.hid h.len
  have HR := Lib.hid hr
  have HX := Lib.hid hx
  clear hx
  clear h hr
  go_enter Try.func37, Try.ntmps37
  go_wp2
  go_loopw [8] (fun i wr => ∃ j : Nat, j ≤ n ∧ i = .int .i64 j ∧ (∀ q, q < j → (clP x) (l.getD q i0) = false) ∧ Below w.heap.size w wr) (fun i _ => ((n : Int) - intOf i).toNat)
  case atStart => exact ⟨0, by omega, rfl, fun q hq => absurd hq (by omega), Below.refl _ _⟩
  case round =>
    obtain ⟨j, hj, rfl, hp, hb⟩ := hrel
    have HP := Lib.hid hp
    have HV := Lib.hid hb
    clear hp hb
    by_cases hlt : j < n
    · obtain ⟨xb, xo, rfl, hbl, f0, f1, f2⟩ := (H.out.below HV.out).at_ j hlt
      obtain ⟨v, hv⟩ : ∃ v, (clP x) (l.getD j i0) = v := ⟨_, rfl⟩
      have HQ := Lib.hid hv
      have HQ2 := Lib.hid hv
      clear hv
      generalize l.getD j i0 = e at HQ f0 f1 f2
      obtain ⟨d, p, t⟩ := e
      simp only at f0 f1 f2
      cases v
      · go_wp2_with (go_at_call 41; refine (clashes1_is d p t x b T _ HQ.out _ (HX.out.keep HV.out)).mono ?_; rintro e w1 ⟨rfl, hb1⟩; have HB := Lib.hid (below_then HV.out hb1); clear hb1)
        go_roundw
        case rel => exact ⟨j + 1, by omega, by go_num, fun q hq => by
          rcases Nat.lt_succ_iff_lt_or_eq.1 hq with g | rfl
          · exact HP.out q g
          · exact HQ2.out, HB.out⟩
        case measure => simp [intOf]; omega
      · go_wp2_with (go_at_call 41; refine (clashes1_is d p t x b T _ HQ.out _ (HX.out.keep HV.out)).mono ?_; rintro e w1 ⟨rfl, hb1⟩; have HB := Lib.hid (below_then HV.out hb1); clear hb1)
        go_ret
        exact ⟨by rw [← HR.out, fi_yes (by rw [HL.out]; exact hlt) HP.out HQ2.out]; rfl, HB.out⟩
    · obtain rfl : j = n := by omega
      go_wp2
      go_ret
      exact ⟨by rw [← HR.out, fi_none (fun q hq => HP.out q (by rw [HL.out] at hq; exact hq))]; rfl, HV.out⟩

set_option maxHeartbeats 400000 in
theorem containsC_any (A : Option Addr) (n c : Nat) (l : List It) (x : It) (b : Nat) (T : TypeId) (r : Bool) (w : World) (hx : Iv w b T x) (hn : n ≤ 100000) (h : Its w A n c l) (hr : clB l x = r) :
    Calls Try.prog 40 #[.slice A n c, .func (.func 41) #[] #[.pointer (some ⟨b, 0, none⟩)]] w fun e w' => e = .returned (.bool r) ∧ Below w.heap.size w w' := by
  rw [cl_fi] at hr
  obtain ⟨z, hz⟩ : ∃ z, fiI (clP x) l = z := ⟨_, rfl⟩
  rw [hz] at hr
  have HZ := Lib.hid hz
  have HX := Lib.hid hx
  have H := Lib.hid h
  clear hz hx h
  go_enter Try.func40, Try.ntmps40
  go_wp2_with (go_at_call 37; refine (indexC_any A n c l x b T z _ HX.out hn H.out HZ.out).mono ?_; rintro e w1 ⟨rfl, hb1⟩; have HB := Lib.hid hb1; clear hb1)
  go_ret
  exact ⟨by rw [← hr]; rfl, HB.out⟩
set_option maxHeartbeats 400000 in
theorem clashes_is (A : Option Addr) (n c : Nat) (l : List It) (d p t : Int) (r : Bool) (w : World) (hn : n ≤ 100000) (h : Its w A n c l) (hr : clB l ⟨d, p, t⟩ = r) :
    Calls Try.prog 35 #[.slice A n c, .agg #[.int .i64 d, .int .i64 p, .int .i64 t]] w fun e w' => e = .returned (.bool r) ∧ Below w.heap.size w w' := by
  have HR := Lib.hid hr
  have HX := Lib.hid (Iv.new w 59 ⟨d, p, t⟩)
  have HB := Lib.hid (below_one w (.cells #[.int .i64 d, .int .i64 p, .int .i64 t] 59))
  have H := Lib.hid (h.below HB.out)
  clear hr h
  go_enter Try.func35, Try.ntmps35
  go_wp2_with (go_at_call 40; refine (containsC_any A n c l ⟨d, p, t⟩ _ 59 r _ HX.out hn H.out HR.out).mono ?_; rintro e w1 ⟨rfl, hb1⟩; have HC := Lib.hid (below_then HB.out hb1); clear hb1)
  go_ret
  exact ⟨rfl, HC.out⟩
set_option maxHeartbeats 400000 in
theorem place_is (N : Int) (A : Option Addr) (n c : Nat) (l : List It) (d : Int) (r : Int) (w : World) (hn : n ≤ 100000) (h : Its w A n c l) (hr : plI d l = r) :
    Calls Try.prog 27 #[.agg #[.int .i64 N, .slice A n c], .int .i64 d] w fun e w' => e = .returned (.int .i64 r) ∧ Below w.heap.size w w' := by
  rw [plI_fi] at hr
  have HR := Lib.hid hr
  have HB := Lib.hid (two_new w (.cells #[.int .i64 N, .slice A n c] 28) (.cells #[.int .i64 d] 3))
  have H := Lib.hid (h.below HB.out)
  have hc : ((w.alloc (.cells #[.int .i64 N, .slice A n c] 28)).alloc (.cells #[.int .i64 d] 3)).cell? ⟨w.heap.size + 1, 0, none⟩ = some (.int .i64 d) := by simp [go_sem]
  have HC := Lib.hid hc
  clear hr h hc
  go_enter Try.func27, Try.ntmps27
  go_wp2_with (go_at_call 37; refine (indexP_any A n c l d (w.heap.size + 1) r _ HC.out (by simp) hn H.out HR.out).mono ?_; rintro e w1 ⟨rfl, hb1⟩; have HD := Lib.hid (below_then HB.out hb1); clear hb1)
  go_ret
  exact ⟨rfl, HD.out⟩
set_option maxHeartbeats 1000000 in
theorem behind_is (A : Option Addr) (n c : Nat) (l : List It) (p t : Int) (q : Nat) (w : World) (hn : n ≤ 100000) (h : Its w A n c l) (hw : ∀ i, i < n → Fw (l.getD i i0).p ∧ Fw (l.getD i i0).t) (h1 : Fw p) (h2 : Fw t) (hq : bhA ⟨0, p, t⟩ l = q) :
    Calls Try.prog 28 #[.slice A n c, .complex .f64 (fI p) (fI t)] w fun e w' => e = .returned (.int .i64 (q : Nat)) ∧ Below w.heap.size w w' := by
  have H := Lib.hid h
  have HL := Lib.hid h.len
  have HQ := Lib.hid hq
  have HW := Lib.hid hw
  have hqn : q ≤ n := by rw [← hq, ← h.len]; exact bh_le _ _
  clear h hq hw
  go_enter Try.func28, Try.ntmps28
  go_wp2
  go_loopw [5] (fun i wr => ∃ j : Nat, j ≤ q ∧ i = .int .i64 j ∧ Below w.heap.size w wr) (fun i _ => ((n : Int) - intOf i).toNat)
  case atStart => exact ⟨0, by omega, rfl, Below.refl _ _⟩
  case round =>
    obtain ⟨j, hj, rfl, hb⟩ := hrel
    have HV := Lib.hid hb
    clear hb
    by_cases hlt : j < n
    · obtain ⟨xb, xo, rfl, hbl, f0, f1, f2⟩ := (H.out.below HV.out).at_ j hlt
      obtain ⟨v, hv⟩ : ∃ v, ahB (l.getD j i0) ⟨0, p, t⟩ = v := ⟨_, rfl⟩
      have HVV := Lib.hid hv
      have F1 := Lib.hid (HW.out j hlt).1
      have F2 := Lib.hid (HW.out j hlt).2
      have HJ : Hid (if v = true then j < q else j = q) := Lib.hid (by
        subst hv
        split
        · rename_i g
          rcases Nat.lt_or_eq_of_le hj with g2 | g2
          · exact g2
          · have := bh_at ⟨0, p, t⟩ l (by rw [HQ.out, HL.out, ← g2]; exact hlt)
            rw [HQ.out, ← g2, g] at this
            cases this
        · rename_i g
          rcases Nat.lt_or_eq_of_le hj with g2 | g2
          · exact absurd (bh_before ⟨0, p, t⟩ l j (by rw [HQ.out]; exact g2)) g
          · exact g2)
      clear hv
      generalize l.getD j i0 = e at HVV F1 F2 f0 f1 f2
      obtain ⟨d', p', t'⟩ := e
      simp only at f0 f1 f2
      have HVV' : Hid (ahB ⟨0, p', t'⟩ ⟨0, p, t⟩ = v) := HVV
      cases v
      · have g := HJ.out
        simp at g
        subst g
        go_wp2_with (first
          | (go_at_call 29; refine (stand_is d' p' t' _).mono ?_; rintro e w1 ⟨rfl, hb1⟩; have HB := Lib.hid (below_then HV.out hb1); clear hb1)
          | (go_at_call 36; refine (ahead_is p' t' p t _ F1.out F2.out h1 h2 HVV'.out _).mono ?_; rintro e w2 ⟨rfl, rfl⟩))
        go_ret
        exact ⟨rfl, HB.out⟩
      · have g := HJ.out
        simp at g
        go_wp2_with (first
          | (go_at_call 29; refine (stand_is d' p' t' _).mono ?_; rintro e w1 ⟨rfl, hb1⟩; have HB := Lib.hid (below_then HV.out hb1); clear hb1)
          | (go_at_call 36; refine (ahead_is p' t' p t _ F1.out F2.out h1 h2 HVV'.out _).mono ?_; rintro e w2 ⟨rfl, rfl⟩))
        go_roundw
        case rel => exact ⟨j + 1, by omega, by go_num, HB.out⟩
        case measure => simp [intOf]; omega
    · obtain rfl : j = n := by omega
      obtain rfl : j = q := by omega
      go_wp2
      go_ret
      exact ⟨rfl, HV.out⟩
end Go.Proofs.Ytoklocbdifefcaa
