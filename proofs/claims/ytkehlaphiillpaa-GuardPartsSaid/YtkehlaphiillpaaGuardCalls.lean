/-
  What the calls of package guard answer: UserAt, Region, there, isHost, regionOf, mayOne, mayEach, May.
-/
import Derived.Test.YtkehlaphiillpaaProg
import Derived.Test.YtkehlaphiillpaaGuardMath
import Derived.Test.YtkehlaphiillpaaBelowThen
import Derived.Laws.StructEq
import Derived.Below
import Derived.WalkKit
import Derived.WalkMore
import Derived.Lib.Hide
import Derived.IntWalk
import Derived.Deep.RegionHeld3
import Derived.BigQuiet
import Derived.Deep.Cut
namespace Go.Proofs.Ytkehlaphiillpaa
open Go.RowKit

theorem below_one (w : World) (o : Obj) : Below w.heap.size w (w.alloc o) := (Below.refl _ _).alloc (Nat.le_refl _) _
theorem below_drewN' {B : Nat} {a w : World} (h : Below B a w) (n : Nat) : Below B a (w.drewN n) := ⟨h.os, h.tape, h.output, h.size, h.block⟩
theorem two_new (w : World) (o o' : Obj) : Below w.heap.size w ((w.alloc o).alloc o') := ((Below.refl _ _).alloc (Nat.le_refl _) _).alloc (by simp) _
theorem eqRG (w : World) (a b c d : Int) (r : Bool) (h : (a == c && b == d) = r) : (binOp .eql 49 (.agg #[.int .i64 a, .int .i64 b]) (.agg #[.int .i64 c, .int .i64 d])).run Try.prog w = .ok (.bool r) w := by
  have u3 := Try.underlying3
  have a3 := Try.isAgg3
  have z3 := Try.sizeOf3
  have hS : Try.prog.underlying 49 = some (.struct (Try.prog.fieldsOf 49)) := by kernel_rfl
  have hp : Try.prog.stoodInHeld 49 = false := by kernel_rfl
  rw [run_eql_struct, show (10000 : Nat) = 9999 + 1 from rfl, run_equalIn_agg w 9999 49 _ _ hS hp]
  simp only [Program.fieldsOf, Try.underlying49]
  subst h
  go_simp
  by_cases h1 : a = c <;> by_cases h2 : b = d <;> simp [h1, h2]
theorem eqWho (w : World) (a c : Int) (b d : Bool) (r : Bool) (h : (a == c && b == d) = r) : (binOp .eql 33 (.agg #[.int .i64 a, .bool b]) (.agg #[.int .i64 c, .bool d])).run Try.prog w = .ok (.bool r) w := by
  have u3 := Try.underlying3
  have a3 := Try.isAgg3
  have z3 := Try.sizeOf3
  have u4 := Try.underlying4
  have a4 := Try.isAgg4
  have z4 := Try.sizeOf4
  have hS : Try.prog.underlying 33 = some (.struct (Try.prog.fieldsOf 33)) := by kernel_rfl
  have hp : Try.prog.stoodInHeld 33 = false := by kernel_rfl
  rw [run_eql_struct, show (10000 : Nat) = 9999 + 1 from rfl, run_equalIn_agg w 9999 33 _ _ hS hp]
  simp only [Program.fieldsOf, Try.underlying33]
  subst h
  go_simp
  by_cases h1 : a = c <;> cases b <;> cases d <;> simp [h1]

theorem gthere_is (a n : Int) (b : Bool) (ha : a ≤ 9223372036854775807) (h : gIn a n = b) (w : World) :
    Calls Try.prog 26 #[.int .i64 a, .int .i64 n] w fun e w' => e = .returned (.bool b) ∧ w = w' := by
  have HB : Hid (b = (decide (0 ≤ n) && (decide (0 ≤ a) && decide (n ≤ 5120 - a)))) := Lib.hid (by
    rw [← h]; unfold gIn; rw [Bool.decide_and, Bool.decide_and])
  clear h
  by_cases h1 : 0 ≤ n <;> by_cases h2 : 0 ≤ a
  all_goals
    first
      | (have hw : wrap64 (5120 - a) = 5120 - a := by unfold wrap64; omega)
      | skip
    by_cases h3 : n ≤ 5120 - a
    all_goals
      go_enter Try.func26, Try.ntmps26
      go_wp2
      go_ret
      exact ⟨by rw [HB.out]; first | (simp [h1, h2, h3]; done) | (simp [h1, h2, h3]; unfold wrap64; omega), rfl⟩
theorem isHost_is (t : Int) (lib : Bool) (b : Bool) (h : (t == -1) = b) (w : World) :
    Calls Try.prog 27 #[.agg #[.int .i64 t, .bool lib]] w fun e w' => e = .returned (.bool b) ∧ Below w.heap.size w w' := by
  have q := fun W => eqWho W t (-1) lib lib b (by rw [← h]; simp)
  clear h
  go_enter Try.func27, Try.ntmps27
  go_wp2
  go_ret
  exact ⟨rfl, below_one _ _⟩
theorem regionOf_is (a k t : Int) (ha : InC a) (hk : gK a = k) (ht : gT a = t) (w : World) :
    Calls Try.prog 22 #[.int .i64 a] w fun e w' => e = .returned (.agg #[.int .i64 k, .int .i64 t]) ∧ Below w.heap.size w w' := by
  unfold InC at ha
  subst hk ht
  rcases gK_cases a with ⟨e1, e2, h⟩ | ⟨e1, e2, h1, h2⟩ | ⟨e1, e2, h1, h2⟩ | ⟨e1, e2, h1, h2⟩
  · rw [e1, e2]
    clear e1 e2
    rcases h with h | h
    · go_enter Try.func22, Try.ntmps22
      go_wp2
      refine bodyPost_ret (v := .agg #[.int .i64 (-1), .int .i64 (-1)]) (by simp [results, Try.results22, go_sem]) rfl ⟨rfl, ?_⟩
      exact below_one _ _
    · have h0 : ¬ a < 0 := by omega
      go_enter Try.func22, Try.ntmps22
      go_wp2
      refine bodyPost_ret (v := .agg #[.int .i64 (-1), .int .i64 (-1)]) (by simp [results, Try.results22, go_sem]) rfl ⟨rfl, ?_⟩
      exact below_one _ _
  · rw [e1, e2]
    clear e1 e2
    have h0 : ¬ a < 0 := by omega
    have h3 : ¬ 5120 ≤ a := by omega
    go_enter Try.func22, Try.ntmps22
    go_wp2
    refine bodyPost_ret (v := .agg #[.int .i64 0, .int .i64 (-1)]) (by simp [results, Try.results22, go_sem]) rfl ⟨rfl, ?_⟩
    exact below_one _ _
  · rw [e1, e2]
    clear e1 e2
    have h0 : ¬ a < 0 := by omega
    have h3 : ¬ 5120 ≤ a := by omega
    have h4 : ¬ a < 2048 := by omega
    go_enter Try.func22, Try.ntmps22
    go_wp2
    refine bodyPost_ret (v := .agg #[.int .i64 1, .int .i64 (-1)]) (by simp [results, Try.results22, go_sem]) rfl ⟨rfl, ?_⟩
    exact below_one _ _
  · rw [e1, e2]
    clear e1 e2
    have h0 : ¬ a < 0 := by omega
    have h3 : ¬ 5120 ≤ a := by omega
    have h4 : ¬ a < 2048 := by omega
    have h5 : ¬ a < 4096 := by omega
    have hw : wrap64 (a - 4096) = a - 4096 := by unfold wrap64; omega
    have hd : (a - 4096).tdiv 128 = (a - 4096) / 128 := Int.tdiv_eq_ediv_of_nonneg (by omega)
    have hT : 0 ≤ (a - 4096) / 128 ∧ (a - 4096) / 128 < 8 := by omega
    generalize (a - 4096) / 128 = T at *
    have hw2 : wrap64 T = T := by unfold wrap64; omega
    go_enter Try.func22, Try.ntmps22
    go_wp2
    refine bodyPost_ret (v := .agg #[.int .i64 2, .int .i64 T]) (by simp [results, Try.results22, go_sem]) rfl ⟨rfl, ?_⟩
    exact below_one _ _

theorem mayOne_is (t a k u : Int) (lib wt b : Bool) (hk : gK a = k) (hu : gT a = u) (h : gB t lib a wt = b) (w : World) :
    Calls Try.prog 36 #[.agg #[.int .i64 t, .bool lib], .agg #[.int .i64 k, .int .i64 u], .bool wt] w fun e w' => e = .returned (.bool b) ∧ Below w.heap.size w w' := by
  subst hk hu
  rcases gK_cases a with ⟨e1, e2, h0⟩ | ⟨e1, e2, h0, h1⟩ | ⟨e1, e2, h0, h1⟩ | ⟨e1, e2, h0, h1⟩
  · rw [gB_none h0] at h
    subst h
    rw [e1, e2] at *
    have q1 := fun W => eqRG W (-1) (-1) 0 (-1) false rfl
    have q2 := fun W => eqRG W (-1) (-1) 1 (-1) false rfl
    have q3 := fun W => eqRG W (-1) (-1) 2 t false rfl
    clear e1 e2 h0
    cases wt
    all_goals
      go_enter Try.func36, Try.ntmps36
      go_wp2
      go_ret
      exact ⟨rfl, two_new _ _ _⟩
  · rw [gB_data h0 h1] at h
    subst h
    rw [e1, e2] at *
    have q1 := fun W => eqRG W 0 (-1) 0 (-1) true rfl
    have q2 := fun W => eqRG W 0 (-1) 1 (-1) false rfl
    have q3 := fun W => eqRG W 0 (-1) 2 t false rfl
    clear e1 e2 h0 h1
    cases wt
    all_goals
      go_enter Try.func36, Try.ntmps36
      go_wp2
      go_ret
      exact ⟨rfl, two_new _ _ _⟩
  · rw [gB_heap h0 h1] at h
    subst h
    rw [e1, e2] at *
    have q1 := fun W => eqRG W 1 (-1) 0 (-1) false rfl
    have q2 := fun W => eqRG W 1 (-1) 1 (-1) true rfl
    have q3 := fun W => eqRG W 1 (-1) 2 t false rfl
    clear e1 e2 h0 h1
    cases lib
    all_goals
      go_enter Try.func36, Try.ntmps36
      go_wp2
      go_ret
      exact ⟨rfl, two_new _ _ _⟩
  · rw [gB_user h0 h1] at h
    rw [e1, e2] at *
    have hT : (a - 4096) / 128 ≠ -1 := by omega
    generalize (a - 4096) / 128 = T at *
    have q1 := fun W => eqRG W 2 T 0 (-1) false rfl
    have q2 := fun W => eqRG W 2 T 1 (-1) false rfl
    have q3 := fun W => eqRG W 2 T 2 t b (by rw [← h]; simp)
    clear e1 e2 h0 h1 h hT
    go_enter Try.func36, Try.ntmps36
    go_wp2
    go_ret
    exact ⟨rfl, two_new _ _ _⟩
/-- Block b holds a task, and whether it is within the library. -/
def Wh (w : World) (b : Nat) (T : TypeId) (t : Int) (lib : Bool) : Prop := w.heap[b]? = some (.cells #[.int .i64 t, .bool lib] T (0, 0))
section
variable {w w' : World} {b : Nat} {T : TypeId} {t : Int} {lib : Bool}
theorem Wh.lt (h : Wh w b T t lib) : b < w.heap.size := (Array.getElem?_eq_some_iff.1 h).1
theorem Wh.c0 (h : Wh w b T t lib) : w.cell? ⟨b, 0, none⟩ = some (.int .i64 t) := by unfold Wh at h; simp [World.cell?, h]
theorem Wh.c1 (h : Wh w b T t lib) : w.cell? ⟨b, 1, none⟩ = some (.bool lib) := by unfold Wh at h; simp [World.cell?, h]
theorem Wh.keep (h : Wh w b T t lib) (hb : Below w.heap.size w w') : Wh w' b T t lib := (hb.block b h.lt).trans h
theorem Wh.new (w : World) (T : TypeId) (t : Int) (lib : Bool) : Wh (w.alloc (.cells #[.int .i64 t, .bool lib] T)) w.heap.size T t lib := by
  show (w.heap.push _)[w.heap.size]? = _
  rw [Array.getElem?_push_size]
end
/-- A task's cells, and that of what was there nothing has changed. -/
def WhB (W : World) (b : Nat) (t : Int) (lib : Bool) (w : World) : Prop := Below W.heap.size W w ∧ b < w.heap.size ∧ w.cell? ⟨b, 0, none⟩ = some (.int .i64 t) ∧ w.cell? ⟨b, 1, none⟩ = some (.bool lib)
theorem whB {W w : World} {b : Nat} {T : TypeId} {t : Int} {lib : Bool} (X : Wh W b T t lib) (h : Below W.heap.size W w) : WhB W b t lib w :=
  ⟨h, (X.keep h).lt, (X.keep h).c0, (X.keep h).c1⟩
theorem userAt_is (t a : Int) (b : Bool) (ha : gU t = a) (hb : gUo t = b) (w : World) :
    Calls Try.prog 10 #[.int .i64 t] w fun e w' => e = .returned (.tuple #[.int .i64 a, .bool b]) ∧ w = w' := by
  by_cases h0 : t < 0
  · obtain rfl : 0 = a := by rw [← ha]; unfold gU; rw [if_neg (by omega)]
    obtain rfl : false = b := by rw [← hb]; unfold gUo; rw [decide_eq_false (by omega)]
    clear ha hb
    go_enter Try.func10, Try.ntmps10
    go_wp2
    go_ret2
    exact ⟨rfl, rfl⟩
  · by_cases h8 : 8 ≤ t
    · obtain rfl : 0 = a := by rw [← ha]; unfold gU; rw [if_neg (by omega)]
      obtain rfl : false = b := by rw [← hb]; unfold gUo; rw [decide_eq_false (by omega)]
      clear ha hb
      go_enter Try.func10, Try.ntmps10
      go_wp2
      go_ret2
      exact ⟨rfl, rfl⟩
    · obtain rfl : true = b := by rw [← hb]; unfold gUo; rw [decide_eq_true (by omega)]
      have h1 : a = 4096 + 128 * t := by rw [← ha]; unfold gU; rw [if_pos (by omega)]
      have hw1 : wrap64 (128 * t) = 128 * t := by unfold wrap64; omega
      have hw2 : wrap64 (4096 + 128 * t) = a := by unfold wrap64; omega
      have hw3 : 4096 + 128 * t = a := h1.symm
      have HX : Hid (4096 + 128 * t = a) := Lib.hid h1.symm
      clear ha hb h1
      go_enter Try.func10, Try.ntmps10
      go_wp2
      go_ret2
      exact ⟨rfl, rfl⟩
theorem region_is (a k t : Int) (ha : InC a) (hk : gK a = k) (ht : gT a = t) (w : World) :
    Calls Try.prog 12 #[.int .i64 a] w fun e w' => e = .returned (.tuple #[.int .i64 k, .int .i64 t]) ∧ Below w.heap.size w w' := by
  have HK := Lib.hid hk
  have HT := Lib.hid ht
  clear hk ht
  go_enter Try.func12, Try.ntmps12
  go_upto_region 2 with (go_at_call 22; refine (regionOf_is a k t ha HK.out HT.out _).mono ?_; rintro e w1 ⟨rfl, hb1⟩; have HB := Lib.hid hb1; clear hb1)
  have HC := Lib.hid (below_then HB.out (below_one w1 (.cells #[.int .i64 k, .int .i64 t] 49)))
  have c0 : (w1.alloc (.cells #[.int .i64 k, .int .i64 t] 49)).cell? ⟨w1.heap.size, 0, none⟩ = some (.int .i64 k) := by simp [go_sem]
  have c1 : (w1.alloc (.cells #[.int .i64 k, .int .i64 t] 49)).cell? ⟨w1.heap.size, 1, none⟩ = some (.int .i64 t) := by simp [go_sem]
  generalize w1.alloc (.cells #[.int .i64 k, .int .i64 t] 49) = w2 at *
  go_quiet (fail)
  go_wp2
  go_ret2
  exact ⟨rfl, below_drewN' HC.out _⟩
set_option maxHeartbeats 1000000 in
theorem mayEach_is (t a : Int) (lib wt b : Bool) (n : Nat) (h0 : 0 ≤ a) (hn : a + n ≤ 5120) (h : gE t lib a wt n = b) (w : World) :
    Calls Try.prog 28 #[.agg #[.int .i64 t, .bool lib], .int .i64 a, .int .i64 (n : Int), .bool wt] w fun e w' => e = .returned (.bool b) ∧ Below w.heap.size w w' := by
  have HX := Lib.hid (Wh.new w 33 t lib)
  have HB := Lib.hid (below_one w (.cells #[.int .i64 t, .bool lib] 33))
  have HE := Lib.hid h
  clear h
  go_enter Try.func28, Try.ntmps28
  go_upto_region 1 with (fail)
  generalize w.alloc (.cells #[.int .i64 t, .bool lib] 33) = W at *
  go_upto_region 2 with (fail)
  go_loopw [11] (fun i wr => ∃ k : Nat, k ≤ n ∧ i = .int .i64 k ∧ gE t lib a wt k = true ∧ Below W.heap.size W wr) (fun i _ => ((n : Int) - intOf i).toNat)
  case atStart => exact ⟨0, by omega, rfl, rfl, Below.refl _ _⟩
  case round =>
    obtain ⟨k, hk, rfl, hg, hb⟩ := hrel
    have HG := Lib.hid hg
    have HW := Lib.hid hb
    clear hg hb
    by_cases hlt : k < n
    · obtain ⟨p, hp⟩ : ∃ p : Int, a + (k : Int) = p := ⟨_, rfl⟩
      have hw1 : wrap64 (a + (k : Int)) = p := by unfold wrap64; omega
      have hw2 : IntKind.i64.wrap (a + (k : Int)) = p := (wrapi64 _).trans hw1
      have hpc : InC p := by unfold InC; omega
      have XW := Lib.hid (HX.out.keep HW.out)
      have c0 := XW.out.c0
      have c1 := XW.out.c1
      have lt := XW.out.lt
      obtain ⟨kk, hkk⟩ : ∃ x, gK p = x := ⟨_, rfl⟩
      obtain ⟨tt, htt⟩ : ∃ x, gT p = x := ⟨_, rfl⟩
      obtain ⟨o, ho⟩ : ∃ x, gB t lib p wt = x := ⟨_, rfl⟩
      have HK := Lib.hid hkk
      have HT := Lib.hid htt
      have HO := Lib.hid ho
      have HP := Lib.hid hp
      clear hkk htt ho hp
      go_upto_region 4 with (fail)
      have HV : Hid (Below wr.heap.size wr wr.drew) := Lib.hid (Below.refl _ _).drew
      go_region_held3 (fun w9 => Below wr.heap.size wr w9 ∧ w.heap.size < w9.heap.size ∧ w9.cell? ⟨w.heap.size, 0, none⟩ = some (.int .i64 t) ∧ w9.cell? ⟨w.heap.size, 1, none⟩ = some (.bool lib)) (first | assumption | exact whB XW.out HV.out)
        (first
          | (go_at_call 22; (with_reducible refine (regionOf_is p kk tt hpc HK.out HT.out _).mono ?_); rintro e we ⟨rfl, hbe⟩; have HV := Lib.hid (below_then HV.out hbe); clear hbe)
          | (go_at_call 36; (with_reducible refine (mayOne_is t p kk tt lib wt o HK.out HT.out HO.out _).mono ?_); rintro e wf ⟨rfl, hbf⟩; have HV := Lib.hid (below_then HV.out hbf); clear hbf))
      cases o
      · obtain rfl : false = b := by rw [← HE.out, gE_not hlt (by rw [HP.out]; exact HO.out)]
        go_wp2
        go_ret
        exact ⟨rfl, below_then HB.out (below_then HW.out HV.out)⟩
      · go_wp2
        go_roundw
        case rel => exact ⟨k + 1, by omega, by go_num, by rw [gE, HG.out, HP.out, HO.out]; rfl, below_then HW.out HV.out⟩
        case measure => simp [intOf]; omega
    · obtain rfl : k = n := by omega
      obtain rfl : true = b := by rw [← HE.out, HG.out]
      go_wp2
      go_ret
      exact ⟨rfl, below_then HB.out HW.out⟩
set_option maxHeartbeats 1000000 in
theorem may_is (t : Int) (lib : Bool) (a n : Int) (wt b : Bool) (ha : a ≤ 9223372036854775807) (h : gM t lib a n wt = b) (w : World) :
    Calls Try.prog 19 #[.agg #[.int .i64 t, .bool lib], .int .i64 a, .int .i64 n, .bool wt] w fun e w' => e = .returned (.bool b) ∧ Below w.heap.size w w' := by
  have HX := Lib.hid (Wh.new w 33 t lib)
  have HB := Lib.hid (below_one w (.cells #[.int .i64 t, .bool lib] 33))
  have c0 := HX.out.c0
  have c1 := HX.out.c1
  have lt := HX.out.lt
  cases hg : gIn a n
  · obtain rfl : false = b := by rw [← h]; unfold gM; rw [hg]; rfl
    have HG := Lib.hid hg
    clear hg h
    go_enter Try.func19, Try.ntmps19
    go_wp2_with (go_at_call 26; refine (gthere_is a n false ha HG.out _).mono ?_; rintro e w' ⟨rfl, rfl⟩)
    go_ret
    exact ⟨rfl, HB.out⟩
  · have HG := Lib.hid hg
    have hin : 0 ≤ n ∧ 0 ≤ a ∧ n ≤ 5120 - a := by unfold gIn at hg; exact of_decide_eq_true hg
    obtain ⟨N, rfl⟩ : ∃ N : Nat, n = (N : Int) := ⟨n.toNat, by omega⟩
    have h1 : ((t == -1) || gE t lib a wt N) = b := by rw [← h]; unfold gM; rw [hg, Bool.true_and, Int.toNat_natCast]
    have h2 : a + (N : Int) ≤ 5120 := by omega
    have h3 : 0 ≤ a := by omega
    clear hg h hin
    cases ht : t == -1
    · rw [ht, Bool.false_or] at h1
      have HT := Lib.hid ht
      have H1 := Lib.hid h1
      clear ht h1
      go_enter Try.func19, Try.ntmps19
      go_wp2_with (first
        | (go_at_call 26; refine (gthere_is a (N : Int) true ha HG.out _).mono ?_; rintro e w' ⟨rfl, rfl⟩)
        | (go_at_call 27; refine (isHost_is t lib false HT.out _).mono ?_; rintro e w1 ⟨rfl, hb1⟩; have HX := Lib.hid (HX.out.keep hb1); have HB := Lib.hid (below_then HB.out hb1); clear c0 c1 lt hb1; have c0 := HX.out.c0; have c1 := HX.out.c1; have lt := HX.out.lt)
        | (go_at_call 28; refine (mayEach_is t a lib wt b N h3 h2 H1.out _).mono ?_; rintro e w2 ⟨rfl, hb2⟩; have HB := Lib.hid (below_then HB.out hb2); clear hb2))
      go_ret
      exact ⟨rfl, HB.out⟩
    · obtain rfl : true = b := by rw [← h1, ht]; rfl
      have HT := Lib.hid ht
      clear ht h1
      go_enter Try.func19, Try.ntmps19
      go_wp2_with (first
        | (go_at_call 26; refine (gthere_is a (N : Int) true ha HG.out _).mono ?_; rintro e w' ⟨rfl, rfl⟩)
        | (go_at_call 27; refine (isHost_is t lib true HT.out _).mono ?_; rintro e w1 ⟨rfl, hb1⟩; have HB := Lib.hid (below_then HB.out hb1); clear hb1))
      go_ret
      exact ⟨rfl, HB.out⟩
theorem ours_is (t : Int) (lib : Bool) (w : World) :
    Calls Try.prog 15 #[.agg #[.int .i64 t, .bool lib]] w fun e w' => e = .returned (.agg #[.int .i64 t, .bool lib]) ∧ Below w.heap.size w w' := by
  go_enter Try.func15, Try.ntmps15
  go_wp2
  refine bodyPost_ret (v := .agg #[.int .i64 t, .bool lib]) (by simp [results, Try.results15, go_sem]) rfl ⟨rfl, ?_⟩
  exact two_new _ _ _
set_option maxHeartbeats 1000000 in
theorem awake_any (w : World) : Calls Try.prog 9 #[] w fun e w' => e = .returned (.bool true) ∧ Below w.heap.size w w' := by
  have HX := Lib.hid (Wh.new w 33 1 false)
  have HB := Lib.hid (below_one w (.cells #[.int .i64 1, .bool false] 33))
  have c0 := HX.out.c0
  have c1 := HX.out.c1
  have lt := HX.out.lt
  go_enter Try.func9, Try.ntmps9
  go_wp2_with (first
    | (go_at_call 10; refine (userAt_is 1 4224 true (by decide) (by decide) _).mono ?_; rintro e w' ⟨rfl, rfl⟩)
    | (go_at_call 19; (first | (with_reducible refine (may_is 1 false 0 8 false true (by decide) (by decide) _).mono ?_) | (with_reducible refine (may_is 1 false 0 8 true false (by decide) (by decide) _).mono ?_) | (with_reducible refine (may_is 1 false 4224 8 true true (by decide) (by decide) _).mono ?_) | (with_reducible refine (may_is 1 false 4096 8 false false (by decide) (by decide) _).mono ?_)); rintro e w1 ⟨rfl, hb1⟩; have HX := Lib.hid (HX.out.keep hb1); have HB := Lib.hid (below_then HB.out hb1); clear c0 c1 lt hb1; have c0 := HX.out.c0; have c1 := HX.out.c1; have lt := HX.out.lt))
  go_ret
  exact ⟨rfl, HB.out⟩
end Go.Proofs.Ytkehlaphiillpaa
