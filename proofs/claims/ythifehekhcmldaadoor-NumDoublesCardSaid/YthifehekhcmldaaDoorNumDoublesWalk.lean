/-
  The walk of NumDoubles: a double is a number with a point.
-/
import Derived.Test.YthifehekhcmldaaDoorNumAwake
import Derived.Test.YthifehekhcmldaaDoorNumPoint
import Derived.Deep.QuietTactic
import Derived.BigQuiet
namespace Go.Proofs.YthifehekhcmldaaDoor
open Go.RowKit

theorem u8_eq46 (a : UInt8) : (((a.toNat : Nat) : Int) == 46) = (a == 46) := by
  rw [Bool.eq_iff_iff]; simp only [beq_iff_eq]
  constructor
  · intro h; apply UInt8.toNat_inj.1; simp; omega
  · rintro rfl; rfl
/-- What is let go. -/
theorem numDoubles_long (l : List UInt8) (b : Int) (W : World) (hT : Tabs W) (h : 200 < l.length) :
    Calls Tryd.prog 7 #[.string ⟨l.toArray⟩, .int .i64 b] W fun e w' => e = .returned (.bool true) ∧ Keeps W w' := by
  have HA := Lib.hid (awake_any W hT)
  obtain ⟨S, hS⟩ : ∃ S : ByteArray, S = ⟨l.toArray⟩ := ⟨_, rfl⟩
  have hz : 200 < S.size := by rw [hS, size_mk]; exact h
  have hz2 : (200 : Int) < (S.size : Int) := by omega
  rw [← hS]
  clear hS hT
  go_enter Tryd.func7, Tryd.ntmps7
  go_wp2_with (go_at_call 9; refine HA.out.mono ?_; rintro e w1 ⟨rfl, hk1⟩)
  go_ret
  exact ⟨rfl, hk1⟩
theorem numDoubles_nil (b : Int) (W : World) (hT : Tabs W) :
    Calls Tryd.prog 7 #[.string ⟨#[]⟩, .int .i64 b] W fun e w' => e = .returned (.bool true) ∧ Keeps W w' := by
  have HA := Lib.hid (awake_any W hT)
  obtain ⟨S, hS⟩ : ∃ S : ByteArray, S = ⟨#[]⟩ := ⟨_, rfl⟩
  have hz : S.size = 0 := by rw [hS]; rfl
  rw [← hS]
  clear hS hT
  go_enter Tryd.func7, Tryd.ntmps7
  go_wp2_with (go_at_call 9; refine HA.out.mono ?_; rintro e w1 ⟨rfl, hk1⟩)
  go_ret
  exact ⟨rfl, hk1⟩
theorem numDoubles_dot (i : List UInt8) (b : Int) (W : World) (hT : Tabs W) (h : i.length ≤ 199) :
    Calls Tryd.prog 7 #[.string ⟨(i ++ [46]).toArray⟩, .int .i64 b] W fun e w' => e = .returned (.bool true) ∧ Keeps W w' := by
  have HA := Lib.hid (awake_any W hT)
  obtain ⟨S, hS⟩ : ∃ S : ByteArray, S = ⟨(i ++ [46]).toArray⟩ := ⟨_, rfl⟩
  obtain ⟨m, hm⟩ : ∃ m, i.length = m := ⟨_, rfl⟩
  have hz : S.size = m + 1 := by rw [hS, size_mk]; simp [hm]
  have e0 : ∀ k, S[m]'k = 46 := by intro k; subst hS; subst hm; simp [ByteArray.getElem_eq_getElem_data]
  have hm2 : m ≤ 199 := by omega
  have hm3 : (m : Int) ≤ 199 := by omega
  have t1 : decide (200 < (m : Int) + 1) = false := by simp; omega
  have t2 : ((m : Int) + 1 == 0) = false := by simp; omega
  rw [← hS]
  clear hS hT hm h
  go_enter Tryd.func7, Tryd.ntmps7
  go_wp2_with (go_at_call 9; refine HA.out.mono ?_; rintro e w1 ⟨rfl, hk1⟩)
  go_ret
  exact ⟨rfl, hk1⟩
theorem numDoubles_quoted (c : UInt8) (b : Int) (W : World) (hT : Tabs W) :
    Calls Tryd.prog 7 #[.string ⟨#[39, c, 39]⟩, .int .i64 b] W fun e w' => e = .returned (.bool true) ∧ Keeps W w' := by
  have HA := Lib.hid (awake_any W hT)
  obtain ⟨S, hS⟩ : ∃ S : ByteArray, S = ⟨#[39, c, 39]⟩ := ⟨_, rfl⟩
  have hz : S.size = 3 := by rw [hS]; rfl
  have e0 : ∀ k, S[(0 : Nat)]'k = 39 := by intro k; subst hS; rfl
  have e2 : ∀ k, S[(2 : Nat)]'k = 39 := by intro k; subst hS; rfl
  rw [← hS]
  clear hS hT
  go_enter Tryd.func7, Tryd.ntmps7
  go_wp2_with (go_at_call 9; refine HA.out.mono ?_; rintro e w1 ⟨rfl, hk1⟩)
  go_ret
  exact ⟨rfl, hk1⟩
set_option maxHeartbeats 1000000 in
theorem numDoubles_three1_no (S : ByteArray) (z : UInt8) (hz : S.size = 3) (e0 : ∀ k, S[(0 : Nat)]'k = 39) (e2 : ∀ k, S[(2 : Nat)]'k = z) (h1 : ((z.toNat : Int) == 46) = false) (h2 : ((z.toNat : Int) == 39) = false)  (b : Int) (W : World) (hT : Tabs W) (HP1 : Hid (∀ w, Tabs w → Calls Tryd.prog 10 #[.string S, .int .i64 b] w (Non w))) (HP2 : Hid (∀ w, Tabs w → Calls Tryd.prog 10 #[.string (S ++ ⟨#[46]⟩), .int .i64 b] w (Non w))) :
    Calls Tryd.prog 7 #[.string S, .int .i64 b] W fun e w' => e = .returned (.bool true) ∧ Keeps W w' := by
  have HA := Lib.hid (awake_any W hT)
  have HT := Lib.hid hT
  clear hT
  go_enter Tryd.func7, Tryd.ntmps7
  go_wp2_with (first
    | (go_at_call 9; refine HA.out.mono ?_; rintro e w1 ⟨rfl, hk1⟩)
    | (go_at_call 10; have q := hk2; refine (HP2.out _ (HT.out.keeps hk2)).mono ?_; rintro e w3 ⟨A2, p2, rfl, hw3⟩; have hk3 := hk2.trans hw3)
    | (go_at_call 10; refine (HP1.out _ (HT.out.keeps hk1)).mono ?_; rintro e w2 ⟨A1, p1, rfl, hw2⟩; have hk2 := hk1.trans hw2))
  go_quiet (fail)
  go_wp2
  go_ret
  exact ⟨rfl, hk3.drewN _⟩
set_option maxHeartbeats 1000000 in
theorem numDoubles_three1_yes (S : ByteArray) (z : UInt8) (hz : S.size = 3) (e0 : ∀ k, S[(0 : Nat)]'k = 39) (e2 : ∀ k, S[(2 : Nat)]'k = z) (h1 : ((z.toNat : Int) == 46) = false) (h2 : ((z.toNat : Int) == 39) = false)  (b x y : Int) (W : World) (hT : Tabs W) (HP1 : Hid (∀ w, Tabs w → Calls Tryd.prog 10 #[.string S, .int .i64 b] w (One w x))) (HP2 : Hid (∀ w, Tabs w → Calls Tryd.prog 10 #[.string (S ++ ⟨#[46]⟩), .int .i64 b] w (Two w x y))) :
    Calls Tryd.prog 7 #[.string S, .int .i64 b] W fun e w' => e = .returned (.bool true) ∧ Keeps W w' := by
  have HA := Lib.hid (awake_any W hT)
  have HT := Lib.hid hT
  clear hT
  go_enter Tryd.func7, Tryd.ntmps7
  go_wp2_with (first
    | (go_at_call 9; refine HA.out.mono ?_; rintro e w1 ⟨rfl, hk1⟩)
    | (go_at_call 10; have q := hk2; refine (HP2.out _ (HT.out.keeps hk2)).mono ?_; rintro e w3 ⟨N2, o2, p2, rfl, hN2, c20, c21, hw3⟩; have g1 := hw3.cell_some hN1 c1; clear c1; have hk3 := hk2.trans hw3)
    | (go_at_call 10; refine (HP1.out _ (HT.out.keeps hk1)).mono ?_; rintro e w2 ⟨N1, o1, p1, rfl, hN1, c1, hw2⟩; have hk2 := hk1.trans hw2))
  go_quiet (fail)
  go_wp2
  go_ret
  exact ⟨rfl, hk3.drewN _⟩
set_option maxHeartbeats 1000000 in
theorem numDoubles_three2_no (S : ByteArray) (a z : UInt8) (hz : S.size = 3) (e0 : ∀ k, S[(0 : Nat)]'k = a) (e2 : ∀ k, S[(2 : Nat)]'k = z) (h1 : ((z.toNat : Int) == 46) = false) (h2 : ((a.toNat : Int) == 39) = false)  (b : Int) (W : World) (hT : Tabs W) (HP1 : Hid (∀ w, Tabs w → Calls Tryd.prog 10 #[.string S, .int .i64 b] w (Non w))) (HP2 : Hid (∀ w, Tabs w → Calls Tryd.prog 10 #[.string (S ++ ⟨#[46]⟩), .int .i64 b] w (Non w))) :
    Calls Tryd.prog 7 #[.string S, .int .i64 b] W fun e w' => e = .returned (.bool true) ∧ Keeps W w' := by
  have HA := Lib.hid (awake_any W hT)
  have HT := Lib.hid hT
  clear hT
  go_enter Tryd.func7, Tryd.ntmps7
  go_wp2_with (first
    | (go_at_call 9; refine HA.out.mono ?_; rintro e w1 ⟨rfl, hk1⟩)
    | (go_at_call 10; have q := hk2; refine (HP2.out _ (HT.out.keeps hk2)).mono ?_; rintro e w3 ⟨A2, p2, rfl, hw3⟩; have hk3 := hk2.trans hw3)
    | (go_at_call 10; refine (HP1.out _ (HT.out.keeps hk1)).mono ?_; rintro e w2 ⟨A1, p1, rfl, hw2⟩; have hk2 := hk1.trans hw2))
  go_quiet (fail)
  go_wp2
  go_ret
  exact ⟨rfl, hk3.drewN _⟩
set_option maxHeartbeats 1000000 in
theorem numDoubles_three2_yes (S : ByteArray) (a z : UInt8) (hz : S.size = 3) (e0 : ∀ k, S[(0 : Nat)]'k = a) (e2 : ∀ k, S[(2 : Nat)]'k = z) (h1 : ((z.toNat : Int) == 46) = false) (h2 : ((a.toNat : Int) == 39) = false)  (b x y : Int) (W : World) (hT : Tabs W) (HP1 : Hid (∀ w, Tabs w → Calls Tryd.prog 10 #[.string S, .int .i64 b] w (One w x))) (HP2 : Hid (∀ w, Tabs w → Calls Tryd.prog 10 #[.string (S ++ ⟨#[46]⟩), .int .i64 b] w (Two w x y))) :
    Calls Tryd.prog 7 #[.string S, .int .i64 b] W fun e w' => e = .returned (.bool true) ∧ Keeps W w' := by
  have HA := Lib.hid (awake_any W hT)
  have HT := Lib.hid hT
  clear hT
  go_enter Tryd.func7, Tryd.ntmps7
  go_wp2_with (first
    | (go_at_call 9; refine HA.out.mono ?_; rintro e w1 ⟨rfl, hk1⟩)
    | (go_at_call 10; have q := hk2; refine (HP2.out _ (HT.out.keeps hk2)).mono ?_; rintro e w3 ⟨N2, o2, p2, rfl, hN2, c20, c21, hw3⟩; have g1 := hw3.cell_some hN1 c1; clear c1; have hk3 := hk2.trans hw3)
    | (go_at_call 10; refine (HP1.out _ (HT.out.keeps hk1)).mono ?_; rintro e w2 ⟨N1, o1, p1, rfl, hN1, c1, hw2⟩; have hk2 := hk1.trans hw2))
  go_quiet (fail)
  go_wp2
  go_ret
  exact ⟨rfl, hk3.drewN _⟩
set_option maxHeartbeats 1000000 in
theorem numDoubles_two1_no (S : ByteArray) (z : UInt8) (hz : S.size = 2) (e0 : ∀ k, S[(0 : Nat)]'k = 39) (e1 : ∀ k, S[(1 : Nat)]'k = z) (h1 : ((z.toNat : Int) == 46) = false)  (b : Int) (W : World) (hT : Tabs W) (HP1 : Hid (∀ w, Tabs w → Calls Tryd.prog 10 #[.string S, .int .i64 b] w (Non w))) (HP2 : Hid (∀ w, Tabs w → Calls Tryd.prog 10 #[.string (S ++ ⟨#[46]⟩), .int .i64 b] w (Non w))) :
    Calls Tryd.prog 7 #[.string S, .int .i64 b] W fun e w' => e = .returned (.bool true) ∧ Keeps W w' := by
  have HA := Lib.hid (awake_any W hT)
  have HT := Lib.hid hT
  clear hT
  go_enter Tryd.func7, Tryd.ntmps7
  go_wp2_with (first
    | (go_at_call 9; refine HA.out.mono ?_; rintro e w1 ⟨rfl, hk1⟩)
    | (go_at_call 10; have q := hk2; refine (HP2.out _ (HT.out.keeps hk2)).mono ?_; rintro e w3 ⟨A2, p2, rfl, hw3⟩; have hk3 := hk2.trans hw3)
    | (go_at_call 10; refine (HP1.out _ (HT.out.keeps hk1)).mono ?_; rintro e w2 ⟨A1, p1, rfl, hw2⟩; have hk2 := hk1.trans hw2))
  go_ret
  exact ⟨rfl, hk3⟩
set_option maxHeartbeats 1000000 in
theorem numDoubles_two1_yes (S : ByteArray) (z : UInt8) (hz : S.size = 2) (e0 : ∀ k, S[(0 : Nat)]'k = 39) (e1 : ∀ k, S[(1 : Nat)]'k = z) (h1 : ((z.toNat : Int) == 46) = false)  (b x y : Int) (W : World) (hT : Tabs W) (HP1 : Hid (∀ w, Tabs w → Calls Tryd.prog 10 #[.string S, .int .i64 b] w (One w x))) (HP2 : Hid (∀ w, Tabs w → Calls Tryd.prog 10 #[.string (S ++ ⟨#[46]⟩), .int .i64 b] w (Two w x y))) :
    Calls Tryd.prog 7 #[.string S, .int .i64 b] W fun e w' => e = .returned (.bool true) ∧ Keeps W w' := by
  have HA := Lib.hid (awake_any W hT)
  have HT := Lib.hid hT
  clear hT
  go_enter Tryd.func7, Tryd.ntmps7
  go_wp2_with (first
    | (go_at_call 9; refine HA.out.mono ?_; rintro e w1 ⟨rfl, hk1⟩)
    | (go_at_call 10; have q := hk2; refine (HP2.out _ (HT.out.keeps hk2)).mono ?_; rintro e w3 ⟨N2, o2, p2, rfl, hN2, c20, c21, hw3⟩; have g1 := hw3.cell_some hN1 c1; clear c1; have hk3 := hk2.trans hw3)
    | (go_at_call 10; refine (HP1.out _ (HT.out.keeps hk1)).mono ?_; rintro e w2 ⟨N1, o1, p1, rfl, hN1, c1, hw2⟩; have hk2 := hk1.trans hw2))
  go_ret
  exact ⟨rfl, hk3⟩
set_option maxHeartbeats 1000000 in
theorem numDoubles_two2_no (S : ByteArray) (a z : UInt8) (hz : S.size = 2) (e0 : ∀ k, S[(0 : Nat)]'k = a) (e1 : ∀ k, S[(1 : Nat)]'k = z) (h1 : ((z.toNat : Int) == 46) = false) (h2 : ((a.toNat : Int) == 39) = false)  (b : Int) (W : World) (hT : Tabs W) (HP1 : Hid (∀ w, Tabs w → Calls Tryd.prog 10 #[.string S, .int .i64 b] w (Non w))) (HP2 : Hid (∀ w, Tabs w → Calls Tryd.prog 10 #[.string (S ++ ⟨#[46]⟩), .int .i64 b] w (Non w))) :
    Calls Tryd.prog 7 #[.string S, .int .i64 b] W fun e w' => e = .returned (.bool true) ∧ Keeps W w' := by
  have HA := Lib.hid (awake_any W hT)
  have HT := Lib.hid hT
  clear hT
  go_enter Tryd.func7, Tryd.ntmps7
  go_wp2_with (first
    | (go_at_call 9; refine HA.out.mono ?_; rintro e w1 ⟨rfl, hk1⟩)
    | (go_at_call 10; have q := hk2; refine (HP2.out _ (HT.out.keeps hk2)).mono ?_; rintro e w3 ⟨A2, p2, rfl, hw3⟩; have hk3 := hk2.trans hw3)
    | (go_at_call 10; refine (HP1.out _ (HT.out.keeps hk1)).mono ?_; rintro e w2 ⟨A1, p1, rfl, hw2⟩; have hk2 := hk1.trans hw2))
  go_quiet (fail)
  go_wp2
  go_ret
  exact ⟨rfl, hk3.drewN _⟩
set_option maxHeartbeats 1000000 in
theorem numDoubles_two2_yes (S : ByteArray) (a z : UInt8) (hz : S.size = 2) (e0 : ∀ k, S[(0 : Nat)]'k = a) (e1 : ∀ k, S[(1 : Nat)]'k = z) (h1 : ((z.toNat : Int) == 46) = false) (h2 : ((a.toNat : Int) == 39) = false)  (b x y : Int) (W : World) (hT : Tabs W) (HP1 : Hid (∀ w, Tabs w → Calls Tryd.prog 10 #[.string S, .int .i64 b] w (One w x))) (HP2 : Hid (∀ w, Tabs w → Calls Tryd.prog 10 #[.string (S ++ ⟨#[46]⟩), .int .i64 b] w (Two w x y))) :
    Calls Tryd.prog 7 #[.string S, .int .i64 b] W fun e w' => e = .returned (.bool true) ∧ Keeps W w' := by
  have HA := Lib.hid (awake_any W hT)
  have HT := Lib.hid hT
  clear hT
  go_enter Tryd.func7, Tryd.ntmps7
  go_wp2_with (first
    | (go_at_call 9; refine HA.out.mono ?_; rintro e w1 ⟨rfl, hk1⟩)
    | (go_at_call 10; have q := hk2; refine (HP2.out _ (HT.out.keeps hk2)).mono ?_; rintro e w3 ⟨N2, o2, p2, rfl, hN2, c20, c21, hw3⟩; have g1 := hw3.cell_some hN1 c1; clear c1; have hk3 := hk2.trans hw3)
    | (go_at_call 10; refine (HP1.out _ (HT.out.keeps hk1)).mono ?_; rintro e w2 ⟨N1, o1, p1, rfl, hN1, c1, hw2⟩; have hk2 := hk1.trans hw2))
  go_quiet (fail)
  go_wp2
  go_ret
  exact ⟨rfl, hk3.drewN _⟩
set_option maxHeartbeats 1000000 in
theorem numDoubles_any_no (S : ByteArray) (m : Nat) (z : UInt8) (hz : S.size = m + 1) (hm : m ≤ 199) (m2 : m ≠ 2) (m1 : m ≠ 1) (e0 : ∀ k, S[m]'k = z) (h1 : ((z.toNat : Int) == 46) = false) (hsz : ¬ 9223372036854775807 < S.size + (⟨#[46]⟩ : ByteArray).size)  (b : Int) (W : World) (hT : Tabs W) (HP1 : Hid (∀ w, Tabs w → Calls Tryd.prog 10 #[.string S, .int .i64 b] w (Non w))) (HP2 : Hid (∀ w, Tabs w → Calls Tryd.prog 10 #[.string (S ++ ⟨#[46]⟩), .int .i64 b] w (Non w))) :
    Calls Tryd.prog 7 #[.string S, .int .i64 b] W fun e w' => e = .returned (.bool true) ∧ Keeps W w' := by
  have HA := Lib.hid (awake_any W hT)
  have HT := Lib.hid hT
  clear hT
  have t1 : decide (200 < (m : Int) + 1) = false := by simp; omega
  have t2 : ((m : Int) + 1 == 0) = false := by simp; omega
  have t3 : ((m : Int) + 1 == 3) = false := by simp; omega
  have t4 : ((m : Int) + 1 == 2) = false := by simp; omega
  clear m2 m1
  go_enter Tryd.func7, Tryd.ntmps7
  go_wp2_with (first
    | (go_at_call 9; refine HA.out.mono ?_; rintro e w1 ⟨rfl, hk1⟩)
    | (go_at_call 10; have q := hk2; refine (HP2.out _ (HT.out.keeps hk2)).mono ?_; rintro e w3 ⟨A2, p2, rfl, hw3⟩; have hk3 := hk2.trans hw3)
    | (go_at_call 10; refine (HP1.out _ (HT.out.keeps hk1)).mono ?_; rintro e w2 ⟨A1, p1, rfl, hw2⟩; have hk2 := hk1.trans hw2))
  go_quiet (fail)
  go_wp2
  go_ret
  exact ⟨rfl, hk3.drewN _⟩
set_option maxHeartbeats 1000000 in
theorem numDoubles_any_yes (S : ByteArray) (m : Nat) (z : UInt8) (hz : S.size = m + 1) (hm : m ≤ 199) (m2 : m ≠ 2) (m1 : m ≠ 1) (e0 : ∀ k, S[m]'k = z) (h1 : ((z.toNat : Int) == 46) = false) (hsz : ¬ 9223372036854775807 < S.size + (⟨#[46]⟩ : ByteArray).size)  (b x y : Int) (W : World) (hT : Tabs W) (HP1 : Hid (∀ w, Tabs w → Calls Tryd.prog 10 #[.string S, .int .i64 b] w (One w x))) (HP2 : Hid (∀ w, Tabs w → Calls Tryd.prog 10 #[.string (S ++ ⟨#[46]⟩), .int .i64 b] w (Two w x y))) :
    Calls Tryd.prog 7 #[.string S, .int .i64 b] W fun e w' => e = .returned (.bool true) ∧ Keeps W w' := by
  have HA := Lib.hid (awake_any W hT)
  have HT := Lib.hid hT
  clear hT
  have t1 : decide (200 < (m : Int) + 1) = false := by simp; omega
  have t2 : ((m : Int) + 1 == 0) = false := by simp; omega
  have t3 : ((m : Int) + 1 == 3) = false := by simp; omega
  have t4 : ((m : Int) + 1 == 2) = false := by simp; omega
  clear m2 m1
  go_enter Tryd.func7, Tryd.ntmps7
  go_wp2_with (first
    | (go_at_call 9; refine HA.out.mono ?_; rintro e w1 ⟨rfl, hk1⟩)
    | (go_at_call 10; have q := hk2; refine (HP2.out _ (HT.out.keeps hk2)).mono ?_; rintro e w3 ⟨N2, o2, p2, rfl, hN2, c20, c21, hw3⟩; have g1 := hw3.cell_some hN1 c1; clear c1; have hk3 := hk2.trans hw3)
    | (go_at_call 10; refine (HP1.out _ (HT.out.keeps hk1)).mono ?_; rintro e w2 ⟨N1, o1, p1, rfl, hN1, c1, hw2⟩; have hk2 := hk1.trans hw2))
  go_quiet (fail)
  go_wp2
  go_ret
  exact ⟨rfl, hk3.drewN _⟩
end Go.Proofs.YthifehekhcmldaaDoor
