/-
  The call of the statement PureFlags answers true at every two cells; of what was there nothing has changed.
-/
import Derived.Test.YtnlkggfgloblcaaGreatPureAwake
import Derived.Deep.QuietTactic
import Derived.BigQuiet
namespace Go.Proofs.YtnlkggfgloblcaaGreat
open Go.RowKit

/-- One operation on two cells that lays one. -/
theorem two_one (k : Nat) (h1 : 18 ≤ k) (h2 : k ≤ 74) (hk : k ≠ 31) (hN : puNs.getD (k - 18) 0 = 2) (a b v : Int) (ha : InC a) (hb : InC b) (hT : puT k [] [a, b] = 0) (hY : puY k [] [a, b] = [v]) (A : Option Addr) (w : World) (h : Stk w A 2 2 [a, b]) :
    Calls Tryz.prog 12 #[.int .i64 (k : Int), .slice A 2 2] w (PuPost w [v] 0) := by
  have h3 := do_any k A 2 2 [a, b] w (by omega) h (allC_cons ha (allC_cons hb allC_nil))
  obtain ⟨e1, e2⟩ := do_step (k := k) (l := []) (x := [a, b]) (y := [v]) h1 h2 hk (by rw [hN]; rfl) (by simp) hT hY (by simp)
  rw [show ([] : List Int) ++ [a, b] = [a, b] from rfl] at e1 e2
  rw [e1, e2] at h3
  exact h3
/-- Some operations on two cells. -/
theorem two_all (ops : List Int) (m : Nat) (hm : m ≤ 10000) (a b : Int) (L : List Int) (ha : InC a) (hb : InC b) (h : AlOk ops [a, b] L) (B A : Option Addr) (w : World) (h2 : Stk w B m m ops) (h1 : Stk w A 2 2 [a, b]) :
    Calls Tryz.prog 14 #[.slice B m m, .slice A 2 2] w (PuPost w L 0) :=
  all_ok B m m ops A 2 2 [a, b] L w hm (by omega) h2 h1 (allC_cons ha (allC_cons hb allC_nil)) h
theorem flags_all (a b v : Int) (ha : flagZ (a != b) = v) (y : Int) (hy : flagZ (v == 0) = y) : AlOk [56, 60] [a, b] [y] := by
  subst ha hy
  refine al_cons 56 [] [a, b] [flagZ (a != b)] (by decide) (by decide) (by decide) rfl rfl (by simp) rfl rfl (by simp) rfl ?_
  refine al_cons 60 [] [flagZ (a != b)] [flagZ (flagZ (a != b) == 0)] (by decide) (by decide) (by decide) rfl rfl (by simp) rfl rfl (by simp) rfl ?_
  exact al_nil _
set_option maxHeartbeats 1000000 in
set_option maxRecDepth 100000 in
theorem flags_lt (a b : Int) (w : World) (ha : InC a) (hb : InC b) (h : a < b) :
    Calls Tryz.prog 7 #[.int .i64 a, .int .i64 b] w fun e w' => e = .returned (.bool true) ∧ Keeps w w' := by
  have t1 : decide (a < b) = true := decide_eq_true (by omega)
  have t2 : (a == b) = false := by simp; omega
  have f1 : flagZ (decide (a < b)) = -1 := by rw [t1]; rfl
  have f2 : flagZ (a == b) = 0 := by rw [t2]; rfl
  have f3 : flagZ (decide (b < a)) = 0 := by rw [decide_eq_false (by omega)]; rfl
  have f4 : flagZ (a != b) = -1 := by rw [show (a != b) = true by simp; omega]; rfl
  have K1 : Hid (∀ A W, Stk W A 2 2 [a, b] → Calls Tryz.prog 12 #[.int .i64 57, .slice A 2 2] W (PuPost W [-1] 0)) := Lib.hid fun A W h => two_one 57 (by decide) (by decide) (by decide) rfl a b (-1) ha hb rfl (congrArg (fun x => [x]) f1) A W h
  have K2 : Hid (∀ A W, Stk W A 2 2 [a, b] → Calls Tryz.prog 12 #[.int .i64 55, .slice A 2 2] W (PuPost W [0] 0)) := Lib.hid fun A W h => two_one 55 (by decide) (by decide) (by decide) rfl a b (0) ha hb rfl (congrArg (fun x => [x]) f2) A W h
  have K3 : Hid (∀ A W, Stk W A 2 2 [a, b] → Calls Tryz.prog 12 #[.int .i64 58, .slice A 2 2] W (PuPost W [0] 0)) := Lib.hid fun A W h => two_one 58 (by decide) (by decide) (by decide) rfl a b (0) ha hb rfl (congrArg (fun x => [x]) f3) A W h
  have K4 : Hid (∀ B A W, Stk W B 2 2 [56, 60] → Stk W A 2 2 [a, b] → Calls Tryz.prog 14 #[.slice B 2 2, .slice A 2 2] W (PuPost W [0] 0)) := Lib.hid fun B A W h2 h1 => two_all [56, 60] 2 (by omega) a b [0] ha hb (flags_all a b _ f4 (0) rfl) B A W h2 h1
  clear f1 f2 f3 f4 ha hb
  go_enter Tryz.func7, Tryz.ntmps7
  go_wp2_with (first
    | (go_at_call 11; (with_reducible refine (pawake_any _).mono ?_); rintro e w1 ⟨rfl, hb⟩; have HB1 := Lib.hid hb; clear hb)
    | (go_at_call 14; have hs : Stk ((w4.alloc (.cells #[.int .i64 56, .int .i64 60] 3)).alloc (.cells #[.int .i64 a, .int .i64 b] 3)) (some ⟨w4.heap.size + 1, 0, none⟩) 2 2 [a, b] := stk_at _ _ [a, b] 2 _ (by simp) rfl (by decide); have hs2 : Stk ((w4.alloc (.cells #[.int .i64 56, .int .i64 60] 3)).alloc (.cells #[.int .i64 a, .int .i64 b] 3)) (some ⟨w4.heap.size, 0, none⟩) 2 2 [56, 60] := (stk_new w4 _ [56, 60] 2 rfl (by decide)).alloc _; (with_reducible refine (K4.out _ _ _ hs2 hs).mono ?_); rintro e w5 ⟨A5, n5, q5, rfl, ho, hb⟩; have hk := Keeps.trans (((Keeps.refl _).alloc _).alloc _) hb; obtain ⟨rfl, b5, o5, rfl, _, e5⟩ := stk1 ho; obtain ⟨_, b4, o4, rfl, _, e4⟩ := stk1 (HO4.out.keeps hk); obtain ⟨_, b3, o3, rfl, _, e3⟩ := stk1 (HO3.out.keeps (HK4.out.trans hk)); obtain ⟨_, b2, o2, rfl, _, e2⟩ := stk1 (HO2.out.keeps (HK3.out.trans (HK4.out.trans hk))); have HK := Lib.hid (HB1.out.trans (HK2.out.trans (HK3.out.trans (HK4.out.trans hk)))); clear ho hb hs hs2 hk)
    | (go_at_call 12; have hs : Stk (w1.alloc (.cells #[.int .i64 a, .int .i64 b] 3)) (some ⟨w1.heap.size, 0, none⟩) 2 2 [a, b] := stk_new _ _ _ 2 rfl (by decide); (with_reducible refine (K1.out _ _ hs).mono ?_); rintro e w2 ⟨A2, n2, q2, rfl, ho, hb⟩; have HO2 := Lib.hid ho; obtain rfl : 1 = n2 := ho.len; have HK2 := Lib.hid (Keeps.trans ((Keeps.refl _).alloc _) hb); clear ho hb hs)
    | (go_at_call 12; have hs : Stk (w2.alloc (.cells #[.int .i64 a, .int .i64 b] 3)) (some ⟨w2.heap.size, 0, none⟩) 2 2 [a, b] := stk_new _ _ _ 2 rfl (by decide); (with_reducible refine (K2.out _ _ hs).mono ?_); rintro e w3 ⟨A3, n3, q3, rfl, ho, hb⟩; have HO3 := Lib.hid ho; obtain rfl : 1 = n3 := ho.len; have HK3 := Lib.hid (Keeps.trans ((Keeps.refl _).alloc _) hb); clear ho hb hs)
    | (go_at_call 12; have hs : Stk (w3.alloc (.cells #[.int .i64 a, .int .i64 b] 3)) (some ⟨w3.heap.size, 0, none⟩) 2 2 [a, b] := stk_new _ _ _ 2 rfl (by decide); (with_reducible refine (K3.out _ _ hs).mono ?_); rintro e w4 ⟨A4, n4, q4, rfl, ho, hb⟩; have HO4 := Lib.hid ho; obtain rfl : 1 = n4 := ho.len; have HK4 := Lib.hid (Keeps.trans ((Keeps.refl _).alloc _) hb); clear ho hb hs))
  go_quiet (fail)
  go_wp2
  go_ret
  exact ⟨rfl, HK.out.drewN _⟩
set_option maxHeartbeats 1000000 in
set_option maxRecDepth 100000 in
theorem flags_eq (a : Int) (w : World) (ha : InC a) :
    Calls Tryz.prog 7 #[.int .i64 a, .int .i64 a] w fun e w' => e = .returned (.bool true) ∧ Keeps w w' := by
  have t1 : decide (a < a) = false := decide_eq_false (by omega)
  have t2 : (a == a) = true := by simp
  have f1 : flagZ (decide (a < a)) = 0 := by rw [t1]; rfl
  have f2 : flagZ (a == a) = -1 := by rw [t2]; rfl
  have f3 : flagZ (decide (a < a)) = 0 := by rw [decide_eq_false (by omega)]; rfl
  have f4 : flagZ (a != a) = 0 := by rw [show (a != a) = false by simp]; rfl
  have K1 : Hid (∀ A W, Stk W A 2 2 [a, a] → Calls Tryz.prog 12 #[.int .i64 57, .slice A 2 2] W (PuPost W [0] 0)) := Lib.hid fun A W h => two_one 57 (by decide) (by decide) (by decide) rfl a a (0) ha ha rfl (congrArg (fun x => [x]) f1) A W h
  have K2 : Hid (∀ A W, Stk W A 2 2 [a, a] → Calls Tryz.prog 12 #[.int .i64 55, .slice A 2 2] W (PuPost W [-1] 0)) := Lib.hid fun A W h => two_one 55 (by decide) (by decide) (by decide) rfl a a (-1) ha ha rfl (congrArg (fun x => [x]) f2) A W h
  have K3 : Hid (∀ A W, Stk W A 2 2 [a, a] → Calls Tryz.prog 12 #[.int .i64 58, .slice A 2 2] W (PuPost W [0] 0)) := Lib.hid fun A W h => two_one 58 (by decide) (by decide) (by decide) rfl a a (0) ha ha rfl (congrArg (fun x => [x]) f3) A W h
  have K4 : Hid (∀ B A W, Stk W B 2 2 [56, 60] → Stk W A 2 2 [a, a] → Calls Tryz.prog 14 #[.slice B 2 2, .slice A 2 2] W (PuPost W [-1] 0)) := Lib.hid fun B A W h2 h1 => two_all [56, 60] 2 (by omega) a a [-1] ha ha (flags_all a a _ f4 (-1) rfl) B A W h2 h1
  clear f1 f2 f3 f4 ha
  go_enter Tryz.func7, Tryz.ntmps7
  go_wp2_with (first
    | (go_at_call 11; (with_reducible refine (pawake_any _).mono ?_); rintro e w1 ⟨rfl, hb⟩; have HB1 := Lib.hid hb; clear hb)
    | (go_at_call 14; have hs : Stk ((w4.alloc (.cells #[.int .i64 56, .int .i64 60] 3)).alloc (.cells #[.int .i64 a, .int .i64 a] 3)) (some ⟨w4.heap.size + 1, 0, none⟩) 2 2 [a, a] := stk_at _ _ [a, a] 2 _ (by simp) rfl (by decide); have hs2 : Stk ((w4.alloc (.cells #[.int .i64 56, .int .i64 60] 3)).alloc (.cells #[.int .i64 a, .int .i64 a] 3)) (some ⟨w4.heap.size, 0, none⟩) 2 2 [56, 60] := (stk_new w4 _ [56, 60] 2 rfl (by decide)).alloc _; (with_reducible refine (K4.out _ _ _ hs2 hs).mono ?_); rintro e w5 ⟨A5, n5, q5, rfl, ho, hb⟩; have hk := Keeps.trans (((Keeps.refl _).alloc _).alloc _) hb; obtain ⟨rfl, b5, o5, rfl, _, e5⟩ := stk1 ho; obtain ⟨_, b4, o4, rfl, _, e4⟩ := stk1 (HO4.out.keeps hk); obtain ⟨_, b3, o3, rfl, _, e3⟩ := stk1 (HO3.out.keeps (HK4.out.trans hk)); obtain ⟨_, b2, o2, rfl, _, e2⟩ := stk1 (HO2.out.keeps (HK3.out.trans (HK4.out.trans hk))); have HK := Lib.hid (HB1.out.trans (HK2.out.trans (HK3.out.trans (HK4.out.trans hk)))); clear ho hb hs hs2 hk)
    | (go_at_call 12; have hs : Stk (w1.alloc (.cells #[.int .i64 a, .int .i64 a] 3)) (some ⟨w1.heap.size, 0, none⟩) 2 2 [a, a] := stk_new _ _ _ 2 rfl (by decide); (with_reducible refine (K1.out _ _ hs).mono ?_); rintro e w2 ⟨A2, n2, q2, rfl, ho, hb⟩; have HO2 := Lib.hid ho; obtain rfl : 1 = n2 := ho.len; have HK2 := Lib.hid (Keeps.trans ((Keeps.refl _).alloc _) hb); clear ho hb hs)
    | (go_at_call 12; have hs : Stk (w2.alloc (.cells #[.int .i64 a, .int .i64 a] 3)) (some ⟨w2.heap.size, 0, none⟩) 2 2 [a, a] := stk_new _ _ _ 2 rfl (by decide); (with_reducible refine (K2.out _ _ hs).mono ?_); rintro e w3 ⟨A3, n3, q3, rfl, ho, hb⟩; have HO3 := Lib.hid ho; obtain rfl : 1 = n3 := ho.len; have HK3 := Lib.hid (Keeps.trans ((Keeps.refl _).alloc _) hb); clear ho hb hs)
    | (go_at_call 12; have hs : Stk (w3.alloc (.cells #[.int .i64 a, .int .i64 a] 3)) (some ⟨w3.heap.size, 0, none⟩) 2 2 [a, a] := stk_new _ _ _ 2 rfl (by decide); (with_reducible refine (K3.out _ _ hs).mono ?_); rintro e w4 ⟨A4, n4, q4, rfl, ho, hb⟩; have HO4 := Lib.hid ho; obtain rfl : 1 = n4 := ho.len; have HK4 := Lib.hid (Keeps.trans ((Keeps.refl _).alloc _) hb); clear ho hb hs))
  go_quiet (fail)
  go_wp2
  go_ret
  exact ⟨rfl, HK.out.drewN _⟩
set_option maxHeartbeats 1000000 in
set_option maxRecDepth 100000 in
theorem flags_gt (a b : Int) (w : World) (ha : InC a) (hb : InC b) (h : b < a) :
    Calls Tryz.prog 7 #[.int .i64 a, .int .i64 b] w fun e w' => e = .returned (.bool true) ∧ Keeps w w' := by
  have t1 : decide (a < b) = false := decide_eq_false (by omega)
  have t2 : (a == b) = false := by simp; omega
  have f1 : flagZ (decide (a < b)) = 0 := by rw [t1]; rfl
  have f2 : flagZ (a == b) = 0 := by rw [t2]; rfl
  have f3 : flagZ (decide (b < a)) = -1 := by rw [decide_eq_true (by omega)]; rfl
  have f4 : flagZ (a != b) = -1 := by rw [show (a != b) = true by simp; omega]; rfl
  have K1 : Hid (∀ A W, Stk W A 2 2 [a, b] → Calls Tryz.prog 12 #[.int .i64 57, .slice A 2 2] W (PuPost W [0] 0)) := Lib.hid fun A W h => two_one 57 (by decide) (by decide) (by decide) rfl a b (0) ha hb rfl (congrArg (fun x => [x]) f1) A W h
  have K2 : Hid (∀ A W, Stk W A 2 2 [a, b] → Calls Tryz.prog 12 #[.int .i64 55, .slice A 2 2] W (PuPost W [0] 0)) := Lib.hid fun A W h => two_one 55 (by decide) (by decide) (by decide) rfl a b (0) ha hb rfl (congrArg (fun x => [x]) f2) A W h
  have K3 : Hid (∀ A W, Stk W A 2 2 [a, b] → Calls Tryz.prog 12 #[.int .i64 58, .slice A 2 2] W (PuPost W [-1] 0)) := Lib.hid fun A W h => two_one 58 (by decide) (by decide) (by decide) rfl a b (-1) ha hb rfl (congrArg (fun x => [x]) f3) A W h
  have K4 : Hid (∀ B A W, Stk W B 2 2 [56, 60] → Stk W A 2 2 [a, b] → Calls Tryz.prog 14 #[.slice B 2 2, .slice A 2 2] W (PuPost W [0] 0)) := Lib.hid fun B A W h2 h1 => two_all [56, 60] 2 (by omega) a b [0] ha hb (flags_all a b _ f4 (0) rfl) B A W h2 h1
  clear f1 f2 f3 f4 ha hb
  go_enter Tryz.func7, Tryz.ntmps7
  go_wp2_with (first
    | (go_at_call 11; (with_reducible refine (pawake_any _).mono ?_); rintro e w1 ⟨rfl, hb⟩; have HB1 := Lib.hid hb; clear hb)
    | (go_at_call 14; have hs : Stk ((w4.alloc (.cells #[.int .i64 56, .int .i64 60] 3)).alloc (.cells #[.int .i64 a, .int .i64 b] 3)) (some ⟨w4.heap.size + 1, 0, none⟩) 2 2 [a, b] := stk_at _ _ [a, b] 2 _ (by simp) rfl (by decide); have hs2 : Stk ((w4.alloc (.cells #[.int .i64 56, .int .i64 60] 3)).alloc (.cells #[.int .i64 a, .int .i64 b] 3)) (some ⟨w4.heap.size, 0, none⟩) 2 2 [56, 60] := (stk_new w4 _ [56, 60] 2 rfl (by decide)).alloc _; (with_reducible refine (K4.out _ _ _ hs2 hs).mono ?_); rintro e w5 ⟨A5, n5, q5, rfl, ho, hb⟩; have hk := Keeps.trans (((Keeps.refl _).alloc _).alloc _) hb; obtain ⟨rfl, b5, o5, rfl, _, e5⟩ := stk1 ho; obtain ⟨_, b4, o4, rfl, _, e4⟩ := stk1 (HO4.out.keeps hk); obtain ⟨_, b3, o3, rfl, _, e3⟩ := stk1 (HO3.out.keeps (HK4.out.trans hk)); obtain ⟨_, b2, o2, rfl, _, e2⟩ := stk1 (HO2.out.keeps (HK3.out.trans (HK4.out.trans hk))); have HK := Lib.hid (HB1.out.trans (HK2.out.trans (HK3.out.trans (HK4.out.trans hk)))); clear ho hb hs hs2 hk)
    | (go_at_call 12; have hs : Stk (w1.alloc (.cells #[.int .i64 a, .int .i64 b] 3)) (some ⟨w1.heap.size, 0, none⟩) 2 2 [a, b] := stk_new _ _ _ 2 rfl (by decide); (with_reducible refine (K1.out _ _ hs).mono ?_); rintro e w2 ⟨A2, n2, q2, rfl, ho, hb⟩; have HO2 := Lib.hid ho; obtain rfl : 1 = n2 := ho.len; have HK2 := Lib.hid (Keeps.trans ((Keeps.refl _).alloc _) hb); clear ho hb hs)
    | (go_at_call 12; have hs : Stk (w2.alloc (.cells #[.int .i64 a, .int .i64 b] 3)) (some ⟨w2.heap.size, 0, none⟩) 2 2 [a, b] := stk_new _ _ _ 2 rfl (by decide); (with_reducible refine (K2.out _ _ hs).mono ?_); rintro e w3 ⟨A3, n3, q3, rfl, ho, hb⟩; have HO3 := Lib.hid ho; obtain rfl : 1 = n3 := ho.len; have HK3 := Lib.hid (Keeps.trans ((Keeps.refl _).alloc _) hb); clear ho hb hs)
    | (go_at_call 12; have hs : Stk (w3.alloc (.cells #[.int .i64 a, .int .i64 b] 3)) (some ⟨w3.heap.size, 0, none⟩) 2 2 [a, b] := stk_new _ _ _ 2 rfl (by decide); (with_reducible refine (K3.out _ _ hs).mono ?_); rintro e w4 ⟨A4, n4, q4, rfl, ho, hb⟩; have HO4 := Lib.hid ho; obtain rfl : 1 = n4 := ho.len; have HK4 := Lib.hid (Keeps.trans ((Keeps.refl _).alloc _) hb); clear ho hb hs))
  go_quiet (fail)
  go_wp2
  go_ret
  exact ⟨rfl, HK.out.drewN _⟩
theorem pureFlags_walk (a b : Int) (w : World) (ha : InC a) (hb : InC b) :
    Calls Tryz.prog 7 #[.int .i64 a, .int .i64 b] w fun e w' => e = .returned (.bool true) ∧ Keeps w w' := by
  rcases Int.lt_trichotomy a b with h | h | h
  · exact flags_lt a b w ha hb h
  · subst h; exact flags_eq a w ha
  · exact flags_gt a b w ha hb h
end Go.Proofs.YtnlkggfgloblcaaGreat
