/-
  The call of the statement PureBits answers true at every two cells; of what was there nothing has changed.
-/
import Derived.Test.YtnlkggfgloblcaaGreatPureFlagsWalk
import Derived.Test.YtnlkggfgloblcaaGreatPureBitsMath
namespace Go.Proofs.YtnlkggfgloblcaaGreat
open Go.RowKit

set_option maxHeartbeats 2000000 in
set_option maxRecDepth 100000 in
theorem bits_at (a b x y z S : Int) (w : World) (ha : InC a) (hb : InC b) (f1 : bits .and .i64 a b = x) (f2 : bits .or .i64 a b = y) (f3 : bits .xor .i64 a b = z) (hS : wrap64 (a + b) = S) (hxy : wrap64 (x + y) = S) (hyx : wrap64 (y - x) = z) :
    Calls Tryz.prog 10 #[.int .i64 a, .int .i64 b] w fun e w' => e = .returned (.bool true) ∧ Keeps w w' := by
  have K0 := bits_all ha hb
  rw [f2] at K0
  have K1 : Hid (∀ A W, Stk W A 2 2 [a, b] → Calls Tryz.prog 12 #[.int .i64 49, .slice A 2 2] W (PuPost W [x] 0)) := Lib.hid fun A W h => two_one 49 (by decide) (by decide) (by decide) rfl a b x ha hb rfl (congrArg (fun x => [x]) f1) A W h
  have K2 : Hid (∀ A W, Stk W A 2 2 [a, b] → Calls Tryz.prog 12 #[.int .i64 50, .slice A 2 2] W (PuPost W [y] 0)) := Lib.hid fun A W h => two_one 50 (by decide) (by decide) (by decide) rfl a b y ha hb rfl (congrArg (fun x => [x]) f2) A W h
  have K3 : Hid (∀ A W, Stk W A 2 2 [a, b] → Calls Tryz.prog 12 #[.int .i64 51, .slice A 2 2] W (PuPost W [z] 0)) := Lib.hid fun A W h => two_one 51 (by decide) (by decide) (by decide) rfl a b z ha hb rfl (congrArg (fun x => [x]) f3) A W h
  have K4 : Hid (∀ B A W, Stk W B 5 5 [52, 20, 52, 49, 52] → Stk W A 2 2 [a, b] → Calls Tryz.prog 14 #[.slice B 5 5, .slice A 2 2] W (PuPost W [y] 0)) := Lib.hid fun B A W h2 h1 => two_all [52, 20, 52, 49, 52] 5 (by omega) a b [y] ha hb K0 B A W h2 h1
  have s1 : IntKind.i64.wrap (a + b) = S := (wrapi64 _).trans hS
  have s2 : IntKind.i64.wrap (x + y) = S := (wrapi64 _).trans hxy
  have s3 : IntKind.i64.wrap (y - x) = z := (wrapi64 _).trans hyx
  clear f1 f2 f3 ha hb K0 hS hxy hyx
  go_enter Tryz.func10, Tryz.ntmps10
  go_wp2_with (first
    | (go_at_call 11; (with_reducible refine (pawake_any _).mono ?_); rintro e w1 ⟨rfl, hb⟩; have HB1 := Lib.hid hb; clear hb)
    | (go_at_call 14; have hs : Stk ((w4.alloc (.cells #[.int .i64 52, .int .i64 20, .int .i64 52, .int .i64 49, .int .i64 52] 3)).alloc (.cells #[.int .i64 a, .int .i64 b] 3)) (some ⟨w4.heap.size + 1, 0, none⟩) 2 2 [a, b] := stk_at _ _ [a, b] 2 _ (by simp) rfl (by decide); have hs2 : Stk ((w4.alloc (.cells #[.int .i64 52, .int .i64 20, .int .i64 52, .int .i64 49, .int .i64 52] 3)).alloc (.cells #[.int .i64 a, .int .i64 b] 3)) (some ⟨w4.heap.size, 0, none⟩) 5 5 [52, 20, 52, 49, 52] := (stk_new w4 _ [52, 20, 52, 49, 52] 5 rfl (by decide)).alloc _; (with_reducible refine (K4.out _ _ _ hs2 hs).mono ?_); rintro e w5 ⟨A5, n5, q5, rfl, ho, hb⟩; have hk := Keeps.trans (((Keeps.refl _).alloc _).alloc _) hb; obtain ⟨rfl, b5, o5, rfl, _, e5⟩ := stk1 ho; obtain ⟨_, b4, o4, rfl, _, e4⟩ := stk1 (HO4.out.keeps hk); obtain ⟨_, b3, o3, rfl, _, e3⟩ := stk1 (HO3.out.keeps (HK4.out.trans hk)); obtain ⟨_, b2, o2, rfl, _, e2⟩ := stk1 (HO2.out.keeps (HK3.out.trans (HK4.out.trans hk))); have HK := Lib.hid (HB1.out.trans (HK2.out.trans (HK3.out.trans (HK4.out.trans hk)))); clear ho hb hs hs2 hk)
    | (go_at_call 12; have hs : Stk (w1.alloc (.cells #[.int .i64 a, .int .i64 b] 3)) (some ⟨w1.heap.size, 0, none⟩) 2 2 [a, b] := stk_new _ _ _ 2 rfl (by decide); (with_reducible refine (K1.out _ _ hs).mono ?_); rintro e w2 ⟨A2, n2, q2, rfl, ho, hb⟩; have HO2 := Lib.hid ho; obtain rfl : 1 = n2 := ho.len; have HK2 := Lib.hid (Keeps.trans ((Keeps.refl _).alloc _) hb); clear ho hb hs)
    | (go_at_call 12; have hs : Stk (w2.alloc (.cells #[.int .i64 a, .int .i64 b] 3)) (some ⟨w2.heap.size, 0, none⟩) 2 2 [a, b] := stk_new _ _ _ 2 rfl (by decide); (with_reducible refine (K2.out _ _ hs).mono ?_); rintro e w3 ⟨A3, n3, q3, rfl, ho, hb⟩; have HO3 := Lib.hid ho; obtain rfl : 1 = n3 := ho.len; have HK3 := Lib.hid (Keeps.trans ((Keeps.refl _).alloc _) hb); clear ho hb hs)
    | (go_at_call 12; have hs : Stk (w3.alloc (.cells #[.int .i64 a, .int .i64 b] 3)) (some ⟨w3.heap.size, 0, none⟩) 2 2 [a, b] := stk_new _ _ _ 2 rfl (by decide); (with_reducible refine (K3.out _ _ hs).mono ?_); rintro e w4 ⟨A4, n4, q4, rfl, ho, hb⟩; have HO4 := Lib.hid ho; obtain rfl : 1 = n4 := ho.len; have HK4 := Lib.hid (Keeps.trans ((Keeps.refl _).alloc _) hb); clear ho hb hs))
  go_quiet (fail)
  go_wp2
  go_ret
  exact ⟨rfl, HK.out.drewN _⟩
theorem pureBits_walk (a b : Int) (w : World) (ha : InC a) (hb : InC b) :
    Calls Tryz.prog 10 #[.int .i64 a, .int .i64 b] w fun e w' => e = .returned (.bool true) ∧ Keeps w w' :=
  bits_at a b _ _ _ _ w ha hb rfl rfl rfl rfl (bits_sum ha hb) (bits_diff a b)
end Go.Proofs.YtnlkggfgloblcaaGreat
