/-
  What is laid in two parts is laid at once (FlowRows): its walk.
-/
import Derived.Test.YtkcpmjccggfpiaaFlowSame
import Derived.Test.YtkcpmjccggfpiaaFlowFacts
namespace Go.Proofs.Ytkcpmjccggfpiaa
open Go.RowKit

theorem Few.of3 {N : Nat} {l : List (Int × Int)} (h : l.length ≤ N) : Few N ⟨l, [], []⟩ := ⟨h, by simp, by simp⟩
theorem snd_code {l : List (Int × Int)} (h : l.length ≤ 4096) : flSnd ⟨l, [], []⟩ = ⟨l, [], []⟩ := snd_of ((sane_iff _).2 ⟨h, by simp, by simp⟩)
theorem emit_code (A B C : Option Addr) (n c m d k f : Nat) (Y : Option Addr) (p q : Nat) (l x : List (Int × Int)) (w : World) (hl : l.length + x.length ≤ 4096) (h : Bl w A n c B m d C k f ⟨l, [], []⟩) (hx : Prs w Y p q x) :
    Calls Try.prog 11 #[.agg #[.slice A n c, .slice B m d, .slice C k f], .slice Y p q] w (BtPost w ⟨l ++ x, [], []⟩ 0) := by
  have h2 := emit_any A B C n c m d k f ⟨l, [], []⟩ Y p q x w (Few.of3 (by omega)) (by have := hx.len; omega) h hx
  rw [snd_code (by omega), layB_of (by simp; omega), layE_of (by simp; omega)] at h2
  exact h2
theorem end_code (A B C : Option Addr) (n c m d k f : Nat) (l : List (Int × Int)) (w : World) (hl : l.length + 1 ≤ 4096) (h : Bl w A n c B m d C k f ⟨l, [], []⟩) :
    Calls Try.prog 16 #[.agg #[.slice A n c, .slice B m d, .slice C k f]] w (EnPost w (l ++ [(4, 0)]) 0) := by
  have h2 := end_any A B C n c m d k f ⟨l, [], []⟩ w (Few.of3 (by omega)) h
  have he : finE ⟨l, [], []⟩ = 0 := by
    unfold finE
    simp
    exact layE_of (by simp; omega)
  rw [snd_code (by omega), he] at h2
  unfold finL at h2
  rw [if_pos he] at h2
  exact h2
theorem own_nil {E : TypeId} {W w : World} {A : Option Addr} {n c : Nat} {l : List (Int × Int)} (h : OwnP E W w A (0 + n) c ([] ++ l)) : OwnP E W w A n c l := by
  rw [Nat.zero_add, List.nil_append] at h
  exact h
set_option maxHeartbeats 2000000 in
theorem flowRows_any (A : Option Addr) (n c : Nat) (l : List (Int × Int)) (B : Option Addr) (m d : Nat) (x : List (Int × Int)) (W : World) (h1 : Prs W A n c l) (h2 : Prs W B m d x) :
    Calls Try.prog 8 #[.slice A n c, .slice B m d] W fun e w' => e = .returned (.bool true) ∧ Below W.heap.size W w' := by
  have IA := Lib.hid h1
  have IB := Lib.hid h2
  have L1 := Lib.hid h1.len
  have L2 := Lib.hid h2.len
  clear h1 h2
  go_enter Try.func8, Try.ntmps8
  go_upto_region 2 with ((go_at_call 9; refine (awake_any _).mono ?_; rintro e w0 ⟨rfl, hb0⟩; have HB0 := Lib.hid hb0; clear hb0))
  by_cases hn : 300 < n
  · have hd : (300 : Int) < (n : Int) := by omega
    go_wp2
    go_ret
    exact ⟨rfl, HB0.out⟩
  · have hd : ¬ (300 : Int) < (n : Int) := by omega
    by_cases hm : 300 < m
    · have hd2 : (300 : Int) < (m : Int) := by omega
      go_wp2
      go_ret
      exact ⟨rfl, HB0.out⟩
    · have hd2 : ¬ (300 : Int) < (m : Int) := by omega
      have hl1 : l.length ≤ 300 := by rw [L1.out]; omega
      have hl2 : x.length ≤ 300 := by rw [L2.out]; omega
      go_upto_region 4 with (fail)
      go_upto_region 5 with ((go_at_call 11; refine (emit_code _ _ _ _ _ _ _ _ _ _ _ _ [] l _ (by simp; omega) Bl.nil (IA.out.below HB0.out)).mono ?_; rintro e w1 ⟨A1, n1, c1, B1, m1, d1, C1, k1, f1, rfl, h1, hb1⟩; have HC1 := Lib.hid (below_then hb1 (below_one _ (.cells #[.slice A1 n1 c1, .slice B1 m1 d1, .slice C1 k1 f1] 30))); have HB1 := Lib.hid (below_then HB0.out HC1.out); have H1 := Lib.hid (h1.alloc (.cells #[.slice A1 n1 c1, .slice B1 m1 d1, .slice C1 k1 f1] 30)); have X1 := Lib.hid (Bx.new w1 30 (.slice A1 n1 c1) (.slice B1 m1 d1) (.slice C1 k1 f1)); clear h1 hb1))
      generalize w1.alloc (.cells #[.slice A1 n1 c1, .slice B1 m1 d1, .slice C1 k1 f1] 30) = W1 at *
      have a0 := X1.out.c0; have a1 := X1.out.c1; have a2 := X1.out.c2; have af0 := X1.out.f0; have af1 := X1.out.f1; have af2 := X1.out.f2
      go_upto_region 6 with ((go_at_call 11; refine (emit_code _ _ _ _ _ _ _ _ _ _ _ _ l x _ (by omega) H1.out (IB.out.below HB1.out)).mono ?_; rintro e w2 ⟨A2, n2, c2, B2, m2, d2, C2, k2, f2, rfl, h2, hb2⟩; have HC2 := Lib.hid (below_then hb2 (below_one _ (.cells #[.slice A2 n2 c2, .slice B2 m2 d2, .slice C2 k2 f2] 30))); have HB2 := Lib.hid (below_then HB1.out HC2.out); have H2 := Lib.hid (h2.alloc (.cells #[.slice A2 n2 c2, .slice B2 m2 d2, .slice C2 k2 f2] 30)); have X2 := Lib.hid (Bx.new w2 30 (.slice A2 n2 c2) (.slice B2 m2 d2) (.slice C2 k2 f2)); clear h2 hb2))
      generalize w2.alloc (.cells #[.slice A2 n2 c2, .slice B2 m2 d2, .slice C2 k2 f2] 30) = W2 at *
      clear a0 a1 a2 af0 af1 af2
      go_upto_region 7 with ((at_builtin; refine wpList_app ptI (W := W2) rfl (.tmp 37) (.tmp 38) rfl rfl rfl (OwnP.made _ _) ((IA.out.below HB2.out).alloc _) (by omega) ?_; intro A3 c3 w3 hw3 _; have HW3 := Lib.hid (own_nil hw3); clear hw3))
      go_upto_region 8 with ((at_builtin; refine wpList_app ptI (W := W2) rfl (.tmp 40) (.tmp 41) rfl rfl rfl HW3.out (IB.out.below (below_then HB2.out HW3.out.below)) (by omega) ?_; intro A4 c4 w4 hw4 _; have HW4 := Lib.hid hw4; clear hw4))
      have HB4 := Lib.hid (below_then HB2.out HW4.out.below)
      have X24 := Lib.hid (X2.out.keep HW4.out.below)
      clear X2
      go_upto_region 9 with ((go_at_call 11; refine (emit_code _ _ _ _ _ _ _ _ _ _ _ _ [] (l ++ x) _ (by simp; omega) Bl.nil HW4.out.prs).mono ?_; rintro e w5 ⟨A5, n5, c5, B5, m5, d5, C5, k5, f5, rfl, h5, hb5⟩; have HC5 := Lib.hid (below_then hb5 (below_one _ (.cells #[.slice A5 n5 c5, .slice B5 m5 d5, .slice C5 k5 f5] 30))); have HB5 := Lib.hid (below_then HB4.out HC5.out); have H5 := Lib.hid (h5.alloc (.cells #[.slice A5 n5 c5, .slice B5 m5 d5, .slice C5 k5 f5] 30)); have X5 := Lib.hid (Bx.new w5 30 (.slice A5 n5 c5) (.slice B5 m5 d5) (.slice C5 k5 f5)); clear h5 hb5))
      generalize w5.alloc (.cells #[.slice A5 n5 c5, .slice B5 m5 d5, .slice C5 k5 f5] 30) = W5 at *
      have X25 := Lib.hid (X24.out.keep HC5.out)
      have a0 := X25.out.c0; have a1 := X25.out.c1; have a2 := X25.out.c2; have af0 := X25.out.f0; have af1 := X25.out.f1; have af2 := X25.out.f2
      have HP5 := Lib.hid (HW4.out.prs.below HC5.out)
      have HQ2 := Lib.hid (H2.out.below (below_then HW4.out.below HC5.out))
      clear HW3 HW4 X1 H1 H2
      go_upto_region 10 with ((go_at_call 16; refine (end_code _ _ _ _ _ _ _ _ _ (l ++ x) _ (by simp; omega) HQ2.out).mono ?_; rintro e w6 ⟨A6, n6, c6, rfl, h6, hb6⟩; have HC6 := Lib.hid hb6; have H6 := Lib.hid h6; clear h6 hb6))
      have HB6 := Lib.hid (below_then HB5.out HC6.out)
      have X26 := Lib.hid (X25.out.keep HC6.out)
      have X56 := Lib.hid (X5.out.keep HC6.out)
      have HP6 := Lib.hid (HP5.out.below HC6.out)
      have HQ6 := Lib.hid (HQ2.out.below HC6.out)
      have HR6 : Hid (Bl w6 A5 n5 c5 B5 m5 d5 C5 k5 f5 ⟨l ++ x, [], []⟩) := Lib.hid ((H5.out.below HC6.out).as rfl)
      have ll : (l ++ x).length = n + m := by rw [List.length_append, L1.out, L2.out]
      obtain rfl : n + m + 1 = n6 := by have := H6.out.len; rw [List.length_append, ll] at this; exact this
      obtain ⟨hs1, hs2⟩ := H6.out.head ptI (n + m) (by omega)
      have hs3 : ∀ W : World, (Instr.slice 22 (.slice A6 (n + m + 1) c6) none (some (.int .i64 ((n : Int) + (m : Int)))) none).run Try.prog W = .ok (.slice A6 (n + m) c6) W := fun W => by have := hs1 W; simpa using this
      have HS2 : Hid (Prs w6 A6 (n + m) c6 (l ++ x)) := Lib.hid (hs2.as (by rw [List.take_append_of_le_length (by omega), List.take_of_length_le (by omega)]))
      clear hs1 hs2 a0 a1 a2 af0 af1 af2 X25 X5 HP5 HQ2 H5
      have a0 := X26.out.c0; have a1 := X26.out.c1; have a2 := X26.out.c2; have af0 := X26.out.f0; have af1 := X26.out.f1; have af2 := X26.out.f2
      have z0 := X56.out.c0; have z1 := X56.out.c1; have z2 := X56.out.c2; have zf0 := X56.out.f0; have zf1 := X56.out.f1; have zf2 := X56.out.f2
      have FF : Hid (Few 50000 ⟨l ++ x, [], []⟩) := Lib.hid (Few.of3 (by omega))
      have SS : Hid (flSame ⟨l ++ x, [], []⟩ ⟨l ++ x, [], []⟩ = true) := Lib.hid (flSame_self _)
      generalize l ++ x = y at *
      have K7 := Lib.hid (fun w' (h : Below w6.heap.size w6 w') => theirs_any A2 B2 C2 n2 c2 m2 d2 k2 f2 ⟨y, [], []⟩ w' FF.out (HQ6.out.below h))
      have K8 := Lib.hid (fun w' (h : Below w6.heap.size w6 w') => theirs_any A5 B5 C5 n5 c5 m5 d5 k5 f5 ⟨y, [], []⟩ w' FF.out (HR6.out.below h))
      have K9 := Lib.hid (fun w' (h : Below w6.heap.size w6 w') => code_any A6 A4 (n + m) c6 (n + m) c4 y y true w' (by omega) (by omega) (HS2.out.below h) (HP6.out.below h) (by simp))
      have HV : Hid (Below w6.heap.size w6 w6.drew) := Lib.hid (Below.refl _ _).drew
      go_upto_region 12 with (fail)
      go_region_held3 (fun w' => Below w6.heap.size w6 w' ∧ (w'.cell? ⟨w2.heap.size, 0, none⟩ = some (.slice A2 n2 c2) ∧ w'.cell? ⟨w2.heap.size, 1, none⟩ = some (.slice B2 m2 d2) ∧ w'.cell? ⟨w2.heap.size, 2, none⟩ = some (.slice C2 k2 f2)) ∧ w'.cell? ⟨w5.heap.size, 0, none⟩ = some (.slice A5 n5 c5) ∧ w'.cell? ⟨w5.heap.size, 1, none⟩ = some (.slice B5 m5 d5) ∧ w'.cell? ⟨w5.heap.size, 2, none⟩ = some (.slice C5 k5 f5)) (first | assumption | exact ⟨HV.out, ⟨(X26.out.keep HV.out).c0, (X26.out.keep HV.out).c1, (X26.out.keep HV.out).c2⟩, (X56.out.keep HV.out).c0, (X56.out.keep HV.out).c1, (X56.out.keep HV.out).c2⟩)
        (first
          | (go_at_call 19; (with_reducible refine (K7.out _ HV.out).mono ?_); rintro e w7 ⟨A7, n7, c7, B7, m7, d7, C7, k7, f7, rfl, h7, hb7⟩; have HV := Lib.hid (below_then HV.out hb7); have T7 := Lib.hid h7; clear h7 hb7)
          | (go_at_call 19; (with_reducible refine (K8.out _ HV.out).mono ?_); rintro e w8 ⟨A8, n8, c8, B8, m8, d8, C8, k8, f8, rfl, h8, hb8⟩; have HV := Lib.hid (below_then HV.out hb8); have T8 := Lib.hid h8; have T78 := Lib.hid (T7.out.below hb8); clear h8 hb8)
          | (go_at_call 18; refine (same_any A7 B7 C7 A8 B8 C8 n7 c7 m7 d7 k7 f7 n8 c8 m8 d8 k8 f8 _ _ true _ FF.out FF.out T78.out T8.out SS.out).mono ?_; rintro e w9 ⟨rfl, hb9⟩; have HV := Lib.hid (below_then HV.out hb9); clear hb9)
          | (go_at_call 20; refine (K9.out _ HV.out).mono ?_; rintro e w10 ⟨rfl, hb10⟩; have HV := Lib.hid (below_then HV.out hb10); clear hb10))
      go_wp2
      go_ret
      exact ⟨rfl, below_then HB6.out HV.out⟩
end Go.Proofs.Ytkcpmjccggfpiaa
