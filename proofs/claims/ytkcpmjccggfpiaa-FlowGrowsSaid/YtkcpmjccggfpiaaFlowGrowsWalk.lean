/-
  What is built grows (FlowGrows): its walk.
-/
import Derived.Test.YtkcpmjccggfpiaaFlowWw
import Derived.Test.YtkcpmjccggfpiaaFlowRdeep
namespace Go.Proofs.Ytkcpmjccggfpiaa
open Go.RowKit

set_option maxHeartbeats 4000000 in
theorem flowGrows_any (A B C : Option Addr) (n c m d k f : Nat) (b : Bd) (l : List UInt8) (W : World) (h : Bl W A n c B m d C k f b) :
    Calls Try.prog 7 #[.agg #[.slice A n c, .slice B m d, .slice C k f], .string ⟨l.toArray⟩] W fun e w' => e = .returned (.bool true) ∧ Below W.heap.size W w' := by
  have H := Lib.hid h
  have hpm := h.pm
  have LM := Lib.hid h.pm.len
  have LC := Lib.hid h.pc.len
  have X0 := Lib.hid (Bx.new W 25 (.slice A n c) (.slice B m d) (.slice C k f))
  have HB := Lib.hid (below_one W (.cells #[.slice A n c, .slice B m d, .slice C k f] 25))
  have hz := size_lit l
  obtain ⟨S, hS⟩ : ∃ S : ByteArray, S = ⟨l.toArray⟩ := ⟨_, rfl⟩
  rw [← hS] at hz ⊢
  have HS := Lib.hid hS
  clear h hpm hS
  go_enter Try.func7, Try.ntmps7
  go_upto_region 1 with (fail)
  have HL := Lib.hid (H.out.below HB.out)
  generalize W.alloc (.cells #[.slice A n c, .slice B m d, .slice C k f] 25) = W0 at *
  go_upto_region 2 with ((go_at_call 9; refine (awake_any _).mono ?_; rintro e w0 ⟨rfl, hb0⟩; have HV := Lib.hid hb0; clear hb0))
  have X1 := Lib.hid (X0.out.keep HV.out)
  have a0 := X1.out.c0; have a1 := X1.out.c1; have a2 := X1.out.c2; have af0 := X1.out.f0; have af1 := X1.out.f1; have af2 := X1.out.f2
  have hw0 := X1.out.lt
  cases hf : flFew b
  · have HF := Lib.hid hf
    clear hf
    go_wp2_with (go_at_call 10; refine (few_any _ _ _ _ _ _ _ _ _ b false _ (HL.out.below HV.out) HF.out).mono ?_; rintro e w1 ⟨rfl, hb1⟩; have HV := Lib.hid (below_then HV.out hb1); clear hb1)
    go_ret
    exact ⟨rfl, below_then HB.out HV.out⟩
  · have HF := Lib.hid hf
    have F200 := Lib.hid (flFew_few hf)
    clear hf
    have KF := Lib.hid (fun w' (h : Below W0.heap.size W0 w') => few_any A B C n c m d k f b true w' (HL.out.below h) HF.out)
    by_cases hl : 100 < l.length
    · have hl2 : (100 : Int) < (l.length : Int) := by omega
      go_wp2_with (go_at_call 10; refine (KF.out _ HV.out).mono ?_; rintro e w1 ⟨rfl, hb1⟩; have HV := Lib.hid (below_then HV.out hb1); clear hb1)
      go_ret
      exact ⟨rfl, below_then HB.out HV.out⟩
    · have hl2 : ¬ (100 : Int) < (l.length : Int) := by omega
      have KO := Lib.hid (fun w' (h : Below W0.heap.size W0 w') => ours_any A B C n c m d k f b w' (F200.out.mono (by omega)) (HL.out.below h))
      cases hs : flSane b
      · have HS2 := Lib.hid hs
        clear hs
        go_wp2_with (first
          | (go_at_call 10; refine (KF.out _ HV.out).mono ?_; rintro e w1 ⟨rfl, hb1⟩; have HV := Lib.hid (below_then HV.out hb1); have X2 := Lib.hid (X0.out.keep HV.out); clear hb1 a0 a1 a2 af0 af1 af2; have a0 := X2.out.c0; have a1 := X2.out.c1; have a2 := X2.out.c2; have af0 := X2.out.f0; have af1 := X2.out.f1; have af2 := X2.out.f2)
          | (go_at_call 12; refine (KO.out _ HV.out).mono ?_; rintro e w2 ⟨A2, n2, c2, B2, m2, d2, C2, k2, f2, rfl, h2, hb2⟩; have HV := Lib.hid (below_then HV.out hb2); have T2 := Lib.hid h2; clear h2 hb2)
          | (go_at_call 21; refine (sane_any _ _ _ _ _ _ _ _ _ b false HS2.out _ (by have := T2.out.pm.len; have := F200.out.2.1; omega) (by have := T2.out.po.len; have := F200.out.2.2; omega) T2.out.pc.len T2.out.pm T2.out.po).mono ?_; rintro e w3 ⟨rfl, hb3⟩; have HV := Lib.hid (below_then HV.out hb3); clear hb3))
        go_ret
        exact ⟨rfl, below_then HB.out HV.out⟩
      · have HS2 := Lib.hid hs
        obtain ⟨BB5, ok, E5, t5, q1, q2, tk, mk, f5⟩ := ww_any hs (F200.out.mono (by omega)) l (by omega)
        rw [← HS.out] at t5
        have TA5 := Lib.hid t5
        have Q1 := Lib.hid q1
        have Q2 := Lib.hid q2
        have TK := Lib.hid tk
        have MK := Lib.hid mk
        have F5 := Lib.hid f5
        have hn200 : n ≤ 200 := by rw [← LC.out]; exact F200.out.1
        have hm200 : m ≤ 200 := by rw [← LM.out]; exact F200.out.2.1
        clear hs t5 q1 q2 tk mk f5
        go_upto_region 4 with (first
          | (go_at_call 10; refine (KF.out _ HV.out).mono ?_; rintro e w1 ⟨rfl, hb1⟩; have HV := Lib.hid (below_then HV.out hb1); have X2 := Lib.hid (X0.out.keep HV.out); clear hb1 a0 a1 a2 af0 af1 af2; have a0 := X2.out.c0; have a1 := X2.out.c1; have a2 := X2.out.c2; have af0 := X2.out.f0; have af1 := X2.out.f1; have af2 := X2.out.f2)
          | (go_at_call 12; refine (KO.out _ HV.out).mono ?_; rintro e w2 ⟨A2, n2, c2, B2, m2, d2, C2, k2, f2, rfl, h2, hb2⟩; have HV := Lib.hid (below_then HV.out hb2); have T2 := Lib.hid h2; clear h2 hb2)
          | (go_at_call 21; refine (sane_any _ _ _ _ _ _ _ _ _ b true HS2.out _ (by have := T2.out.pm.len; have := F200.out.2.1; omega) (by have := T2.out.po.len; have := F200.out.2.2; omega) T2.out.pc.len T2.out.pm T2.out.po).mono ?_; rintro e w3 ⟨rfl, hb3⟩; have HV := Lib.hid (below_then HV.out hb3); clear hb3; have X3 := Lib.hid (X0.out.keep HV.out); clear a0 a1 a2 af0 af1 af2; have a0 := X3.out.c0; have a1 := X3.out.c1; have a2 := X3.out.c2; have af0 := X3.out.f0; have af1 := X3.out.f1; have af2 := X3.out.f2))
        go_upto_region 5 with (first
          | (go_at_call 12; (with_reducible refine (KO.out _ HV.out).mono ?_); rintro e wv ⟨Av, nv, cv, Bv, mv, dv, Cv, kv, fv, rfl, hv, hbv⟩; have HV := Lib.hid (below_then HV.out hbv); have T := Lib.hid hv; clear hv hbv)
          | (go_at_call 14; (with_reducible refine (TA5.out _ _ _ _ _ _ _ _ _ _ T.out).mono ?_); rintro e w1 ⟨A1, n1, c1, B1, m1, d1, C1, k1, f1, rfl, h1, hb1⟩; have HV := Lib.hid (below_then HV.out (below_then hb1 (below_one _ (.cells #[.slice A1 n1 c1, .slice B1 m1 d1, .slice C1 k1 f1] 30)))); have H1 := Lib.hid (h1.alloc (.cells #[.slice A1 n1 c1, .slice B1 m1 d1, .slice C1 k1 f1] 30)); have X1 := Lib.hid (Bx.new w1 30 (.slice A1 n1 c1) (.slice B1 m1 d1) (.slice C1 k1 f1)); clear h1 hb1))
        generalize w1.alloc (.cells #[.slice A1 n1 c1, .slice B1 m1 d1, .slice C1 k1 f1] 30) = W1 at *
        have X01 := Lib.hid (X0.out.keep HV.out)
        clear a0 a1 a2 af0 af1 af2
        have a0 := X01.out.c0; have a1 := X01.out.c1; have a2 := X01.out.c2; have af0 := X01.out.f0; have af1 := X01.out.f1; have af2 := X01.out.f2
        have hx01 := X01.out.lt
        have HV1 := Lib.hid HV.out
        have HLn := Lib.hid TK.out.grow.len
        have LC1 := Lib.hid H1.out.pc.len
        have LM1 := Lib.hid H1.out.pm.len
        have LO1 := Lib.hid H1.out.po.len
        obtain ⟨q, rfl⟩ : ∃ q, n1 = n + q := ⟨n1 - n, by have := HLn.out; have h1 := LC1.out; have h2 := LC.out; omega⟩
        have hq2 : q ≤ 2 := by have := HLn.out; have h1 := LC1.out; have h2 := LC.out; omega
        have hmm : m1 ≤ m + 1 ∧ m ≤ m1 + 2 := by have := MK.out; have h1 := LM1.out; have h2 := LM.out; omega
        have hk1 : k1 ≤ 5000 := by have := F5.out.2.2; have h1 := LO1.out; omega
        have z0 := X1.out.c0; have z1 := X1.out.c1; have z2 := X1.out.c2; have zf0 := X1.out.f0; have zf1 := X1.out.f1; have zf2 := X1.out.f2
        have hz1 := X1.out.lt
        cases ok
        · have hE : E5 = 0 := Q1.out rfl
          subst hE
          have hb : BB5 = b := Q2.out (by simp)
          obtain rfl : q = 0 := by have h1 := LC1.out; have h2 := LC.out; rw [hb] at h1; omega
          clear hb
          go_wp2
          go_ret
          exact ⟨rfl, below_then HB.out HV.out⟩
        · cases h5 : (E5 != 0)
          · have hE : E5 = 0 := by simpa using h5
            subst hE
            clear h5
            have KS := Lib.hid (fun w' (h : Below W1.heap.size W1 w') => sane_any A1 B1 C1 (n + q) c1 m1 d1 k1 f1 BB5 true TK.out.sane w' (by omega) (by omega) LC1.out (H1.out.pm.below h) (H1.out.po.below h))
            have i1 : decide ((q : Int) ≤ 2) = true := decide_eq_true (by omega)
            have i2 : decide ((m1 : Int) ≤ (m : Int) + 1) = true := decide_eq_true (by omega)
            have i3 : decide ((m : Int) ≤ (m1 : Int) + 2) = true := decide_eq_true (by omega)
            go_wp2
            go_loopw [10] (fun i wr => ∃ j : Nat, j ≤ n ∧ i = .int .i64 j ∧ Below W1.heap.size W1 wr) (fun i _ => ((n : Int) - intOf i).toNat)
            case atStart => exact ⟨0, by omega, rfl, Below.refl _ _⟩
            case round =>
              obtain ⟨j, hj, rfl, hb⟩ := hrel
              have HU := Lib.hid hb
              have R0 := Lib.hid (X01.out.keep hb)
              have R1 := Lib.hid (X1.out.keep hb)
              clear hb a0 a1 a2 af0 af1 af2 z0 z1 z2 zf0 zf1 zf2
              have a0 := R0.out.c0; have a1 := R0.out.c1; have a2 := R0.out.c2; have af0 := R0.out.f0; have af1 := R0.out.f1; have af2 := R0.out.f2
              have z0 := R1.out.c0; have z1 := R1.out.c1; have z2 := R1.out.c2; have zf0 := R1.out.f0; have zf1 := R1.out.f1; have zf2 := R1.out.f2
              have hr0 := R0.out.lt
              have hr1 := R1.out.lt
              by_cases hlt : j < n
              · have hlt2 : j < n + q := by omega
                have hjl : j < b.code.length := by rw [LC.out]; exact hlt
                obtain ⟨xb, xo, rfl, hbl, e0, e1⟩ := (HL.out.pc.below (below_then HV1.out HU.out)).at_ j hlt
                obtain ⟨yb, yo, rfl, hbl', f0, f1⟩ := (H1.out.pc.below HU.out).at_ j hlt2
                have HG := Lib.hid (grow_get TK.out.grow j hjl)
                rw [HG.out] at f0
                generalize (b.code.getD j (0, 0)).1 = x at *
                go_wp2
                go_quiet (fail)
                go_wp2
                go_roundw
                case rel => exact ⟨j + 1, by omega, by go_num, below_drewN HU.out _⟩
                case measure => simp [intOf]; omega
              · obtain rfl : j = n := by omega
                go_wp2_with (go_at_call 21; refine (KS.out _ HU.out).mono ?_; rintro e w3 ⟨rfl, hb3⟩; have HU := Lib.hid (below_then HU.out hb3); clear hb3; have R0 := Lib.hid (X01.out.keep HU.out); have R1 := Lib.hid (X1.out.keep HU.out); clear a0 a1 a2 af0 af1 af2 z0 z1 z2 zf0 zf1 zf2; have a0 := R0.out.c0; have a1 := R0.out.c1; have a2 := R0.out.c2; have af0 := R0.out.f0; have af1 := R0.out.f1; have af2 := R0.out.f2; have z0 := R1.out.c0; have z1 := R1.out.c1; have z2 := R1.out.c2; have zf0 := R1.out.f0; have zf1 := R1.out.f1; have zf2 := R1.out.f2)
                go_ret
                exact ⟨rfl, below_then HB.out (below_then HV1.out HU.out)⟩
          · have hne : E5 ≠ 0 := by simpa using h5
            have hb : BB5 = b := Q2.out (fun h => hne h.2)
            obtain rfl : q = 0 := by have h1 := LC1.out; have h2 := LC.out; rw [hb] at h1; omega
            clear hb hne
            go_wp2
            go_ret
            exact ⟨rfl, below_then HB.out HV.out⟩
end Go.Proofs.Ytkcpmjccggfpiaa
