/-
  What the call digits of package dbl answers: the quotient without signs, found digit by digit, and what is left. The world has new blocks alone.
-/
import Derived.Test.YticeeckahdjjmaaDblMul
import Derived.Test.YticeeckahdjjmaaDblDiv
import Derived.WalkMore
import Derived.ScopeJumps
namespace Go.Proofs.Yticeeckahdjjmaa
open Go.RowKit
/-- What holds at each jump back: k digits are found. -/
def DgJ (x u X U : Int) (w : World) (a : Act) (w' : World) : Prop :=
  Grown w w' ∧ ∃ (k : Nat) (u9 u10 u11 u12 u13 u14 u15 u16 u17 u18 u19 u20 u21 u22 u23 u24 u25 u26 u27 u28 u29 u30 u31 u32 u33 u34 u35 u36 u37 u38 u39 u40 : Value), 1 ≤ k ∧ k < 64 ∧ a = { tmps := #[.agg #[.int .i64 (dLo x), .int .i64 (dHi x)], .int .i64 u, .pointer (some ⟨w.heap.size, 0, none⟩), undef, .int .i64 0, .int .i64 0, .int .i64 (dgL X U k), .int .i64 (dgQ X U k), .int .i64 (64 - (k : Int)), u9, u10, u11, u12, u13, u14, u15, u16, u17, u18, u19, u20, u21, u22, u23, u24, u25, u26, u27, u28, u29, u30, u31, u32, u33, u34, u35, u36, u37, u38, u39, u40], defers := [] }
theorem DgJ.mk {x u X U : Int} {w w' : World} {a : Act} (hg : Grown w w') (k : Nat) (h0 : 1 ≤ k) (h1 : k < 64) (u9 u10 u11 u12 u13 u14 u15 u16 u17 u18 u19 u20 u21 u22 u23 u24 u25 u26 u27 u28 u29 u30 u31 u32 u33 u34 u35 u36 u37 u38 u39 u40 : Value) {l q n : Int} (hl : l = dgL X U k) (hq : q = dgQ X U k) (hn : n = 64 - (k : Int))
    (ha : a = { tmps := #[.agg #[.int .i64 (dLo x), .int .i64 (dHi x)], .int .i64 u, .pointer (some ⟨w.heap.size, 0, none⟩), undef, .int .i64 0, .int .i64 0, .int .i64 l, .int .i64 q, .int .i64 n, u9, u10, u11, u12, u13, u14, u15, u16, u17, u18, u19, u20, u21, u22, u23, u24, u25, u26, u27, u28, u29, u30, u31, u32, u33, u34, u35, u36, u37, u38, u39, u40], defers := [] }) : DgJ x u X U w a w' := by
  subst hl hq hn
  exact ⟨hg, k, u9, u10, u11, u12, u13, u14, u15, u16, u17, u18, u19, u20, u21, u22, u23, u24, u25, u26, u27, u28, u29, u30, u31, u32, u33, u34, u35, u36, u37, u38, u39, u40, h0, h1, ha⟩
theorem dg_step (X U u : Int) (k : Nat) (hk : k < 64) (hX : 0 ≤ X) (hU : 0 < U) (hH : X / 18446744073709551616 < U) (eU : U = u % 18446744073709551616) :
    (decide (dgL X U k < 0) = true ∧ wrap64 (bits .or .i64 (cShl (dgL X U k) 1) (cShr (dgQ X U k) 63) - u) = dgL X U (k + 1) ∧ wrap64 (cShl (dgQ X U k) 1 + 1) = dgQ X U (k + 1)) ∨
    (decide (dgL X U k < 0) = false ∧ cUlt (bits .or .i64 (cShl (dgL X U k) 1) (cShr (dgQ X U k) 63)) u = false ∧ wrap64 (bits .or .i64 (cShl (dgL X U k) 1) (cShr (dgQ X U k) 63) - u) = dgL X U (k + 1) ∧ wrap64 (cShl (dgQ X U k) 1 + 1) = dgQ X U (k + 1)) ∨
    (decide (dgL X U k < 0) = false ∧ cUlt (bits .or .i64 (cShl (dgL X U k) 1) (cShr (dgQ X U k) 63)) u = true ∧ bits .or .i64 (cShl (dgL X U k) 1) (cShr (dgQ X U k) 63) = dgL X U (k + 1) ∧ cShl (dgQ X U k) 1 = dgQ X U (k + 1)) := by
  obtain ⟨L, Q, b, Z, h0, h1, h2, h3, h4, h5, eL, eQ, hy, hn⟩ := dg_parts X U k hk hX hU hH
  subst eU
  obtain ⟨l', e1, e2, e3, e4, e5, e6⟩ := digit_step L Q b Z u h0 h1 h2 h3 h4 h5
  rw [eL, eQ, e1, e3]
  by_cases hc : u % 18446744073709551616 ≤ 2 * L + b
  · obtain ⟨g1, g2⟩ := hy hc
    rw [g1, g2]
    have e4' : (decide (wrap64 L < 0) || !cUlt l' u) = true := by rw [e4]; simpa using hc
    cases ha : decide (wrap64 L < 0)
    · rw [ha] at e4'
      have : cUlt l' u = false := by simpa using e4'
      exact .inr (.inl ⟨rfl, this, e5, e6⟩)
    · exact .inl ⟨rfl, e5, e6⟩
  · obtain ⟨g1, g2⟩ := hn hc
    rw [g1, g2]
    have e4' : (decide (wrap64 L < 0) || !cUlt l' u) = false := by rw [e4]; simpa using hc
    cases ha : decide (wrap64 L < 0)
    · rw [ha] at e4'
      have : cUlt l' u = true := by simpa using e4'
      exact .inr (.inr ⟨rfl, this, e2, rfl⟩)
    · rw [ha] at e4'; simp at e4'
theorem dg_first (x u : Int) (hH : x % 340282366920938463463374607431768211456 / 18446744073709551616 < u % 18446744073709551616) :
    dHi x = dgL (x % 340282366920938463463374607431768211456) (u % 18446744073709551616) 0 ∧ dLo x = dgQ (x % 340282366920938463463374607431768211456) (u % 18446744073709551616) 0 := by
  unfold dgL dgQ
  rw [show (2 : Int) ^ (64 - 0) = 18446744073709551616 by decide, show (2 : Int) ^ 0 = 1 by decide, Int.emod_eq_of_lt (by omega) hH, Int.ediv_eq_zero_of_lt (by omega) hH]
  unfold dHi dLo wrap64
  omega
theorem dg_last (X U : Int) : dgL X U 64 = wrap64 (X % U) ∧ dgQ X U 64 = wrap64 (X / U) := by
  unfold dgL dgQ
  simp
theorem num_of (k : Nat) : (64 : Int) - k - 1 = 64 - ((k + 1 : Nat) : Int) := by omega

set_option maxRecDepth 100000 in
set_option maxHeartbeats 1000000 in
theorem digits_walk (x u X U : Int) (hl0 : dHi x = dgL X U 0) (hq0 : dLo x = dgQ X U 0) (hX : 0 ≤ X) (hU : 0 < U) (eU : U = u % 18446744073709551616) (hH : X / 18446744073709551616 < U) (w : World) :
    Calls Try.prog 73 #[.agg #[.int .i64 (dLo x), .int .i64 (dHi x)], .int .i64 u] w fun e w' => e = .returned (.tuple #[.int .i64 (dgL X U 64), .int .i64 (dgQ X U 64)]) ∧ Grown w w' := by
  have HQ0 := Lib.hid hq0
  have HL0 := Lib.hid hl0
  have HU := Lib.hid eU
  have HH := Lib.hid (And.intro hX (And.intro hU hH))
  clear hl0 hq0 eU hX hU hH
  go_enter Try.func73, Try.ntmps73
  go_wp2
  refine wp_scope_jumps 0 (DgJ x u X U w) (fun a' _ => (intOf (a'.tmps.getD 8 undef)).toNat) rfl ?_ ?_
  · have h0 := dg_step X U u 0 (by omega) HH.out.1 HH.out.2.1 HH.out.2.2 HU.out
    rw [← HL0.out, ← HQ0.out] at h0
    rcases h0 with ⟨d1, d2, d3⟩ | ⟨d1, d4, d2, d3⟩ | ⟨d1, d4, d2, d3⟩
    · have HD := Lib.hid (And.intro d2 d3)
      clear d2 d3
      go_wp2
      go_quiet (fail)
      go_wp2
      go_step3
      go_wp2_with (first
          | (go_at_call 65; refine (shl_any _ _ _).mono ?_; rintro e w' ⟨rfl, rfl⟩)
          | (go_at_call 55; refine (shr_any _ _ _).mono ?_; rintro e w' ⟨rfl, rfl⟩)
          | (go_at_call 63; refine (ult_any _ _ _).mono ?_; rintro e w' ⟨rfl, rfl⟩))
      go_step3
      exact ⟨rfl, DgJ.mk ((Grown.refl w).alloc _ _) 1 (by omega) (by omega) _ _ _ _ _ _ _ _ _ _ _ _ _ _ _ _ _ _ _ _ _ _ _ _ _ _ _ _ _ _ _ _ HD.out.1 HD.out.2 rfl rfl⟩
    · have HD := Lib.hid (And.intro d2 d3)
      clear d2 d3
      go_wp2
      go_quiet (fail)
      go_wp2
      go_step3
      go_wp2_with (first
          | (go_at_call 65; refine (shl_any _ _ _).mono ?_; rintro e w' ⟨rfl, rfl⟩)
          | (go_at_call 55; refine (shr_any _ _ _).mono ?_; rintro e w' ⟨rfl, rfl⟩)
          | (go_at_call 63; refine (ult_any _ _ _).mono ?_; rintro e w' ⟨rfl, rfl⟩))
      go_step3
      exact ⟨rfl, DgJ.mk ((Grown.refl w).alloc _ _) 1 (by omega) (by omega) _ _ _ _ _ _ _ _ _ _ _ _ _ _ _ _ _ _ _ _ _ _ _ _ _ _ _ _ _ _ _ _ HD.out.1 HD.out.2 rfl rfl⟩
    · have HD := Lib.hid (And.intro d2 d3)
      clear d2 d3
      go_wp2
      go_quiet (fail)
      go_wp2
      go_step3
      go_wp2_with (first
          | (go_at_call 65; refine (shl_any _ _ _).mono ?_; rintro e w' ⟨rfl, rfl⟩)
          | (go_at_call 55; refine (shr_any _ _ _).mono ?_; rintro e w' ⟨rfl, rfl⟩)
          | (go_at_call 63; refine (ult_any _ _ _).mono ?_; rintro e w' ⟨rfl, rfl⟩))
      go_step3
      exact ⟨rfl, DgJ.mk ((Grown.refl w).alloc _ _) 1 (by omega) (by omega) _ _ _ _ _ _ _ _ _ _ _ _ _ _ _ _ _ _ _ _ _ _ _ _ _ _ _ _ _ _ _ _ HD.out.1 HD.out.2 rfl rfl⟩
  · rintro a' w' ⟨hg, k, u9, u10, u11, u12, u13, u14, u15, u16, u17, u18, u19, u20, u21, u22, u23, u24, u25, u26, u27, u28, u29, u30, u31, u32, u33, u34, u35, u36, u37, u38, u39, u40, h0, h1, rfl⟩
    rcases dg_step X U u k h1 HH.out.1 HH.out.2.1 HH.out.2.2 HU.out with ⟨d1, d2, d3⟩ | ⟨d1, d4, d2, d3⟩ | ⟨d1, d4, d2, d3⟩
    · have HD := Lib.hid (And.intro d2 d3)
      clear d2 d3
      by_cases hk : k + 1 < 64
      · have hk' : (0 : Int) < 64 - (k : Int) - 1 := by omega
        go_wp2_with (first
          | (go_at_call 65; refine (shl_any _ _ _).mono ?_; rintro e w' ⟨rfl, rfl⟩)
          | (go_at_call 55; refine (shr_any _ _ _).mono ?_; rintro e w' ⟨rfl, rfl⟩)
          | (go_at_call 63; refine (ult_any _ _ _).mono ?_; rintro e w' ⟨rfl, rfl⟩))
        go_step3
        refine ⟨rfl, DgJ.mk hg (k + 1) (by omega) (by omega) _ _ _ _ _ _ _ _ _ _ _ _ _ _ _ _ _ _ _ _ _ _ _ _ _ _ _ _ _ _ _ _ HD.out.1 HD.out.2 (num_of k) rfl, ?_⟩
        simp [intOf]
        omega
      · have hk' : ¬ (0 : Int) < 64 - (k : Int) - 1 := by omega
        have HK : Hid (k + 1 = 64) := by show k + 1 = 64; omega
        go_wp2_with (first
          | (go_at_call 65; refine (shl_any _ _ _).mono ?_; rintro e w' ⟨rfl, rfl⟩)
          | (go_at_call 55; refine (shr_any _ _ _).mono ?_; rintro e w' ⟨rfl, rfl⟩)
          | (go_at_call 63; refine (ult_any _ _ _).mono ?_; rintro e w' ⟨rfl, rfl⟩))
        simp only [Exit.jump]
        go_ret2
        exact ⟨by rw [← HK.out, ← HD.out.1, ← HD.out.2]; rfl, hg⟩
    · have HD := Lib.hid (And.intro d2 d3)
      clear d2 d3
      by_cases hk : k + 1 < 64
      · have hk' : (0 : Int) < 64 - (k : Int) - 1 := by omega
        go_wp2_with (first
          | (go_at_call 65; refine (shl_any _ _ _).mono ?_; rintro e w' ⟨rfl, rfl⟩)
          | (go_at_call 55; refine (shr_any _ _ _).mono ?_; rintro e w' ⟨rfl, rfl⟩)
          | (go_at_call 63; refine (ult_any _ _ _).mono ?_; rintro e w' ⟨rfl, rfl⟩))
        go_step3
        refine ⟨rfl, DgJ.mk hg (k + 1) (by omega) (by omega) _ _ _ _ _ _ _ _ _ _ _ _ _ _ _ _ _ _ _ _ _ _ _ _ _ _ _ _ _ _ _ _ HD.out.1 HD.out.2 (num_of k) rfl, ?_⟩
        simp [intOf]
        omega
      · have hk' : ¬ (0 : Int) < 64 - (k : Int) - 1 := by omega
        have HK : Hid (k + 1 = 64) := by show k + 1 = 64; omega
        go_wp2_with (first
          | (go_at_call 65; refine (shl_any _ _ _).mono ?_; rintro e w' ⟨rfl, rfl⟩)
          | (go_at_call 55; refine (shr_any _ _ _).mono ?_; rintro e w' ⟨rfl, rfl⟩)
          | (go_at_call 63; refine (ult_any _ _ _).mono ?_; rintro e w' ⟨rfl, rfl⟩))
        simp only [Exit.jump]
        go_ret2
        exact ⟨by rw [← HK.out, ← HD.out.1, ← HD.out.2]; rfl, hg⟩
    · have HD := Lib.hid (And.intro d2 d3)
      clear d2 d3
      by_cases hk : k + 1 < 64
      · have hk' : (0 : Int) < 64 - (k : Int) - 1 := by omega
        go_wp2_with (first
          | (go_at_call 65; refine (shl_any _ _ _).mono ?_; rintro e w' ⟨rfl, rfl⟩)
          | (go_at_call 55; refine (shr_any _ _ _).mono ?_; rintro e w' ⟨rfl, rfl⟩)
          | (go_at_call 63; refine (ult_any _ _ _).mono ?_; rintro e w' ⟨rfl, rfl⟩))
        go_step3
        refine ⟨rfl, DgJ.mk hg (k + 1) (by omega) (by omega) _ _ _ _ _ _ _ _ _ _ _ _ _ _ _ _ _ _ _ _ _ _ _ _ _ _ _ _ _ _ _ _ HD.out.1 HD.out.2 (num_of k) rfl, ?_⟩
        simp [intOf]
        omega
      · have hk' : ¬ (0 : Int) < 64 - (k : Int) - 1 := by omega
        have HK : Hid (k + 1 = 64) := by show k + 1 = 64; omega
        go_wp2_with (first
          | (go_at_call 65; refine (shl_any _ _ _).mono ?_; rintro e w' ⟨rfl, rfl⟩)
          | (go_at_call 55; refine (shr_any _ _ _).mono ?_; rintro e w' ⟨rfl, rfl⟩)
          | (go_at_call 63; refine (ult_any _ _ _).mono ?_; rintro e w' ⟨rfl, rfl⟩))
        simp only [Exit.jump]
        go_ret2
        exact ⟨by rw [← HK.out, ← HD.out.1, ← HD.out.2]; rfl, hg⟩

theorem digits_any (x u : Int) (hH : x % 340282366920938463463374607431768211456 / 18446744073709551616 < u % 18446744073709551616) (w : World) :
    Calls Try.prog 73 #[.agg #[.int .i64 (dLo x), .int .i64 (dHi x)], .int .i64 u] w fun e w' => e = .returned (.tuple #[.int .i64 (wrap64 (x % 340282366920938463463374607431768211456 % (u % 18446744073709551616))), .int .i64 (wrap64 (x % 340282366920938463463374607431768211456 / (u % 18446744073709551616)))]) ∧ Grown w w' := by
  have h0 : 0 < u % 18446744073709551616 := by omega
  obtain ⟨h1, h2⟩ := dg_first x u hH
  obtain ⟨h3, h4⟩ := dg_last (x % 340282366920938463463374607431768211456) (u % 18446744073709551616)
  have h := digits_walk x u _ _ h1 h2 (by omega) h0 rfl hH w
  rw [h3, h4] at h
  exact h
end Go.Proofs.Yticeeckahdjjmaa
