/-
  What the call Digit of package pic answers.
-/
import Derived.Test.YticeeckahdjjmaaPicCalls
namespace Go.Proofs.Yticeeckahdjjmaa
open Go.RowKit

/-- A memory does not lie in that block. -/
def Off (n : Nat) (A : Option Addr) (B : Nat) : Prop := 0 < n → ∀ a, A = some a → a.block ≠ B
theorem Mem.off {w : World} {A : Option Addr} {n c B : Nat} {l : List UInt8} {x y : Int} {t : TypeId} {fr : Nat × Nat} (h : Mem w A n c l) (hB : w.heap[B]? = some (.cells #[.int .i64 x, .int .i64 y] t fr)) : Off n A B := by
  intro hn a ha hab
  obtain ⟨b, o, e, hb, hc⟩ := h.2.2 hn
  rw [e] at ha
  cases ha
  simp only at hab
  subst hab
  have h0 := hc 0 (by rw [h.1]; exact hn)
  rw [cell_of_row w b (o + 0) _ t fr hB] at h0
  have h1 : ∀ v, (#[Value.int .i64 x, Value.int .i64 y] : Array Value)[o + 0]? = some v → ∃ z, v = .int .i64 z := by
    intro v hv
    match o, hv with
    | 0, hv => exact ⟨x, by simpa using hv.symm⟩
    | 1, hv => exact ⟨y, by simpa using hv.symm⟩
    | k + 2, hv => simp at hv
  obtain ⟨z, hz⟩ := h1 _ h0
  cases hz
theorem Mem.set {w : World} {A : Option Addr} {n c B o : Nat} {l : List UInt8} (h : Mem w A n c l) (hB : Off n A B) (v : Value) : Mem (w.setCell ⟨B, o, none⟩ v) A n c l := by
  refine ⟨h.1, h.2.1, fun hn => ?_⟩
  obtain ⟨b, o', e, hb, hc⟩ := h.2.2 hn
  have hne := hB hn _ e
  refine ⟨b, o', e, by simpa [World.setCell] using hb, fun j hj => ?_⟩
  rw [World.cell?_setCell_other _ _ _ _ (by intro h; simp only [Addr.mk.injEq] at h; exact hne h.1.symm)]
  exact hc j hj
theorem new_two (w : World) (o p : Obj) : ((w.alloc o).alloc p).heap[w.heap.size + 1]? = some p := by
  have h := heap_alloc_new (w.alloc o) p
  simpa using h
theorem Mem.drew {w : World} {A : Option Addr} {n c : Nat} {l : List UInt8} (h : Mem w A n c l) : Mem w.drew A n c l := h.keeps (Keeps.refl w).drew
/-- A memory, a double and a throw. -/
def DigPost (w : World) (n : Nat) (l : List UInt8) (k : Nat) (t : Int) (e : Ending) (w' : World) : Prop := ∃ A c, e = .returned (.tuple #[.slice A n c, .agg #[.int .i64 (dLo k), .int .i64 (dHi k)], .int .i64 t]) ∧ Mem w' A n c l ∧ Keeps w w'
theorem ret_mdt {A : Option Addr} {n c : Nat} {a b x y t : Int} (h : a = x) (k : b = y) : Ending.returned (.tuple #[.slice A n c, .agg #[.int .i64 a, .int .i64 b], .int .i64 t]) = .returned (.tuple #[.slice A n c, .agg #[.int .i64 x, .int .i64 y], .int .i64 t]) := by rw [h, k]
theorem dLo_0 : dLo ((0 : Nat) : Int) = 0 := by decide +kernel
theorem dHi_0 : dHi ((0 : Nat) : Int) = 0 := by decide +kernel
section
variable (A : Option Addr) (n c : Nat) (l : List UInt8) (w : World)
set_option maxHeartbeats 400000 in
theorem pdigit_base (u : Int) (q : Nat) (hn : n ≤ 1000000) (hm : Mem w A n c l) (h0 : ¬ bE l u = 0) :
    Calls Try.prog 12 #[.slice A n c, .int .i64 u, .agg #[.int .i64 (dLo q), .int .i64 (dHi q)]] w (DigPost w n l 0 (bE l u)) := by
  obtain ⟨t, ht⟩ : ∃ t, bE l u = t := ⟨_, rfl⟩
  obtain ⟨x, hx⟩ : ∃ x, bX l u = x := ⟨_, rfl⟩
  have hz : (t != 0) = true := by rw [← ht]; simpa using h0
  rw [ht]
  have HM := Lib.hid hm
  have HT := Lib.hid ht
  have HX := Lib.hid hx
  clear hm ht hx h0
  go_enter Try.func12, Try.ntmps12
  go_wp2_with (go_at_call 20; refine (pbase_is A n c l _ u x t hn (HM.out.keeps (((Keeps.refl w).alloc _).alloc _)) HX.out HT.out).mono ?_; rintro e w' ⟨rfl, rfl⟩)
  refine bodyPost_ret (v := .tuple #[.slice A n c, .agg #[.int .i64 0, .int .i64 0], .int .i64 t]) (by simp [results, Try.results12, go_sem]) rfl ⟨_, _, ret_mdt dLo_0.symm dHi_0.symm, ?_, ?_⟩
  · exact HM.out.keeps (((Keeps.refl w).alloc _).alloc _)
  · exact ((Keeps.refl w).alloc _).alloc _
set_option maxHeartbeats 1000000 in
theorem pdigit_hold (u : Int) (q b r k : Nat) (te : Int) (l' : List UInt8) (hq : q < 340282366920938463463374607431768211456) (hn : n ≤ 1000000) (hm : Mem w A n c l) (h0 : bE l u = 0) (hb : bX l u = (b : Int)) (h2 : 2 ≤ b) (h36 : b ≤ 36)
    (hr : q % b = r) (hk : q / b = k) (ht : hE l u = te) (hl : hL l u ((sgn r).toNat : Int) = l') (hz : (te != 0) = true) :
    Calls Try.prog 12 #[.slice A n c, .int .i64 u, .agg #[.int .i64 (dLo q), .int .i64 (dHi q)]] w (DigPost w n l 0 te) := by
  have hrb : r < b := by rw [← hr]; exact Nat.mod_lt _ (by omega)
  have HD := Lib.hid (pdivided_is q b r k hq h2 h36 hr hk)
  obtain ⟨S, hS⟩ : ∃ S : ByteArray, S = ⟨(sgL (r : Int)).toArray⟩ := ⟨_, rfl⟩
  have HS := Lib.hid hS
  rw [sgL_nat (by omega)] at hS
  have hz1 : S.size = 1 := by rw [hS]; rfl
  have hz2 : 0 < S.size := by omega
  have hz3 : ∀ k, S[(0 : Nat)]'k = sgn r := by intro k; subst hS; rfl
  have hv := u8_lt (sgn r)
  have v0 : (0 : Int) ≤ ((sgn r).toNat : Int) := by omega
  have v1 : ((sgn r).toNat : Int) ≤ 255 := by omega
  have HM := Lib.hid hm
  have H0 := Lib.hid h0
  have HX := Lib.hid hb
  have HT := Lib.hid ht
  have HL := Lib.hid hl
  clear hm h0 hb hr hk ht hl hS hrb hq
  go_enter Try.func12, Try.ntmps12
  go_wp2_with (first
    | (go_at_call 20; refine (pbase_is A n c l _ u b 0 hn (HM.out.keeps (((Keeps.refl w).alloc _).alloc _)) HX.out H0.out).mono ?_; rintro e w' ⟨rfl, rfl⟩)
    | (go_at_call 33; refine (HD.out _).mono ?_; rintro e w1 ⟨rfl, hw1⟩)
    | (go_at_call 34; refine (sign_is _ S HS.out _).mono ?_; rintro e w' ⟨rfl, rfl⟩)
    | (go_at_call 10; refine (phold_is A n c l _ u _ te l' hn (HM.out.keeps (((((Keeps.refl w).alloc _).alloc _).trans hw1).alloc _)) HT.out HL.out).mono ?_; rintro e w2 ⟨A2, c2, rfl, hm2, hw2⟩; have H2 := Lib.hid hm2; clear hm2; have KW := (((((Keeps.refl w).alloc _).alloc _).trans hw1).alloc _).trans hw2; obtain ⟨c0, c1, f0, f1⟩ := resK ((hw1.alloc _).trans hw2) (R := w.heap.size + 1) (by simp) ⟨by simp [go_sem]; rfl, by simp [go_sem]; rfl, by simp [go_sem], by simp [go_sem]⟩; obtain ⟨d0, d1, g0, g1⟩ := resK hw2 (R := w1.heap.size) (by simp) ⟨by simp [go_sem]; rfl, by simp [go_sem]; rfl, by simp [go_sem], by simp [go_sem]⟩))
  refine bodyPost_ret (v := .tuple #[.slice A n c, .agg #[.int .i64 0, .int .i64 0], .int .i64 te]) (by simp [results, Try.results12, go_sem, c0, c1]) rfl ⟨_, _, ret_mdt dLo_0.symm dHi_0.symm, ?_, ?_⟩
  · exact HM.out.keeps ((KW.setCell (by simp) _).setCell (by simp) _)
  · exact (KW.setCell (by simp) _).setCell (by simp) _
set_option maxHeartbeats 1000000 in
theorem pdigit_yes (u : Int) (q b r k : Nat) (l' : List UInt8) (hq : q < 340282366920938463463374607431768211456) (hn : n ≤ 1000000) (hm : Mem w A n c l) (h0 : bE l u = 0) (hb : bX l u = (b : Int)) (h2 : 2 ≤ b) (h36 : b ≤ 36)
    (hr : q % b = r) (hk : q / b = k) (ht : hE l u = 0) (hl : hL l u ((sgn r).toNat : Int) = l') :
    Calls Try.prog 12 #[.slice A n c, .int .i64 u, .agg #[.int .i64 (dLo q), .int .i64 (dHi q)]] w (DigPost w n l' k 0) := by
  have hrb : r < b := by rw [← hr]; exact Nat.mod_lt _ (by omega)
  have HD := Lib.hid (pdivided_is q b r k hq h2 h36 hr hk)
  obtain ⟨S, hS⟩ : ∃ S : ByteArray, S = ⟨(sgL (r : Int)).toArray⟩ := ⟨_, rfl⟩
  have HS := Lib.hid hS
  rw [sgL_nat (by omega)] at hS
  have hz1 : S.size = 1 := by rw [hS]; rfl
  have hz2 : 0 < S.size := by omega
  have hz3 : ∀ k, S[(0 : Nat)]'k = sgn r := by intro k; subst hS; rfl
  have hv := u8_lt (sgn r)
  have v0 : (0 : Int) ≤ ((sgn r).toNat : Int) := by omega
  have v1 : ((sgn r).toNat : Int) ≤ 255 := by omega
  have HM := Lib.hid hm
  have H0 := Lib.hid h0
  have HX := Lib.hid hb
  have HT := Lib.hid ht
  have HL := Lib.hid hl
  clear hm h0 hb hr hk ht hl hS hrb hq
  go_enter Try.func12, Try.ntmps12
  go_wp2_with (first
    | (go_at_call 20; refine (pbase_is A n c l _ u b 0 hn (HM.out.keeps (((Keeps.refl w).alloc _).alloc _)) HX.out H0.out).mono ?_; rintro e w' ⟨rfl, rfl⟩)
    | (go_at_call 33; refine (HD.out _).mono ?_; rintro e w1 ⟨rfl, hw1⟩)
    | (go_at_call 34; refine (sign_is _ S HS.out _).mono ?_; rintro e w' ⟨rfl, rfl⟩)
    | (go_at_call 10; refine (phold_is A n c l _ u _ 0 l' hn (HM.out.keeps (((((Keeps.refl w).alloc _).alloc _).trans hw1).alloc _)) HT.out HL.out).mono ?_; rintro e w2 ⟨A2, c2, rfl, hm2, hw2⟩; have H2 := Lib.hid hm2; clear hm2; have hB2 := ((hw1.alloc _).trans hw2).block (w.heap.size + 1) (by simp); have KW := (((((Keeps.refl w).alloc _).alloc _).trans hw1).alloc _).trans hw2; obtain ⟨c0, c1, f0, f1⟩ := resK ((hw1.alloc _).trans hw2) (R := w.heap.size + 1) (by simp) ⟨by simp [go_sem]; rfl, by simp [go_sem]; rfl, by simp [go_sem], by simp [go_sem]⟩; obtain ⟨d0, d1, g0, g1⟩ := resK hw2 (R := w1.heap.size) (by simp) ⟨by simp [go_sem]; rfl, by simp [go_sem]; rfl, by simp [go_sem], by simp [go_sem]⟩))
  go_region
  all_goals
    go_wp2
    refine bodyPost_ret (v := .tuple #[.slice A2 n c2, .agg #[.int .i64 (dLo k), .int .i64 (dHi k)], .int .i64 0]) (by simp [results, Try.results12, go_sem, c0, c1]) rfl ⟨_, _, rfl, ?_, ?_⟩
    · have hoff := Mem.off H2.out (hB2.trans (new_two _ _ _))
      exact ((H2.out.set hoff _).set hoff _).drew
    · exact ((KW.setCell (by simp) _).setCell (by simp) _).drew
theorem pdigit_any (u : Int) (q : Nat) (hq : q < 340282366920938463463374607431768211456) (hn : n ≤ 1000000) (hm : Mem w A n c l) :
    Calls Try.prog 12 #[.slice A n c, .int .i64 u, .agg #[.int .i64 (dLo q), .int .i64 (dHi q)]] w (DigPost w n (dL l u q) (dQ l u q) (dE l u)) := by
  by_cases h0 : bE l u = 0
  · obtain ⟨_, b2, b36, hbx⟩ := bE_ok h0
    obtain ⟨b, hb⟩ : ∃ b : Nat, bX l u = (b : Int) := ⟨(bX l u).toNat, by omega⟩
    have hbn : (bX l u).toNat = b := by omega
    by_cases h1 : hE l u = 0
    · have e1 : dE l u = 0 := by unfold dE; rw [if_pos h0, h1]
      have e2 : dL l u q = hL l u ((sgn (q % b)).toNat : Int) := by unfold dL; rw [if_pos e1, hbn]
      have e3 : dQ l u q = q / b := by unfold dQ; rw [if_pos e1, hbn]
      rw [e1, e2, e3]
      exact pdigit_yes A n c l w u q b _ _ _ hq hn hm h0 hb (by omega) (by omega) rfl rfl h1 rfl
    · have e1 : dE l u = hE l u := by unfold dE; rw [if_pos h0]
      have e2 : dL l u q = l := by unfold dL; rw [if_neg (by rw [e1]; exact h1)]
      have e3 : dQ l u q = 0 := by unfold dQ; rw [if_neg (by rw [e1]; exact h1)]
      rw [e1, e2, e3]
      exact pdigit_hold A n c l w u q b _ _ _ _ hq hn hm h0 hb (by omega) (by omega) rfl rfl rfl rfl (by simpa using h1)
  · have e1 : dE l u = bE l u := by unfold dE; rw [if_neg h0]
    have e2 : dL l u q = l := by unfold dL; rw [if_neg (by rw [e1]; exact h0)]
    have e3 : dQ l u q = 0 := by unfold dQ; rw [if_neg (by rw [e1]; exact h0)]
    rw [e1, e2, e3]
    exact pdigit_base A n c l w u q hn hm h0
theorem pdigit_is (u lo hi t : Int) (q k : Nat) (l' : List UInt8) (lo' hi' : Int) (h1 : dLo q = lo) (h2 : dHi q = hi) (ht : dE l u = t) (hl : dL l u q = l') (hk : dQ l u q = k) (k1 : dLo k = lo') (k2 : dHi k = hi') (hq : q < 340282366920938463463374607431768211456) (hn : n ≤ 1000000) (hm : Mem w A n c l) :
    Calls Try.prog 12 #[.slice A n c, .int .i64 u, .agg #[.int .i64 lo, .int .i64 hi]] w fun e w' => ∃ A' c', e = .returned (.tuple #[.slice A' n c', .agg #[.int .i64 lo', .int .i64 hi'], .int .i64 t]) ∧ Mem w' A' n c' l' ∧ Keeps w w' := by
  subst h1 h2 ht hl hk k1 k2; exact pdigit_any A n c l w u q hq hn hm
end
end Go.Proofs.Yticeeckahdjjmaa
