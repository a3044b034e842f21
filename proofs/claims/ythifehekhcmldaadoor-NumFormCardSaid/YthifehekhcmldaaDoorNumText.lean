/-
  What the calls digits, DText, Text and UText of package num answer: a number's text by a base.
-/
import Derived.Test.YthifehekhcmldaaDoorNumDigits
import Derived.Laws.StructEq
import Derived.Laws.Concat
namespace Go.Proofs.YthifehekhcmldaaDoor
open Go.RowKit

/-- The double's block. -/
def DblIn (w : World) (x : Int) (wr : World) : Prop :=
  Keeps w wr ∧ w.heap.size < wr.heap.size ∧ wr.cell? ⟨w.heap.size, 0, none⟩ = some (.int .i64 (dLo x)) ∧ wr.cell? ⟨w.heap.size, 1, none⟩ = some (.int .i64 (dHi x)) ∧ wr.frozen? ⟨w.heap.size, 0, none⟩ = false ∧ wr.frozen? ⟨w.heap.size, 1, none⟩ = false
theorem DblIn.keeps {w wr w' : World} {x : Int} (h : DblIn w x wr) (g : Keeps wr w') : DblIn w x w' := by
  obtain ⟨hk, hz, c0, c1, f0, f1⟩ := h
  exact ⟨hk.trans g, Nat.lt_of_lt_of_le hz g.size, (g.cell hz).trans c0, (g.cell hz).trans c1, (g.frozen hz).trans f0, (g.frozen hz).trans f1⟩
theorem DblIn.store {w wr : World} {x : Int} (h : DblIn w x wr) (y : Int) : DblIn w y ((wr.setCell ⟨w.heap.size, 0, none⟩ (.int .i64 (dLo y))).setCell ⟨w.heap.size, 1, none⟩ (.int .i64 (dHi y))) := by
  obtain ⟨hk, hz, c0, c1, f0, f1⟩ := h
  refine ⟨(hk.setCell (by simp) _).setCell (by simp) _, by simpa [World.setCell] using hz, ?_, ?_, ?_, ?_⟩
  all_goals simp [go_sem, c0, c1, f0, f1]
theorem DblIn.start (w : World) (x : Int) (t : TypeId) : DblIn w x (w.alloc (.cells #[.int .i64 (dLo x), .int .i64 (dHi x)] t)) :=
  ⟨(Keeps.refl w).alloc _, by simp, by simp [go_sem], by simp [go_sem], by simp [go_sem], by simp [go_sem]⟩
/-- The number that lies there. -/
def qAt (wr : World) (n : Nat) : Nat :=
  match wr.cell? ⟨n, 0, none⟩, wr.cell? ⟨n, 1, none⟩ with
  | some (.int _ l), some (.int _ h) => (dV l h % 340282366920938463463374607431768211456).toNat
  | _, _ => 0
theorem DblIn.qAt {w wr : World} {q : Nat} (h : DblIn w q wr) (hq : q < 340282366920938463463374607431768211456) : qAt wr w.heap.size = q := by
  obtain ⟨_, _, c0, c1, _, _⟩ := h
  have e : dV (dLo q) (dHi q) % 340282366920938463463374607431768211456 = q := by unfold dV dLo dHi wrap64; omega
  unfold Go.Proofs.YthifehekhcmldaaDoor.qAt; rw [c0, c1]; simp only; rw [e]; simp
/-- What holds at each round's head: T is told, and the digits of q are not. -/
def DigSt (w : World) (b : Nat) (U : List UInt8) (t : Value) (wr : World) : Prop :=
  ∃ (q : Nat) (T : List UInt8), t = .string ⟨T.toArray⟩ ∧ q < 340282366920938463463374607431768211456 ∧ U = uL b q ++ T ∧ DblIn w q wr
theorem sign_is (v : Int) (S : ByteArray) (h : S = ⟨(sgL v).toArray⟩) (w : World) :
    Calls Tryd.prog 15 #[.int .i64 v] w fun e w' => e = .returned (.string S) ∧ w = w' := h ▸ sign_any v w
theorem d_zero {q : Nat} (hq : q < 340282366920938463463374607431768211456) (h : (dLo q == 0) = true) (k : (dHi q == 0) = true) : q = 0 := by
  have h' : dLo q = 0 := by simpa using h
  have k' : dHi q = 0 := by simpa using k
  unfold dLo wrap64 at h'; unfold dHi wrap64 at k'; omega
theorem sgL_nat {v : Nat} (h : v < 36) : sgL v = [sgn v] := by unfold sgL; rw [if_pos (by omega)]; rfl
theorem divided_is (q b r k : Nat) (hq : q < 340282366920938463463374607431768211456) (hb : baB b = true) (hr : q % b = r) (hk : q / b = k) (w : World) :
    Calls Tryd.prog 33 #[.agg #[.int .i64 (dLo q), .int .i64 (dHi q)], .int .i64 b] w fun e w' => e = .returned (.tuple #[.int .i64 r, .agg #[.int .i64 (dLo k), .int .i64 (dHi k)]]) ∧ Grown w w' := by
  subst hr; subst hk
  have h := divided_any q b (by omega) (by omega) hb w
  rw [Int.natCast_emod, Int.natCast_ediv]
  exact h
set_option maxHeartbeats 1000000 in
theorem ndigits_yes (x : Int) (b : Nat) (hb : baB b = true) (w : World) :
    Calls Tryd.prog 24 #[.agg #[.int .i64 (dLo x), .int .i64 (dHi x)], .int .i64 b] w fun e w' => e = .returned (.string ⟨(uT b (x % 340282366920938463463374607431768211456).toNat).toArray⟩) ∧ Keeps w w' := by
  have hb2 := baB_iff.1 hb
  obtain ⟨u, hu⟩ : ∃ u : Nat, (x % 340282366920938463463374607431768211456).toNat = u := ⟨_, rfl⟩
  have hul : u < 340282366920938463463374607431768211456 := by omega
  have hlo : dLo x = dLo u := dLo_congr (by omega)
  have hhi : dHi x = dHi u := dHi_congr (by omega)
  rw [hu, hlo, hhi]
  clear hlo hhi hu
  obtain ⟨U, hU⟩ : ∃ U, uT b u = U := ⟨_, rfl⟩
  have hum : u % b < b := Nat.mod_lt _ (by omega)
  obtain ⟨r0, hr0⟩ : ∃ r, u % b = r := ⟨_, rfl⟩
  obtain ⟨k0, hk0⟩ : ∃ r, u / b = r := ⟨_, rfl⟩
  rw [hr0] at hum
  have HK : Hid (k0 < 340282366920938463463374607431768211456) := Lib.hid (by rw [← hk0]; have := Nat.div_le_self u b; omega)
  have HU : Hid (U = uL b k0 ++ [sgn r0]) := Lib.hid (by rw [← hU, ← hr0, ← hk0]; exact uT_last (by omega))
  have HL : Hid (U.length ≤ 128) := Lib.hid (by rw [← hU]; exact uT_len (by omega) 127 u (by omega))
  rw [hU]
  clear hU
  have HB := Lib.hid hb
  obtain ⟨A, hA⟩ : ∃ A : ByteArray, A = ⟨(sgL (r0 : Int)).toArray⟩ := ⟨_, rfl⟩
  have HA := Lib.hid hA
  have HA' : Hid (A = ⟨[sgn r0].toArray⟩) := Lib.hid (by rw [hA, sgL_nat (by omega)])
  have HQ := Lib.hid (divided_is u b r0 k0 hul hb hr0 hk0)
  clear hA hb hr0 hk0
  go_enter Tryd.func24, Tryd.ntmps24
  go_wp2_with (first
    | (go_at_call 25; refine (isBase_is b true HB.out _).mono ?_; rintro e w' ⟨rfl, rfl⟩)
    | (go_at_call 33; refine (HQ.out _).mono ?_; rintro e w1 ⟨rfl, hw1⟩; have HJ := Lib.hid ((DblIn.start w u _).keeps (Keeps.of_grown hw1)); obtain ⟨_, _, m0, m1, n0, n1⟩ := HJ.out)
    | (go_at_call 15; refine (sign_is _ A HA.out _).mono ?_; rintro e w' ⟨rfl, rfl⟩))
  go_loopw [6] (fun t wr => DigSt w b U t wr) (fun _ wr => qAt wr w.heap.size)
  case atStart =>
    have h := HJ.out.store k0
    exact ⟨k0, [sgn r0], by rw [HA'.out], HK.out, HU.out, h⟩
  case round =>
    obtain ⟨q, T, rfl, hq, hUT, hin⟩ := hrel
    have HP := Lib.hid (hin.qAt hq)
    by_cases h0 : q = 0
    · subst h0
      have HT : Hid (U = T) := Lib.hid (by rw [hUT]; rfl)
      have e0 : dLo ((0 : Nat) : Int) = 0 := by decide +kernel
      have e1 : dHi ((0 : Nat) : Int) = 0 := by decide +kernel
      obtain ⟨hk, hz, c0, c1, f0, f1⟩ := hin
      rw [e0] at c0; rw [e1] at c1
      clear hUT e0 e1
      go_wp2
      go_ret
      exact ⟨ret_str (by rw [HT.out]), hk⟩
    · have hmq : q % b < b := Nat.mod_lt _ (by omega)
      obtain ⟨r1, hr1⟩ : ∃ r, q % b = r := ⟨_, rfl⟩
      obtain ⟨k1, hk1⟩ : ∃ r, q / b = r := ⟨_, rfl⟩
      rw [hr1] at hmq
      have HT : Hid (U = uL b k1 ++ (sgn r1 :: T)) := Lib.hid (by rw [hUT, ← hr1, ← hk1]; exact uL_step (by omega) h0 T)
      have hlen : T.length ≤ 128 := by have h := HL.out; rw [hUT, List.length_append] at h; omega
      obtain ⟨A2, hA⟩ : ∃ A : ByteArray, A = ⟨(sgL (r1 : Int)).toArray⟩ := ⟨_, rfl⟩
      obtain ⟨B2, hB⟩ : ∃ A : ByteArray, A = ⟨T.toArray⟩ := ⟨_, rfl⟩
      have HA2 := Lib.hid hA
      have HC : Hid (A2 ++ B2 = ⟨(sgn r1 :: T).toArray⟩) := Lib.hid (by rw [hA, hB, sgL_nat (by omega), ByteArray.mk_append_mk]; rfl)
      have hsz : ¬ 9223372036854775807 < A2.size + B2.size := by rw [hA, hB, size_mk, size_mk, sgL_nat (by omega)]; simp; omega
      rw [← hB]
      have HQ2 := Lib.hid (divided_is q b r1 k1 hq HB.out hr1 hk1)
      have HDV : Hid (k1 < q ∧ k1 < 340282366920938463463374607431768211456) := Lib.hid (by rw [← hk1]; have := Nat.div_lt_self (n := q) (k := b) (by omega) (by omega); omega)
      have HIN := Lib.hid hin
      obtain ⟨hk, hz, c0, c1, f0, f1⟩ := hin
      have hne : ¬ ((dLo q == 0) = true ∧ (dHi q == 0) = true) := fun h => h0 (d_zero hq h.1 h.2)
      obtain ⟨lo, hlo⟩ : ∃ x, dLo (q : Int) = x := ⟨_, rfl⟩
      obtain ⟨hi, hhi⟩ : ∃ x, dHi (q : Int) = x := ⟨_, rfl⟩
      rw [hlo] at c0 HQ2 hne
      rw [hhi] at c1 HQ2 hne
      clear hA hB hUT h0 hr1 hk1 hlo hhi hq hul
      cases hl : (lo == 0) <;> cases hh : (hi == 0)
      case true.true => exact absurd ⟨hl, hh⟩ hne
      all_goals
        clear hne
        go_wp2_with (first
          | (go_at_call 33; refine (HQ2.out _).mono ?_; rintro e w2 ⟨rfl, hw2⟩; have HJ2 := Lib.hid (HIN.out.keeps (Keeps.of_grown hw2)); obtain ⟨_, _, m0', m1', n0', n1'⟩ := HJ2.out)
          | (go_at_call 15; refine (sign_is _ A2 HA2.out _).mono ?_; rintro e w' ⟨rfl, rfl⟩))
        go_roundw
        case rel =>
          have h := HJ2.out.store k1
          exact ⟨k1, sgn r1 :: T, by rw [HC.out], HDV.out.2, HT.out, h⟩
        case measure =>
          have h := HJ2.out.store k1
          have h2 := DblIn.qAt (q := k1) h HDV.out.2
          have e1 := HP.out
          rw [e1, h2]
          exact HDV.out.1
end Go.Proofs.YthifehekhcmldaaDoor
