/-
  What the calls isBase, Sign, divided, digits and DText of package num answer (put together by wip/gen/pic_num.py out of NumCalls, NumHead, NumDigits, NumText, NumTexts).
-/
import Derived.Test.YticeeckahdjjmaaNumMath
import Derived.Test.YticeeckahdjjmaaDblDivs
import Derived.Test.YticeeckahdjjmaaKeeps
import Derived.WalkKit
import Derived.Lib.Hide
import Derived.Deep.QuietTactic
import Derived.BigQuiet
import Derived.Laws.StructEq
import Derived.Laws.Concat
namespace Go.Proofs.Yticeeckahdjjmaa
open Go.RowKit
theorem size_mk (l : List UInt8) : (⟨l.toArray⟩ : ByteArray).size = l.length := by simp [ByteArray.size]
theorem grown_lt {a b : World} (h : Grown a b) {n : Nat} (k : n < a.heap.size) : n < b.heap.size := Nat.lt_of_lt_of_le k h.2.2
theorem isBase_any (b : Int) (w : World) :
    Calls Try.prog 38 #[.int .i64 b] w fun e w' => e = .returned (.bool (baB b)) ∧ w = w' := by
  have hb : baB b = (decide (2 ≤ b) && decide (b ≤ 36)) := by unfold baB; rw [Bool.decide_and]
  have HB := Lib.hid hb
  clear hb
  by_cases h1 : 2 ≤ b <;> by_cases h2 : b ≤ 36
  all_goals
    go_enter Try.func38, Try.ntmps38
    go_wp2
    go_ret
    exact ⟨by rw [HB.out]; simp [h1, h2], rfl⟩
theorem isBase_is (b : Int) (v : Bool) (h : baB b = v) (w : World) :
    Calls Try.prog 38 #[.int .i64 b] w fun e w' => e = .returned (.bool v) ∧ w = w' := h ▸ isBase_any b w
theorem sgn_cut : ∀ v : Fin 36, (⟨#[48, 49, 50, 51, 52, 53, 54, 55, 56, 57, 65, 66, 67, 68, 69, 70, 71, 72, 73, 74, 75, 76, 77, 78, 79, 80, 81, 82, 83, 84, 85, 86, 87, 88, 89, 90]⟩ : ByteArray).extract v.val (v.val + 1) = ⟨#[sgn v.val]⟩ := by decide +kernel
theorem ret_str {s t : ByteArray} (h : s = t) : Ending.returned (.string s) = .returned (.string t) := by rw [h]
theorem sign_any (v : Int) (w : World) :
    Calls Try.prog 34 #[.int .i64 v] w fun e w' => e = .returned (.string ⟨(sgL v).toArray⟩) ∧ w = w' := by
  by_cases h0 : v < 0
  · go_enter Try.func34, Try.ntmps34
    go_wp2
    go_ret
    exact ⟨ret_str (by unfold sgL; rw [if_neg (by omega)]), rfl⟩
  · by_cases h1 : 36 ≤ v
    · go_enter Try.func34, Try.ntmps34
      go_wp2
      go_ret
      exact ⟨ret_str (by unfold sgL; rw [if_neg (by omega)]), rfl⟩
    · obtain ⟨n, rfl⟩ : ∃ n : Nat, v = n := ⟨v.toNat, by omega⟩
      have hs := sgn_cut ⟨n, by omega⟩
      have HS := Lib.hid hs
      clear hs
      go_enter Try.func34, Try.ntmps34
      go_wp2
      go_ret
      refine ⟨ret_str ?_, rfl⟩
      unfold sgL; rw [if_pos (by omega)]
      exact HS.out
theorem div_one (u b : Int) (h0 : 0 ≤ u) (h1 : u < 340282366920938463463374607431768211456) (hb : 2 ≤ b ∧ b ≤ 36) :
    dLo (u / 18446744073709551616) = dHi u ∧ dHi (u / 18446744073709551616) = 0 ∧ uR (u / 18446744073709551616) b = u / 18446744073709551616 % b ∧ uQ (u / 18446744073709551616) b = wrap64 (u / 18446744073709551616 / b) := by
  obtain ⟨h, hh⟩ : ∃ h, u / 18446744073709551616 = h := ⟨_, rfl⟩
  have hb0 : b % 18446744073709551616 = b := by omega
  have hx : h % 340282366920938463463374607431768211456 = h := by omega
  have hq : h / b ≤ h := Int.ediv_le_self _ (by omega)
  have hE : uE h b = 0 := by unfold uE; rw [if_neg (by omega), hx, hb0, if_neg (by omega)]
  rw [hh]
  refine ⟨?_, ?_, ?_, ?_⟩
  · unfold dLo dHi; rw [hh]
  · unfold dHi wrap64; omega
  · have := Int.emod_lt_of_pos h (show 0 < b by omega)
    have := Int.emod_nonneg h (show b ≠ 0 by omega)
    unfold uR; rw [if_pos hE, hx, hb0]; unfold wrap64; omega
  · unfold uQ; rw [if_pos hE, hx, hb0]
theorem div_two (u b : Int) (hb : 2 ≤ b ∧ b ≤ 36) :
    dLo (u % 18446744073709551616 + 18446744073709551616 * (u / 18446744073709551616 % b)) = dLo u ∧ dHi (u % 18446744073709551616 + 18446744073709551616 * (u / 18446744073709551616 % b)) = u / 18446744073709551616 % b ∧
    uR (u % 18446744073709551616 + 18446744073709551616 * (u / 18446744073709551616 % b)) b = u % b ∧ uQ (u % 18446744073709551616 + 18446744073709551616 * (u / 18446744073709551616 % b)) b = dLo (u / b) ∧ wrap64 (u / 18446744073709551616 / b) = dHi (u / b) := by
  obtain ⟨h, hh⟩ : ∃ h, u / 18446744073709551616 = h := ⟨_, rfl⟩
  obtain ⟨l, hl⟩ : ∃ l, u % 18446744073709551616 = l := ⟨_, rfl⟩
  obtain ⟨r, hr⟩ : ∃ r, h % b = r := ⟨_, rfl⟩
  obtain ⟨q, hq⟩ : ∃ q, h / b = q := ⟨_, rfl⟩
  have hr1 := Int.emod_lt_of_pos h (show 0 < b by omega)
  have hr0 := Int.emod_nonneg h (show b ≠ 0 by omega)
  have hb0 : b % 18446744073709551616 = b := by omega
  rw [hh, hl, hr]
  have hx : (l + 18446744073709551616 * r) % 340282366920938463463374607431768211456 = l + 18446744073709551616 * r := by omega
  have hlt : (l + 18446744073709551616 * r) / b < 18446744073709551616 := by
    apply Int.ediv_lt_of_lt_mul (by omega)
    have : 18446744073709551616 * r ≤ 18446744073709551616 * (b - 1) := Int.mul_le_mul_of_nonneg_left (by omega) (by omega)
    omega
  have hp : 0 ≤ (l + 18446744073709551616 * r) / b := Int.ediv_nonneg (by omega) (by omega)
  have hE : uE (l + 18446744073709551616 * r) b = 0 := by unfold uE; rw [if_neg (by omega), hx, hb0, if_neg (by omega)]
  have hu : u = (l + 18446744073709551616 * r) + (18446744073709551616 * q) * b := by
    have e1 : u = l + 18446744073709551616 * h := by omega
    have e2 : h = r + b * q := by rw [← hr, ← hq]; exact (Int.emod_add_mul_ediv h b).symm
    rw [e1, e2]; grind
  have hm : u % b = (l + 18446744073709551616 * r) % b := by rw [hu, Int.add_mul_emod_self_right]
  have hd : u / b = (l + 18446744073709551616 * r) / b + 18446744073709551616 * q := by rw [hu, Int.add_mul_ediv_right _ _ (by omega)]
  have hm1 := Int.emod_lt_of_pos (l + 18446744073709551616 * r) (show 0 < b by omega)
  have hm0 := Int.emod_nonneg (l + 18446744073709551616 * r) (show b ≠ 0 by omega)
  refine ⟨?_, ?_, ?_, ?_, ?_⟩
  · unfold dLo wrap64; omega
  · unfold dHi wrap64; omega
  · unfold uR; rw [if_pos hE, hx, hb0, hm]; unfold wrap64; omega
  · unfold uQ; rw [if_pos hE, hx, hb0]; unfold dLo; rw [hd]; unfold wrap64; omega
  · unfold dHi; rw [hd, hq]; congr 1; omega
theorem dumod_is (x u lo hi r q : Int) (hu : InC u) (h1 : dLo x = lo) (h2 : dHi x = hi) (h3 : uR x u = r) (h4 : uQ x u = q) (w : World) :
    Calls Try.prog 61 #[.agg #[.int .i64 lo, .int .i64 hi], .int .i64 u] w fun e w' => (∃ t, e = .returned (.tuple #[.int .i64 r, .int .i64 q, .int .i64 t])) ∧ Grown w w' := by
  subst h1; subst h2; subst h3; subst h4
  exact (dumod_any x u hu w).mono fun _ _ h => ⟨⟨_, h.1⟩, h.2⟩
theorem ret_id {a a' l l' h h' : Int} (e1 : a = a') (e2 : l = l') (e3 : h = h') : Ending.returned (.tuple #[.int .i64 a, .agg #[.int .i64 l, .int .i64 h]]) = .returned (.tuple #[.int .i64 a', .agg #[.int .i64 l', .int .i64 h']]) := by rw [e1, e2, e3]
set_option maxHeartbeats 400000 in
theorem divided_any (u b : Int) (h0 : 0 ≤ u) (h1 : u < 340282366920938463463374607431768211456) (hb : baB b = true) (w : World) :
    Calls Try.prog 51 #[.agg #[.int .i64 (dLo u), .int .i64 (dHi u)], .int .i64 b] w fun e w' => e = .returned (.tuple #[.int .i64 (u % b), .agg #[.int .i64 (dLo (u / b)), .int .i64 (dHi (u / b))]]) ∧ Grown w w' := by
  have hb2 := baB_iff.1 hb
  have hbc : InC b := by unfold InC; omega
  have HA := Lib.hid (div_one u b h0 h1 hb2)
  have HB := Lib.hid (div_two u b hb2)
  clear hb hb2 h0 h1
  go_enter Try.func51, Try.ntmps51
  go_wp2_with (first
    | (go_at_call 61; have hw1' := hw1; refine (dumod_is (u % 18446744073709551616 + 18446744073709551616 * (u / 18446744073709551616 % b)) b _ _ _ _ hbc HB.out.1 HB.out.2.1 HB.out.2.2.1 HB.out.2.2.2.1 _).mono ?_; rintro e w2 ⟨⟨t2, rfl⟩, hw2⟩; obtain ⟨c0, c1, f0, f1⟩ := resD (grown_trans hw1' hw2) (R := w.heap.size + 1) (by simp) ⟨by simp [go_sem]; rfl, by simp [go_sem]; rfl, by simp [go_sem], by simp [go_sem]⟩)
    | (go_at_call 61; refine (dumod_is (u / 18446744073709551616) b _ _ _ _ hbc HA.out.1 HA.out.2.1 HA.out.2.2.1 HA.out.2.2.2 _).mono ?_; rintro e w1 ⟨⟨t1, rfl⟩, hw1⟩; obtain ⟨d0, d1, g0, g1⟩ := resD hw1 (R := w.heap.size) (by simp; omega) ⟨by simp [go_sem]; rfl, by simp [go_sem]; rfl, by simp [go_sem], by simp [go_sem]⟩; have z1 := grown_lt hw1 (n := w.heap.size + 1) (by simp); have z0 := grown_lt hw1 (n := w.heap.size) (by simp; omega)))
  refine bodyPost_ret (v := .tuple #[.int .i64 (u % b), .agg #[.int .i64 (dLo (u / b)), .int .i64 (wrap64 (u / 18446744073709551616 / b))]]) (by simp [results, Try.results51, go_sem, c0, c1]) rfl ⟨ret_id rfl rfl HB.out.2.2.2.2, ?_⟩
  exact (((grown_trans (grown_trans (((Grown.refl w).alloc _ _).alloc _ _) hw1) hw2)).setCell (by simp) _).setCell (by simp) _
/-- The double's block. -/
def DblIn (w : World) (x : Int) (wr : World) : Prop :=
  Keeps w wr ∧ w.heap.size < wr.heap.size ∧ wr.cell? ⟨w.heap.size, 0, none⟩ = some (.int .i64 (dLo x)) ∧ wr.cell? ⟨w.heap.size, 1, none⟩ = some (.int .i64 (dHi x)) ∧ wr.frozen? ⟨w.heap.size, 0, none⟩ = false ∧ wr.frozen? ⟨w.heap.size, 1, none⟩ = false
theorem DblIn.keeps {w wr w' : World} {x : Int} (h : DblIn w x wr) (g : Keeps wr w') : DblIn w x w' := by
  obtain ⟨hk, hz, c0, c1, f0, f1⟩ := h
  exact ⟨hk.trans g, Nat.lt_of_lt_of_le hz g.size, (g.cell hz).trans c0, (g.cell hz).trans c1, (g.frozen hz).trans f0, (g.frozen hz).trans f1⟩
theorem DblIn.store {w wr : World} {x : Int} (h : DblIn w x wr) (y : Int) : DblIn w y ((wr.setCell ⟨w.heap.size, 0, none⟩ (.int .i64 (dLo y))).setCell ⟨w.heap.size, 1, none⟩ (.int .i64 (dHi y))) := by
  obtain ⟨hk, hz, c0, c1, f0, f1⟩ := h
  refine ⟨(hk.setCell (by simp) _).setCell (by simp) _, by simpa [World.setCell] using hz, ?_, ?_, ?_, ?_⟩
  all_goals simp [go_sem, c0, c1, f0, f1]
theorem DblIn.start (w : World) (x : Int) (t : TypeId) : DblIn w x (w.alloc (.cells #[.int .i64 (dLo x), .int .i64 (dHi x)] t)) :=
  ⟨(Keeps.refl w).alloc _, by simp, by simp [go_sem], by simp [go_sem], by simp [go_sem], by simp [go_sem]⟩
/-- The number that lies there. -/
def qAt (wr : World) (n : Nat) : Nat :=
  match wr.cell? ⟨n, 0, none⟩, wr.cell? ⟨n, 1, none⟩ with
  | some (.int _ l), some (.int _ h) => (dV l h % 340282366920938463463374607431768211456).toNat
  | _, _ => 0
theorem DblIn.qAt {w wr : World} {q : Nat} (h : DblIn w q wr) (hq : q < 340282366920938463463374607431768211456) : qAt wr w.heap.size = q := by
  obtain ⟨_, _, c0, c1, _, _⟩ := h
  have e : dV (dLo q) (dHi q) % 340282366920938463463374607431768211456 = q := by unfold dV dLo dHi wrap64; omega
  unfold Go.Proofs.Yticeeckahdjjmaa.qAt; rw [c0, c1]; simp only; rw [e]; simp
/-- What holds at each round's head: T is told, and the digits of q are not. -/
def DigSt (w : World) (b : Nat) (U : List UInt8) (t : Value) (wr : World) : Prop :=
  ∃ (q : Nat) (T : List UInt8), t = .string ⟨T.toArray⟩ ∧ q < 340282366920938463463374607431768211456 ∧ U = uL b q ++ T ∧ DblIn w q wr
theorem sign_is (v : Int) (S : ByteArray) (h : S = ⟨(sgL v).toArray⟩) (w : World) :
    Calls Try.prog 34 #[.int .i64 v] w fun e w' => e = .returned (.string S) ∧ w = w' := h ▸ sign_any v w
theorem d_zero {q : Nat} (hq : q < 340282366920938463463374607431768211456) (h : (dLo q == 0) = true) (k : (dHi q == 0) = true) : q = 0 := by
  have h' : dLo q = 0 := by simpa using h
  have k' : dHi q = 0 := by simpa using k
  unfold dLo wrap64 at h'; unfold dHi wrap64 at k'; omega
theorem sgL_nat {v : Nat} (h : v < 36) : sgL v = [sgn v] := by unfold sgL; rw [if_pos (by omega)]; rfl
theorem divided_is (q b r k : Nat) (hq : q < 340282366920938463463374607431768211456) (hb : baB b = true) (hr : q % b = r) (hk : q / b = k) (w : World) :
    Calls Try.prog 51 #[.agg #[.int .i64 (dLo q), .int .i64 (dHi q)], .int .i64 b] w fun e w' => e = .returned (.tuple #[.int .i64 r, .agg #[.int .i64 (dLo k), .int .i64 (dHi k)]]) ∧ Grown w w' := by
  subst hr; subst hk
  have h := divided_any q b (by omega) (by omega) hb w
  rw [Int.natCast_emod, Int.natCast_ediv]
  exact h
set_option maxHeartbeats 1000000 in
theorem ndigits_yes (x : Int) (b : Nat) (hb : baB b = true) (w : World) :
    Calls Try.prog 39 #[.agg #[.int .i64 (dLo x), .int .i64 (dHi x)], .int .i64 b] w fun e w' => e = .returned (.string ⟨(uT b (x % 340282366920938463463374607431768211456).toNat).toArray⟩) ∧ Keeps w w' := by
  have hb2 := baB_iff.1 hb
  obtain ⟨u, hu⟩ : ∃ u : Nat, (x % 340282366920938463463374607431768211456).toNat = u := ⟨_, rfl⟩
  have hul : u < 340282366920938463463374607431768211456 := by omega
  have hlo : dLo x = dLo u := dLo_congr (by omega)
  have hhi : dHi x = dHi u := dHi_congr (by omega)
  rw [hu, hlo, hhi]
  clear hlo hhi hu
  obtain ⟨U, hU⟩ : ∃ U, uT b u = U := ⟨_, rfl⟩
  have hum : u % b < b := Nat.mod_lt _ (by omega)
  obtain ⟨r0, hr0⟩ : ∃ r, u % b = r := ⟨_, rfl⟩
  obtain ⟨k0, hk0⟩ : ∃ r, u / b = r := ⟨_, rfl⟩
  rw [hr0] at hum
  have HK : Hid (k0 < 340282366920938463463374607431768211456) := Lib.hid (by rw [← hk0]; have := Nat.div_le_self u b; omega)
  have HU : Hid (U = uL b k0 ++ [sgn r0]) := Lib.hid (by rw [← hU, ← hr0, ← hk0]; exact uT_last (by omega))
  have HL : Hid (U.length ≤ 128) := Lib.hid (by rw [← hU]; exact uT_len (by omega) 127 u (by omega))
  rw [hU]
  clear hU
  have HB := Lib.hid hb
  obtain ⟨A, hA⟩ : ∃ A : ByteArray, A = ⟨(sgL (r0 : Int)).toArray⟩ := ⟨_, rfl⟩
  have HA := Lib.hid hA
  have HA' : Hid (A = ⟨[sgn r0].toArray⟩) := Lib.hid (by rw [hA, sgL_nat (by omega)])
  have HQ := Lib.hid (divided_is u b r0 k0 hul hb hr0 hk0)
  clear hA hb hr0 hk0
  go_enter Try.func39, Try.ntmps39
  go_wp2_with (first
    | (go_at_call 38; refine (isBase_is b true HB.out _).mono ?_; rintro e w' ⟨rfl, rfl⟩)
    | (go_at_call 51; refine (HQ.out _).mono ?_; rintro e w1 ⟨rfl, hw1⟩; have HJ := Lib.hid ((DblIn.start w u _).keeps (Keeps.of_grown hw1)); obtain ⟨_, _, m0, m1, n0, n1⟩ := HJ.out)
    | (go_at_call 34; refine (sign_is _ A HA.out _).mono ?_; rintro e w' ⟨rfl, rfl⟩))
  go_loopw [6] (fun t wr => DigSt w b U t wr) (fun _ wr => qAt wr w.heap.size)
  case atStart =>
    have h := HJ.out.store k0
    exact ⟨k0, [sgn r0], by rw [HA'.out], HK.out, HU.out, h⟩
  case round =>
    obtain ⟨q, T, rfl, hq, hUT, hin⟩ := hrel
    have HP := Lib.hid (hin.qAt hq)
    by_cases h0 : q = 0
    · subst h0
      have HT : Hid (U = T) := Lib.hid (by rw [hUT]; rfl)
      have e0 : dLo ((0 : Nat) : Int) = 0 := by decide +kernel
      have e1 : dHi ((0 : Nat) : Int) = 0 := by decide +kernel
      obtain ⟨hk, hz, c0, c1, f0, f1⟩ := hin
      rw [e0] at c0; rw [e1] at c1
      clear hUT e0 e1
      go_wp2
      go_ret
      exact ⟨ret_str (by rw [HT.out]), hk⟩
    · have hmq : q % b < b := Nat.mod_lt _ (by omega)
      obtain ⟨r1, hr1⟩ : ∃ r, q % b = r := ⟨_, rfl⟩
      obtain ⟨k1, hk1⟩ : ∃ r, q / b = r := ⟨_, rfl⟩
      rw [hr1] at hmq
      have HT : Hid (U = uL b k1 ++ (sgn r1 :: T)) := Lib.hid (by rw [hUT, ← hr1, ← hk1]; exact uL_step (by omega) h0 T)
      have hlen : T.length ≤ 128 := by have h := HL.out; rw [hUT, List.length_append] at h; omega
      obtain ⟨A2, hA⟩ : ∃ A : ByteArray, A = ⟨(sgL (r1 : Int)).toArray⟩ := ⟨_, rfl⟩
      obtain ⟨B2, hB⟩ : ∃ A : ByteArray, A = ⟨T.toArray⟩ := ⟨_, rfl⟩
      have HA2 := Lib.hid hA
      have HC : Hid (A2 ++ B2 = ⟨(sgn r1 :: T).toArray⟩) := Lib.hid (by rw [hA, hB, sgL_nat (by omega), ByteArray.mk_append_mk]; rfl)
      have hsz : ¬ 9223372036854775807 < A2.size + B2.size := by rw [hA, hB, size_mk, size_mk, sgL_nat (by omega)]; simp; omega
      rw [← hB]
      have HQ2 := Lib.hid (divided_is q b r1 k1 hq HB.out hr1 hk1)
      have HDV : Hid (k1 < q ∧ k1 < 340282366920938463463374607431768211456) := Lib.hid (by rw [← hk1]; have := Nat.div_lt_self (n := q) (k := b) (by omega) (by omega); omega)
      have HIN := Lib.hid hin
      obtain ⟨hk, hz, c0, c1, f0, f1⟩ := hin
      have hne : ¬ ((dLo q == 0) = true ∧ (dHi q == 0) = true) := fun h => h0 (d_zero hq h.1 h.2)
      obtain ⟨lo, hlo⟩ : ∃ x, dLo (q : Int) = x := ⟨_, rfl⟩
      obtain ⟨hi, hhi⟩ : ∃ x, dHi (q : Int) = x := ⟨_, rfl⟩
      rw [hlo] at c0 HQ2 hne
      rw [hhi] at c1 HQ2 hne
      clear hA hB hUT h0 hr1 hk1 hlo hhi hq hul
      cases hl : (lo == 0) <;> cases hh : (hi == 0)
      case true.true => exact absurd ⟨hl, hh⟩ hne
      all_goals
        clear hne
        go_wp2_with (first
          | (go_at_call 51; refine (HQ2.out _).mono ?_; rintro e w2 ⟨rfl, hw2⟩; have HJ2 := Lib.hid (HIN.out.keeps (Keeps.of_grown hw2)); obtain ⟨_, _, m0', m1', n0', n1'⟩ := HJ2.out)
          | (go_at_call 34; refine (sign_is _ A2 HA2.out _).mono ?_; rintro e w' ⟨rfl, rfl⟩))
        go_roundw
        case rel =>
          have h := HJ2.out.store k1
          exact ⟨k1, sgn r1 :: T, by rw [HC.out], HDV.out.2, HT.out, h⟩
        case measure =>
          have h := HJ2.out.store k1
          have h2 := DblIn.qAt (q := k1) h HDV.out.2
          have e1 := HP.out
          rw [e1, h2]
          exact HDV.out.1
theorem ndigits_no (x b : Int) (hb : baB b = false) (w : World) :
    Calls Try.prog 39 #[.agg #[.int .i64 (dLo x), .int .i64 (dHi x)], .int .i64 b] w fun e w' => e = .returned (.string ⟨#[]⟩) ∧ Keeps w w' := by
  have HB := Lib.hid hb
  clear hb
  go_enter Try.func39, Try.ntmps39
  go_wp2_with (go_at_call 38; refine (isBase_is b false HB.out _).mono ?_; rintro e w' ⟨rfl, rfl⟩)
  go_ret
  exact ⟨rfl, (Keeps.refl w).alloc _⟩
theorem ndigits_any (x b : Int) (w : World) :
    Calls Try.prog 39 #[.agg #[.int .i64 (dLo x), .int .i64 (dHi x)], .int .i64 b] w fun e w' => e = .returned (.string ⟨(dTu b x).toArray⟩) ∧ Keeps w w' := by
  unfold dTu
  cases hb : baB b with
  | false => exact ndigits_no x b hb w
  | true =>
    have h2 := baB_iff.1 hb
    obtain ⟨n, rfl⟩ : ∃ n : Nat, b = n := ⟨b.toNat, by omega⟩
    exact ndigits_yes x n hb w
theorem ndigits_is (x b : Int) (S : ByteArray) (h : S = ⟨(dTu b x).toArray⟩) (w : World) :
    Calls Try.prog 39 #[.agg #[.int .i64 (dLo x), .int .i64 (dHi x)], .int .i64 b] w fun e w' => e = .returned (.string S) ∧ Keeps w w' := h ▸ ndigits_any x b w
theorem dTx_neg {b x : Int} (hb : baB b = true) (hx : InD x) (h : x < 0) : dTx b x = 45 :: dTu b (-x) := by
  unfold dTx dTu
  unfold InD at hx
  rw [hb, if_pos rfl, if_pos rfl, if_pos h]
  rw [show (-x) % 340282366920938463463374607431768211456 = -x by omega]
theorem dTx_pos {b x : Int} (hx : InD x) (h : ¬ x < 0) : dTx b x = dTu b x := by
  unfold dTx dTu
  unfold InD at hx
  rw [if_neg h, show x % 340282366920938463463374607431768211456 = x by omega]
theorem dTx_no {b x : Int} (hb : baB b = false) : dTx b x = [] := by unfold dTx; rw [hb]; rfl
theorem dTu_no {b x : Int} (hb : baB b = false) : dTu b x = [] := by unfold dTu; rw [hb]; rfl
theorem dTu_len (b x : Int) : (dTu b x).length ≤ 128 := by
  unfold dTu
  cases hb : baB b with
  | false => simp
  | true =>
    have := baB_iff.1 hb
    rw [if_pos rfl]
    exact uT_len (by omega) 127 _ (by omega)
set_option maxHeartbeats 400000 in
theorem dtext_any (x b : Int) (hx : InD x) (w : World) :
    Calls Try.prog 23 #[.agg #[.int .i64 (dLo x), .int .i64 (dHi x)], .int .i64 b] w fun e w' => e = .returned (.string ⟨(dTx b x).toArray⟩) ∧ Keeps w w' := by
  have hiff := dHi_neg hx
  by_cases h : x < 0
  · have hn : dHi x < 0 := hiff.2 h
    cases hb : baB b with
    | false =>
      have HB := Lib.hid hb
      have HE : Hid (dTx b x = dTu b x) := Lib.hid (by rw [dTx_no hb, dTu_no hb])
      clear hb hiff h
      obtain ⟨S, hS⟩ : ∃ S : ByteArray, S = ⟨(dTu b x).toArray⟩ := ⟨_, rfl⟩
      have HS := Lib.hid hS
      clear hS
      go_enter Try.func23, Try.ntmps23
      go_wp2_with (first
        | (go_at_call 38; refine (isBase_is b false HB.out _).mono ?_; rintro e w' ⟨rfl, rfl⟩)
        | (go_at_call 39; refine (ndigits_is x b S HS.out _).mono ?_; rintro e w1 ⟨rfl, hw1⟩))
      go_ret
      exact ⟨ret_str (by rw [HS.out, HE.out]), ((Keeps.refl w).alloc _).trans hw1⟩
    | true =>
      have HB := Lib.hid hb
      obtain ⟨S, hS⟩ : ∃ S : ByteArray, S = ⟨(dTu b (-x)).toArray⟩ := ⟨_, rfl⟩
      have HS := Lib.hid hS
      have HE : Hid ((⟨#[45]⟩ : ByteArray) ++ S = ⟨(dTx b x).toArray⟩) := Lib.hid (by rw [hS, dTx_neg hb hx h]; exact ByteArray.mk_append_mk [45] _)
      have hsz : ¬ 9223372036854775807 < (⟨#[45]⟩ : ByteArray).size + S.size := by rw [hS, size_mk]; have := dTu_len b (-x); simp [ByteArray.size]; omega
      clear hS hb hiff h
      go_enter Try.func23, Try.ntmps23
      go_wp2_with (first
        | (go_at_call 38; refine (isBase_is b true HB.out _).mono ?_; rintro e w' ⟨rfl, rfl⟩)
        | (go_at_call 40; refine (dneg_any x _).mono ?_; rintro e w2 ⟨rfl, hw2⟩)
        | (go_at_call 39; refine (ndigits_is (-x) b S HS.out _).mono ?_; rintro e w1 ⟨rfl, hw1⟩))
      go_ret
      exact ⟨ret_str HE.out, (((Keeps.refl w).alloc _).trans (Keeps.of_grown hw2)).trans hw1⟩
  · have hn : ¬ dHi x < 0 := fun k => h (hiff.1 k)
    have HE : Hid (dTx b x = dTu b x) := Lib.hid (dTx_pos hx h)
    clear hiff h
    obtain ⟨S, hS⟩ : ∃ S : ByteArray, S = ⟨(dTu b x).toArray⟩ := ⟨_, rfl⟩
    have HS := Lib.hid hS
    clear hS
    go_enter Try.func23, Try.ntmps23
    go_wp2_with (go_at_call 39; refine (ndigits_is x b S HS.out _).mono ?_; rintro e w1 ⟨rfl, hw1⟩)
    go_ret
    exact ⟨ret_str (by rw [HS.out, HE.out]), ((Keeps.refl w).alloc _).trans hw1⟩
theorem dtext_is (x b : Int) (hx : InD x) (S : ByteArray) (h : S = ⟨(dTx b x).toArray⟩) (w : World) :
    Calls Try.prog 23 #[.agg #[.int .i64 (dLo x), .int .i64 (dHi x)], .int .i64 b] w fun e w' => e = .returned (.string S) ∧ Keeps w w' := h ▸ dtext_any x b hx w
end Go.Proofs.Yticeeckahdjjmaa
