/-
  The call of the statement ScanBlanks answers true at every text, bytes and text ahead; of what was there nothing has changed.
-/
import Derived.Test.YtdffejpbcoagfaaScanAwake
import Derived.Test.YtdffejpbcoagfaaMemHeld
namespace Go.Proofs.Ytdffejpbcoagfaa
open Go.RowKit

/-- A byte's last five digits of two: a blank. -/
def bl31 (c : UInt8) : UInt8 := UInt8.ofNat (c.toNat % 32)
theorem bl31_nat (c : UInt8) : (bl31 c).toNat = c.toNat % 32 := by unfold bl31; rw [UInt8.toNat_ofNat']; omega
theorem bits31 : ∀ c : UInt8, bits .and .u8 (c.toNat : Int) 31 = ((bl31 c).toNat : Int) := by
  have h : ∀ n : Fin 256, bits .and .u8 ((n.val : Nat) : Int) 31 = ((n.val % 32 : Nat) : Int) := by decide +kernel
  intro c
  rw [bl31_nat]
  exact h ⟨c.toNat, c.toNat_lt⟩
theorem bl31_blank (c : UInt8) : scB (bl31 c) = true := by unfold scB; rw [bl31_nat]; simp; omega
theorem conv1 (a : UInt8) (W : World) : (convert 42 9 (.slice (some ⟨W.heap.size, 0, none⟩) 1 1)).run Try.prog (W.alloc (.cells #[.int .u8 (a.toNat : Int)] 5)) =
    .ok (.string ⟨#[a]⟩) (W.alloc (.cells #[.int .u8 (a.toNat : Int)] 5)) :=
  run_convert_bytes_back _ 42 9 5 ⟨W.heap.size, 0, none⟩ 1 [a] Try.underlying42 Try.underlying5 Try.underlying9 (fun j hj => by
    rw [Addr.add_lit]
    simp at hj
    subst hj
    simp [go_sem])
theorem Mem.at_ {w : World} {A : Option Addr} {n c : Nat} {l : List UInt8} (h : Mem w A n c l) (q : Nat) (hq : q < l.length) : ∃ b o, A = some ⟨b, o, none⟩ ∧ w.cell? ⟨b, o + q, none⟩ = some (.int .u8 (l[q].toNat : Int)) := by
  have hl := h.1
  obtain ⟨b, o, rfl, _, hc⟩ := h.2.2 (by omega)
  exact ⟨b, o, rfl, hc q hq⟩
set_option maxHeartbeats 1000000 in
theorem scanBlanks_big (S H : ByteArray) (A : Option Addr) (n c : Nat) (h : 500 < S.size ∨ (S.size ≤ 500 ∧ 100 < n) ∨ (S.size ≤ 500 ∧ n ≤ 100 ∧ 300 < H.size)) (W : World) (hM : MaxL W) :
    Calls Try.prog 7 #[.string S, .slice A n c, .string H] W fun e w' => e = .returned (.bool true) ∧ Below W.heap.size W w' := by
  have HM := Lib.hid hM
  clear hM
  have h3 : decide ((500 : Int) < (S.size : Int)) = true ∨ (decide ((500 : Int) < (S.size : Int)) = false ∧ decide ((100 : Int) < (n : Int)) = true) ∨ (decide ((500 : Int) < (S.size : Int)) = false ∧ decide ((100 : Int) < (n : Int)) = false ∧ decide ((300 : Int) < (H.size : Int)) = true) := by
    simp
    omega
  clear h
  rcases h3 with h1 | ⟨h1, h2⟩ | ⟨h1, h2, h3⟩
  all_goals
    go_enter Try.func7, Try.ntmps7
    go_wp2_with (go_at_call 9; refine (awake_any _ HM.out).mono ?_; rintro e w1 ⟨rfl, hb1⟩)
    go_ret
    exact ⟨rfl, hb1⟩
set_option maxRecDepth 100000 in
set_option maxHeartbeats 1000000 in
theorem scanBlanks_small (W : World) (S H T : ByteArray) (A : Option Addr) (n c : Nat) (B : List UInt8) (N1 N2 N3 : Int) (h1 : S.size ≤ 500) (h2 : n ≤ 100) (h3 : H.size ≤ 300) (hA : Mem W A n c B) (hM : MaxL W)
    (hn1 : 0 ≤ N1 ∧ N1 ≤ 2000) (q2 : (N2 == N1 + (n : Int)) = true) (q3 : (N3 == N1 + (H.size : Int)) = true)
    (HW1 : Hid (∀ w, Calls Try.prog 10 #[.agg #[.string S, .int .i64 0]] w fun e w' => e = .returned (.tuple #[.string T, .agg #[.string S, .int .i64 N1]]) ∧ Below w.heap.size w w'))
    (HW2 : ∀ Q : ByteArray, Q = ⟨(B.map bl31).toArray⟩ → Hid (∀ w, Calls Try.prog 10 #[.agg #[.string (Q ++ S), .int .i64 0]] w fun e w' => e = .returned (.tuple #[.string T, .agg #[.string (Q ++ S), .int .i64 N2]]) ∧ Below w.heap.size w w'))
    (HW3 : Hid (∀ w, Calls Try.prog 10 #[.agg #[.string (H ++ S), .int .i64 (H.size : Int)]] w fun e w' => e = .returned (.tuple #[.string T, .agg #[.string (H ++ S), .int .i64 N3]]) ∧ Below w.heap.size w w'))
    (HL : Hid (∀ w, Calls Try.prog 17 #[.agg #[.string (H ++ S), .int .i64 (H.size : Int)]] w fun e w' => e = .returned (.string S) ∧ Below w.heap.size w w')) :
    Calls Try.prog 7 #[.string S, .slice A n c, .string H] W fun e w' => e = .returned (.bool true) ∧ Below W.heap.size W w' := by
  have HM := Lib.hid hM
  have HA := Lib.hid hA
  have HN := Lib.hid hA.1
  have HWH := Lib.hid HW2
  have HQ := Lib.hid q2
  clear hM hA HW2 q2
  have e1 : decide ((500 : Int) < (S.size : Int)) = false := decide_eq_false (by omega)
  have e2 : decide ((100 : Int) < (n : Int)) = false := decide_eq_false (by omega)
  have e3 : decide ((300 : Int) < (H.size : Int)) = false := decide_eq_false (by omega)
  have eH : ¬ 9223372036854775807 < H.size + S.size := by omega
  go_enter Try.func7, Try.ntmps7
  go_wp2_with (go_at_call 9; refine (awake_any _ HM.out).mono ?_; rintro e w1 ⟨rfl, hb1⟩; have H1 := Lib.hid hb1; clear hb1)
  go_loopw [8, 9] (fun t i wr => ∃ (k : Nat) (Q : ByteArray), t = .string Q ∧ i = .int .i64 k ∧ k ≤ n ∧ Q = ⟨((B.take k).map bl31).toArray⟩ ∧ Below W.heap.size W wr) (fun _ i _ => n - (intOf i).toNat)
  case atStart => exact ⟨0, _, rfl, rfl, Nat.zero_le _, rfl, H1.out⟩
  case round =>
    obtain ⟨k, Q, rfl, rfl, hk, hQ, hb⟩ := hrel
    have HB := Lib.hid hb
    clear hb
    by_cases hp : k < n
    · have hkl : k < B.length := by rw [HN.out]; exact hp
      obtain ⟨d, hd⟩ : ∃ d, B[k] = d := ⟨_, rfl⟩
      obtain ⟨b, o, rfl, hc⟩ := (HA.out.below HB.out).at_ k hkl
      rw [hd] at hc
      have hbits := bits31 d
      have hcv := conv1 (bl31 d) wr
      have hsz : ¬ 9223372036854775807 < Q.size + (⟨#[bl31 d]⟩ : ByteArray).size := by rw [hQ, size_mk]; simp [ByteArray.size]; omega
      have HQ2 : Hid (Q ++ (⟨#[bl31 d]⟩ : ByteArray) = ⟨((B.take (k + 1)).map bl31).toArray⟩) := Lib.hid (by
        rw [hQ, List.take_succ_eq_append_getElem hkl, hd]
        apply ByteArray.ext
        simp)
      clear hQ hd
      generalize (⟨#[bl31 d]⟩ : ByteArray) = D at *
      go_wp2
      go_roundw
      case rel => exact ⟨k + 1, Q ++ D, rfl, by go_num, by omega, HQ2.out, HB.out.alloc HB.out.size _⟩
      case measure => simp [intOf]; omega
    · obtain rfl : k = n := by omega
      have hQs : Q.size = k := by rw [hQ, size_mk]; have := HN.out; simp; omega
      have hsz : ¬ 9223372036854775807 < Q.size + S.size := by omega
      have HW2 := HWH.out Q (by rw [hQ, List.take_of_length_le (by have := HN.out; omega)])
      have q2 : (N2 == N1 + (Q.size : Int)) = true := by rw [hQs]; exact HQ.out
      have hq0 : (Q.size : Int) ≤ 100 := by omega
      clear hQ hQs HWH
      go_wp2_with (first
        | (go_at_call 10; (with_reducible refine (HW3.out _).mono ?_); rintro e w4 ⟨rfl, hb4⟩; have X4 := Lib.hid (((X3.out.alloc (.cells #[.string (Q ++ S), .int .i64 N2] 25)).keep hb4).alloc (.cells #[.string (H ++ S), .int .i64 N3] 25)); have Y4 := Lib.hid (((Src.new w3 25 (Q ++ S) N2).keep hb4).alloc (.cells #[.string (H ++ S), .int .i64 N3] 25)); have xn := X4.out.n; have yn := Y4.out.n; have H4 := Lib.hid (below_then (H3.out.alloc H3.out.size _) hb4); clear hb4)
        | (go_at_call 10; (with_reducible refine (HW2.out _).mono ?_); rintro e w3 ⟨rfl, hb3⟩; have X3 := Lib.hid ((Src.new w2 25 S N1).keep hb3); have H3 := Lib.hid (below_then (H2.out.alloc H2.out.size _) hb3); clear hb3)
        | (go_at_call 10; (with_reducible refine (HW1.out _).mono ?_); rintro e w2 ⟨rfl, hb2⟩; have H2 := Lib.hid (below_then HB.out hb2); clear hb2)
        | (go_at_call 17; (with_reducible refine (HL.out _).mono ?_); rintro e w5 ⟨rfl, hb5⟩; have H5 := Lib.hid (below_then (H4.out.alloc H4.out.size _) hb5); clear hb5))
      go_ret
      exact ⟨rfl, H5.out⟩
theorem add_mk (a b : List UInt8) : (⟨a.toArray⟩ : ByteArray) ++ ⟨b.toArray⟩ = ⟨(a ++ b).toArray⟩ := by
  apply ByteArray.ext
  simp
theorem scanBlanks_walk (l h B : List UInt8) (A : Option Addr) (n c : Nat) (W : World) (hA : Mem W A n c B) (hM : MaxL W) :
    Calls Try.prog 7 #[.string ⟨l.toArray⟩, .slice A n c, .string ⟨h.toArray⟩] W fun e w' => e = .returned (.bool true) ∧ Below W.heap.size W w' := by
  by_cases hbig : 500 < l.length ∨ 100 < n ∨ 300 < h.length
  · refine scanBlanks_big _ _ A n c ?_ W hM
    rw [size_mk, size_mk]
    omega
  · have hl : l.length ≤ 2000 := by omega
    have hBl := hA.1
    obtain ⟨k, hk⟩ : ∃ k, scS scB l (scA l 0) = k := ⟨_, rfl⟩
    have hA0 : ∀ m : List UInt8, scA m 0 = 0 := fun m => by unfold scA; simp
    obtain ⟨j, hj⟩ : ∃ j, scS (scN 32) l k = j := ⟨_, rfl⟩
    obtain ⟨r, hr⟩ : ∃ r, min (j + 1) l.length = r := ⟨_, rfl⟩
    obtain ⟨T, hT⟩ : ∃ T : ByteArray, T = ⟨(scT l k j).toArray⟩ := ⟨_, rfl⟩
    have hml : (B.map bl31).length = n := by simp [hBl]
    refine scanBlanks_small W _ _ T A n c B (r : Int) ((n + r : Nat) : Int) ((h.length + r : Nat) : Int) (by rw [size_mk]; omega) (by omega) (by rw [size_mk]; omega) hA hM (by omega) (by simp; omega) (by rw [size_mk]; simp; omega)
      (Lib.hid (word_is l 0 k j r _ T rfl hl hk hj hr hT)) ?_ ?_ ?_
    · intro Q hQ
      subst hQ
      rw [add_mk]
      refine Lib.hid (word_is (B.map bl31 ++ l) 0 (n + k) (n + j) (n + r) _ T rfl (by simp; omega) ?_ ?_ ?_ ?_)
      · rw [hA0, scS_over scB _ _ (fun x hx => by obtain ⟨y, _, rfl⟩ := List.mem_map.1 hx; exact bl31_blank y), hml, ← hk, hA0]
      · have := scS_ahead (scN 32) (B.map bl31) l k
        rw [hml, hj] at this
        exact this
      · rw [List.length_append, hml]; omega
      · rw [hT]
        have := scT_ahead (B.map bl31) l k j
        rw [hml] at this
        rw [this]
    · rw [add_mk, size_mk]
      have hle : h.length ≤ (h ++ l).length := by simp
      refine Lib.hid (word_is (h ++ l) (h.length : Int) (h.length + k) (h.length + j) (h.length + r) _ T rfl (by simp; omega) ?_ ?_ ?_ ?_)
      · rw [scA_nat _ _ hle]
        have := scS_ahead scB h l 0
        rw [Nat.add_zero] at this
        rw [this, ← hk, hA0]
      · rw [scS_ahead, hj]
      · rw [List.length_append]; omega
      · rw [hT, scT_ahead]
    · rw [add_mk, size_mk]
      exact Lib.hid (left_is (h ++ l) (h.length : Int) h.length _ _ rfl (by simp; omega) (scA_nat _ _ (by simp)) (by simp))
end Go.Proofs.Ytdffejpbcoagfaa
