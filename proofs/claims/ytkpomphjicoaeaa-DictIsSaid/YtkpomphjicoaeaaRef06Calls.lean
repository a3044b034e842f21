/-
  What the document's own calls of layer 6 answer (tenterhookref06: at, is, Left, Skip, Parse, Word), and the law's ours: the same as the calls of package scan, in the words of the plain facts (XScanMath).
-/
import Derived.Test.YtkpomphjicoaeaaScanCalls
import Derived.Deep.RegionHeld3
namespace Go.Proofs.Ytkpomphjicoaeaa
open Go.RowKit

set_option maxHeartbeats 400000 in
theorem rat_is (S : ByteArray) (i : Int) (k : Nat) (h : (i < 0 ∧ k = 0) ∨ (i = (k : Int) ∧ k ≤ S.size) ∨ ((S.size : Int) < i ∧ k = S.size)) (w : World) :
    Calls Try.prog 57 #[.agg #[.string S, .int .i64 i]] w fun e w' => e = .returned (.int .i64 (k : Int)) ∧ Below w.heap.size w w' := by
  rcases h with ⟨h1, rfl⟩ | ⟨rfl, h1⟩ | ⟨h1, rfl⟩
  · have h2 : ¬ (S.size : Int) < i := by omega
    have h3 : ¬ (0 : Int) < i := by omega
    go_enter Try.func57, Try.ntmps57
    go_wp2
    go_ret
    exact ⟨rfl, (Below.refl _ _).alloc (Nat.le_refl _) _⟩
  · have h3 : ¬ (S.size : Int) < (k : Int) := by omega
    rcases Nat.eq_zero_or_pos k with h0 | h0
    · subst h0
      go_enter Try.func57, Try.ntmps57
      go_wp2
      go_ret
      exact ⟨rfl, (Below.refl _ _).alloc (Nat.le_refl _) _⟩
    · go_enter Try.func57, Try.ntmps57
      go_wp2
      go_ret
      exact ⟨rfl, (Below.refl _ _).alloc (Nat.le_refl _) _⟩
  · rcases Nat.eq_zero_or_pos S.size with h0 | h0
    · have h4 : ¬ 0 < S.size := by omega
      have H0 := Lib.hid h0
      clear h0
      go_enter Try.func57, Try.ntmps57
      go_wp2
      go_ret
      exact ⟨by rw [H0.out]; rfl, (Below.refl _ _).alloc (Nat.le_refl _) _⟩
    · go_enter Try.func57, Try.ntmps57
      go_wp2
      go_ret
      exact ⟨rfl, (Below.refl _ _).alloc (Nat.le_refl _) _⟩
theorem ris_is (c : UInt8) (d : Int) (b : Bool) (h : scE d c = b) (w : World) : Calls Try.prog 58 #[.int .u8 (c.toNat : Int), .int .i64 d] w fun e w' => e = .returned (.bool b) ∧ w = w' := by
  have hc8 : (0 : Int) ≤ (c.toNat : Int) ∧ (c.toNat : Int) ≤ 255 := by have := c.toNat_lt; omega
  have hcs : (((c.toNat : Int) == d) = true ∧ b = true) ∨ (((c.toNat : Int) == d) = false ∧ (d == 32) = true ∧ decide ((c.toNat : Int) ≤ 32) = b) ∨ (((c.toNat : Int) == d) = false ∧ (d == 32) = false ∧ b = false) := by
    unfold scE at h
    by_cases hd : d = 32
    · rw [if_pos hd] at h
      by_cases he : (c.toNat : Int) = d
      · left; refine ⟨by simpa using he, ?_⟩; rw [← h]; simp; omega
      · right; left; refine ⟨by simpa using he, by simpa using hd, ?_⟩; rw [← h]; rw [Bool.eq_iff_iff]; simp; omega
    · rw [if_neg hd] at h
      by_cases he : (c.toNat : Int) = d
      · left; exact ⟨by simpa using he, by rw [← h]; simpa using he⟩
      · right; right; exact ⟨by simpa using he, by simpa using hd, by rw [← h]; simpa using he⟩
  clear h
  rcases hcs with ⟨h1, rfl⟩ | ⟨h1, h2, h3⟩ | ⟨h1, h2, rfl⟩
  all_goals
    go_enter Try.func58, Try.ntmps58
    go_wp2
    go_ret
    exact ⟨rfl, rfl⟩
set_option maxHeartbeats 1000000 in
theorem rskip_is (l : List UInt8) (i : Int) (k j : Nat) (S : ByteArray) (hS : S = ⟨l.toArray⟩) (hl : l.length ≤ 2000) (hk : scA l i = k) (hj : scS scB l k = j) (w : World) :
    Calls Try.prog 56 #[.agg #[.string S, .int .i64 i]] w fun e w' => e = .returned (.agg #[.string S, .int .i64 (j : Int)]) ∧ Below w.heap.size w w' := by
  have hz : S.size = l.length := by rw [hS, size_mk]
  have hsz : S.size ≤ 2000 := by omega
  have HA := Lib.hid (scA_str hS hk)
  have HJ := Lib.hid hj
  have HS := Lib.hid hS
  have HZ := Lib.hid hz
  have hkz : k ≤ S.size := by rw [hz, ← hk]; exact scA_le l i
  clear hk hj hS hz
  go_enter Try.func56, Try.ntmps56
  go_wp2_with (go_at_call 57; refine (rat_is S i k HA.out _).mono ?_; rintro e w1 ⟨rfl, hb1⟩; have X1 := Lib.hid (((Src.new w 81 S i).alloc (.cells #[.string ⟨#[]⟩, .int .i64 0] 81)).keep hb1); have X2 := Lib.hid (Src.keep (w' := w1) (by have h := Src.new (w.alloc (.cells #[.string S, .int .i64 i] 81)) 81 ⟨#[]⟩ 0; rw [World.size_alloc] at h; exact h) hb1); have HB := Lib.hid (below_then (two_new w _ _) hb1); clear hb1)
  have hs := X1.out.s
  have ys := X2.out.s
  have yn := X2.out.n
  have yfs := X2.out.fs
  have yfn := X2.out.fn
  go_loop [3] (fun t => ∃ m : Nat, t = .int .i64 m ∧ m ≤ S.size ∧ scS scB l m = scS scB l k) (fun t => S.size - (intOf t).toNat)
  case atStart => exact ⟨k, rfl, hkz, rfl⟩
  case round =>
    obtain ⟨m, rfl, hm, hsm⟩ := hrel
    have HM := Lib.hid hsm
    clear hsm
    by_cases hp : m < S.size
    · have hml : m < l.length := by rw [← HZ.out]; exact hp
      obtain ⟨c, hc⟩ : ∃ c, l[m] = c := ⟨_, rfl⟩
      have hSk : S[m]'hp = c := by rw [← hc]; have := HS.out; subst this; rfl
      cases hbl : scB c with
      | true =>
        have HT : Hid (scS scB l (m + 1) = scS scB l k) := Lib.hid (by rw [← HM.out, scS_step scB l m hml (by rw [hc]; exact hbl)])
        have hd := scB_iff hbl
        clear hbl hc
        go_wp2
        go_round
        case rel => exact ⟨m + 1, by go_num, by omega, HT.out⟩
        case measure => simp [intOf]; omega
      | false =>
        have HT : Hid (m = j) := Lib.hid (by rw [← HJ.out, ← HM.out, scS_here scB l m hml (by rw [hc]; exact hbl)])
        have hd := scB_iff hbl
        clear hbl hc
        go_wp2
        refine bodyPost_ret (v := .agg #[.string S, .int .i64 (m : Int)]) (by simp [results, Try.results56, go_sem, ys, yn]) rfl ⟨by rw [HT.out], ?_⟩
        exact (HB.out.setCell (by simp) _).setCell (by simp) _
    · have HT : Hid (m = j) := Lib.hid (by rw [← HJ.out, ← HM.out, scS_end scB l m (by have := HZ.out; omega)])
      go_wp2
      refine bodyPost_ret (v := .agg #[.string S, .int .i64 (m : Int)]) (by simp [results, Try.results56, go_sem, ys, yn]) rfl ⟨by rw [HT.out], ?_⟩
      exact (HB.out.setCell (by simp) _).setCell (by simp) _

theorem keepR {W w w' : World} {A : Nat} {a0 a1 : Value} (hb : Below w.heap.size w w') (h : Below W.heap.size W w ∧ A < w.heap.size ∧ w.cell? ⟨A, 0, none⟩ = some a0 ∧ w.cell? ⟨A, 1, none⟩ = some a1) :
    Below W.heap.size W w' ∧ A < w'.heap.size ∧ w'.cell? ⟨A, 0, none⟩ = some a0 ∧ w'.cell? ⟨A, 1, none⟩ = some a1 := by
  obtain ⟨h0, h1, g1, g2⟩ := h
  have hz := hb.size
  exact ⟨below_then h0 hb, by omega, (hb.cell (p := ⟨A, 0, none⟩) h1).trans g1, (hb.cell (p := ⟨A, 1, none⟩) h1).trans g2⟩
theorem mkR {W w : World} {A : Nat} {t : TypeId} {S : ByteArray} {i : Int} (h : Below W.heap.size W w) (ha : Src w A t S i) : Below W.heap.size W w ∧ A < w.heap.size ∧ w.cell? ⟨A, 0, none⟩ = some (.string S) ∧ w.cell? ⟨A, 1, none⟩ = some (.int .i64 i) := ⟨h, ha.lt, ha.s, ha.n⟩
set_option maxHeartbeats 2000000 in
theorem rparse_is (l : List UInt8) (i d : Int) (k j n : Nat) (S T : ByteArray) (hS : S = ⟨l.toArray⟩) (hl : l.length ≤ 2000) (hk : scA l i = k) (hj : scS (scN d) l k = j) (hn : min (j + 1) l.length = n) (hT : T = ⟨(scT l k j).toArray⟩) (w : World) :
    Calls Try.prog 55 #[.agg #[.string S, .int .i64 i], .int .i64 d] w fun e w' => e = .returned (.tuple #[.string T, .agg #[.string S, .int .i64 (n : Int)]]) ∧ Below w.heap.size w w' := by
  have hz : S.size = l.length := by rw [hS, size_mk]
  have hsz : S.size ≤ 2000 := by omega
  have HA := Lib.hid (scA_str hS hk)
  have hkz : k ≤ S.size := by rw [hz, ← hk]; exact scA_le l i
  have HJ := Lib.hid hj
  have HS := Lib.hid hS
  have HZ := Lib.hid hz
  have hkj : k ≤ j := by rw [← hj]; exact scS_ge _ _ _
  have hjz : j ≤ S.size := by rw [hz, ← hj]; exact scS_le _ _ _ (by omega)
  have HN : Hid ((j < S.size ∧ n = j + 1) ∨ (j = S.size ∧ n = S.size)) := Lib.hid (by omega)
  have hex : S.extract k j = T := ext_of hS k j hT
  clear hk hj hS hz hT hn
  go_enter Try.func55, Try.ntmps55
  go_wp2_with (go_at_call 57; refine (rat_is S i k HA.out _).mono ?_; rintro e w1 ⟨rfl, hb1⟩; have X1 := Lib.hid (((Src.new w 81 S i).alloc (.cells #[.string ⟨#[]⟩, .int .i64 0] 81)).keep hb1); have X2 := Lib.hid (Src.keep (w' := w1) (by have h := Src.new (w.alloc (.cells #[.string S, .int .i64 i] 81)) 81 ⟨#[]⟩ 0; rw [World.size_alloc] at h; exact h) hb1); have HB := Lib.hid (below_then (two_new w _ _) hb1); clear hb1)
  have hs := X1.out.s
  have ys := X2.out.s
  have yn := X2.out.n
  have yfs := X2.out.fs
  have yfn := X2.out.fn
  go_loop [7] (fun t => ∃ m : Nat, t = .int .i64 m ∧ k ≤ m ∧ m ≤ S.size ∧ scS (scN d) l m = scS (scN d) l k) (fun t => S.size - (intOf t).toNat)
  case atStart => exact ⟨k, rfl, Nat.le_refl _, hkz, rfl⟩
  case round =>
    obtain ⟨m, rfl, hkm, hm, hsm⟩ := hrel
    have HM := Lib.hid hsm
    clear hsm
    by_cases hp : m < S.size
    · have hml : m < l.length := by rw [← HZ.out]; exact hp
      obtain ⟨c, hc⟩ : ∃ c, l[m] = c := ⟨_, rfl⟩
      have hSk : S[m]'hp = c := by rw [← hc]; have := HS.out; subst this; rfl
      cases hbl : scE d c with
      | false =>
        have HT : Hid (scS (scN d) l (m + 1) = scS (scN d) l k) := Lib.hid (by rw [← HM.out, scS_step _ l m hml (by rw [hc]; unfold scN; rw [hbl]; rfl)])
        have HBL := Lib.hid hbl
        clear hbl hc
        go_wp2_with (go_at_call 58; refine (ris_is c d false HBL.out _).mono ?_; rintro e w' ⟨rfl, rfl⟩)
        go_round
        case rel => exact ⟨m + 1, by go_num, by omega, by omega, HT.out⟩
        case measure => simp [intOf]; omega
      | true =>
        obtain rfl : m = j := by rw [← HJ.out, ← HM.out, scS_here _ l m hml (by rw [hc]; unfold scN; rw [hbl]; rfl)]
        have hnj : n = m + 1 := by have := HN.out; omega
        subst hnj
        have HBL := Lib.hid hbl
        clear hbl hc
        go_wp2_with (go_at_call 58; refine (ris_is c d true HBL.out _).mono ?_; rintro e w' ⟨rfl, rfl⟩)
        go_region
        all_goals
          go_wp2
          refine bodyPost_ret (v := .tuple #[.string T, .agg #[.string S, .int .i64 ((m : Int) + 1)]]) (by simp [results, Try.results55, go_sem, ys, yn]) rfl ⟨rfl, ?_⟩
          exact ((HB.out.drew.setCell (by simp) _).setCell (by simp) _)
    · obtain rfl : m = j := by rw [← HJ.out, ← HM.out, scS_end _ l m (by have := HZ.out; omega)]
      obtain rfl : m = S.size := by omega
      obtain rfl : n = S.size := by have := HN.out; omega
      go_wp2
      go_region
      all_goals
        go_wp2
        refine bodyPost_ret (v := .tuple #[.string T, .agg #[.string S, .int .i64 (S.size : Int)]]) (by simp [results, Try.results55, go_sem, ys, yn]) rfl ⟨rfl, ?_⟩
        exact ((HB.out.drew.setCell (by simp) _).setCell (by simp) _)
set_option maxHeartbeats 400000 in
theorem rword_is (l : List UInt8) (i : Int) (k j n : Nat) (S T : ByteArray) (hS : S = ⟨l.toArray⟩) (hl : l.length ≤ 2000) (hk : scS scB l (scA l i) = k) (hj : scS (scN 32) l k = j) (hn : min (j + 1) l.length = n) (hT : T = ⟨(scT l k j).toArray⟩) (w : World) :
    Calls Try.prog 51 #[.agg #[.string S, .int .i64 i]] w fun e w' => e = .returned (.tuple #[.string T, .agg #[.string S, .int .i64 (n : Int)]]) ∧ Below w.heap.size w w' := by
  have hkl : k ≤ l.length := by rw [← hk]; exact scS_le _ _ _ (scA_le l i)
  have HP := Lib.hid (rparse_is l (k : Int) 32 k j n S T hS hl (scA_nat l k hkl) hj hn hT)
  have HK := Lib.hid (rskip_is l i _ k S hS hl rfl hk)
  clear hS hl hk hj hn hT hkl
  go_enter Try.func51, Try.ntmps51
  go_wp2_with (first
    | (go_at_call 56; refine (HK.out _).mono ?_; rintro e w1 ⟨rfl, hb1⟩; have X1 := Lib.hid (Src.keep (w' := w1) (by have h := Src.new (w.alloc (.cells #[.string S, .int .i64 i] 81)) 81 ⟨#[]⟩ 0; rw [World.size_alloc] at h; exact h) hb1); have HB1 := Lib.hid (below_then (two_new w _ _) hb1); clear hb1)
    | (go_at_call 55; refine (HP.out _).mono ?_; rintro e w2 ⟨rfl, hb2⟩; have X2 := Lib.hid (X1.out.keep hb2); have hs := X2.out.s; have hi := X2.out.n; have h1 := X2.out.fs; have h2 := X2.out.fn; have HB2 := Lib.hid (below_then HB1.out hb2); clear hb2))
  refine bodyPost_ret (v := .tuple #[.string T, .agg #[.string S, .int .i64 (n : Int)]]) (by simp [results, Try.results51, go_sem, hs, hi]) rfl ⟨rfl, ?_⟩
  exact (HB2.out.setCell (by simp) _).setCell (by simp) _
end Go.Proofs.Ytkpomphjicoaeaa
