/-
  HistApart answers true, whatever is told of others.
-/
import Derived.Test.YtpkjepbeeebdoaaDoorHistAwake
import Derived.Test.YtpkjepbeeebdoaaDoorCellMath
namespace Go.Proofs.YtpkjepbeeebdoaaDoor
open Go.RowKit

/-- A number with its fourth digit of two turned is another one. -/
theorem xor8_ne (a : Int) : bits .xor .i64 a 8 ≠ a := by
  intro h
  have h1 : bits .xor .i64 a 8 = wrap64 ((BitVec.ofInt 64 a ^^^ BitVec.ofInt 64 8).toNat : Int) := by show IntKind.i64.wrap _ = _; rw [wrapi64]; rfl
  have h2 : ∀ u : BitVec 64, BitVec.ofInt 64 (wrap64 (u.toNat : Int)) = u := by
    intro u
    apply BitVec.eq_of_toNat_eq
    rw [ofInt64]
    have := u.isLt
    unfold wrap64
    omega
  have h3 := h2 (BitVec.ofInt 64 a ^^^ BitVec.ofInt 64 8)
  rw [← h1, h] at h3
  generalize BitVec.ofInt 64 a = u at h3
  have h4 : u ^^^ u = u ^^^ (u ^^^ BitVec.ofInt 64 8) := congrArg (fun v => u ^^^ v) h3
  rw [← BitVec.xor_assoc, BitVec.xor_self, BitVec.zero_xor] at h4
  exact absurd h4 (by decide)
theorem hhold_at (A : Option Addr) (n c : Nat) (l : List Evt) (a x : Int) (b : Bool) (w : World) (hn : n ≤ 1000) (h1 : hdN l a = x) (h2 : hdB l a = b) (h : Rw evK w A n c l) (hT : TabH w) :
    Calls Tryd.prog 7 #[.slice A n c, .int .i64 a] w fun e w' => e = .returned (.tuple #[.int .i64 x, .bool b]) ∧ Below w.heap.size w w' := by
  have := hhold_is A n c l a w hn h hT
  rw [h1, h2] at this
  exact this
theorem hsig_at (A : Option Addr) (n c : Nat) (l : List Evt) (a x : Int) (b : Bool) (w : World) (hn : n ≤ 1000) (h1 : sgN l a 3 = x) (h2 : sgB l a 3 = b) (h : Rw evK w A n c l) (hT : TabH w) :
    Calls Tryd.prog 8 #[.slice A n c, .int .i64 a, .int .i64 3] w fun e w' => e = .returned (.tuple #[.int .i64 x, .bool b]) ∧ Below w.heap.size w w' := by
  have := hsig_is A n c l a 3 w hn h hT (by decide) (by decide)
  rw [h1, h2] at this
  exact this
set_option maxHeartbeats 8000000 in
set_option maxRecDepth 8000 in
theorem hapart_any (A : Option Addr) (n c : Nat) (l : List Evt) (d : Int) (B : Option Addr) (m f : Nat) (o : List Evt) (t : Int) (w : World) (h : Rw evK w A n c l) (h' : Rw evK w B m f o) (hT : TabH w) :
    Calls Tryd.prog 4 #[.slice A n c, .int .i64 d, .slice B m f, .int .i64 t] w fun e w' => e = .returned (.bool true) ∧ Below w.heap.size w w' := by
  have H := Lib.hid h
  have G := Lib.hid h'
  have HL := Lib.hid h.len
  have GL := Lib.hid h'.len
  have HT := Lib.hid hT
  clear h h' hT
  by_cases hn : n ≤ 200
  rotate_left
  · have d1 : decide ((200 : Int) < (n : Int)) = true := decide_eq_true (by omega)
    go_enter Tryd.func4, Tryd.ntmps4
    go_wp2_with (go_at_call 5; (with_reducible refine (hawake_any _ HT.out).mono ?_); rintro e w1 ⟨rfl, hb⟩; have HB := Lib.hid hb; clear hb)
    go_ret
    exact ⟨rfl, HB.out⟩
  have d1 : decide ((200 : Int) < (n : Int)) = false := decide_eq_false (by omega)
  by_cases hm : m ≤ 100
  rotate_left
  · have d2 : decide ((100 : Int) < (m : Int)) = true := decide_eq_true (by omega)
    go_enter Tryd.func4, Tryd.ntmps4
    go_wp2_with (go_at_call 5; (with_reducible refine (hawake_any _ HT.out).mono ?_); rintro e w1 ⟨rfl, hb⟩; have HB := Lib.hid hb; clear hb)
    go_ret
    exact ⟨rfl, HB.out⟩
  have d2 : decide ((100 : Int) < (m : Int)) = false := decide_eq_false (by omega)
  obtain ⟨x, hx⟩ : ∃ x, bits .xor .i64 d 8 = x := ⟨_, rfl⟩
  have hne : x ≠ d := by rw [← hx]; exact xor8_ne d
  have HO := evO_all (t := t) hne o
  have E1 := Lib.hid (hoL_app l _ d HO)
  have E2 := Lib.hid (hoB_app l _ d HO)
  have E3 := Lib.hid (hdN_app l _ d HO)
  have E4 := Lib.hid (hdB_app l _ d HO)
  have E5 := Lib.hid (sgN_app l _ d 3 HO)
  have E6 := Lib.hid (sgB_app l _ d 3 HO)
  have HK := Lib.hid (ho_le l d)
  clear HO hne
  go_enter Tryd.func4, Tryd.ntmps4
  go_upto_region 4 with (go_at_call 5; (with_reducible refine (hawake_any _ HT.out).mono ?_); rintro e w1 ⟨rfl, hb⟩; have HB := Lib.hid hb; have H := Lib.hid (H.out.below hb); have G := Lib.hid (G.out.below hb); clear hb)
  have O0 := Lib.hid (OwnR.made evK 30 w1.heap.size w1 (Nat.le_refl _) _ rfl)
  have B0 := Lib.hid (below_one w1 (.cells #[] 30))
  go_upto_region 5 with (at_builtin; refine wpList_appRw ktEv (B := w1.heap.size) rfl (.tmp 35) (.tmp 36) rfl rfl rfl B0.out.size O0.out (H.out.below B0.out) (by omega) ?_; intro A3 c3 w3 hw3 hb3; have OW := Lib.hid hw3; have HV := Lib.hid (B0.out.trans hb3); clear hw3 hb3)
  rw [List.nil_append] at OW
  go_upto_region 6 with (fail)
  go_loopw [10, 11] (fun v i wr => ∃ (j : Nat) (A' : Option Addr) (c' : Nat), j ≤ m ∧ i = .int .i64 j ∧ v = .slice A' (n + j) c' ∧ OwnR evK 30 w1.heap.size wr A' (n + j) c' (l ++ (o.take j).map (evO d t x)) ∧ Below w1.heap.size w1 wr) (fun _ i _ => ((m : Int) - intOf i).toNat)
  case atStart => exact ⟨0, A3, c3, by omega, rfl, rfl, by simpa using OW.out, HV.out⟩
  case round =>
    obtain ⟨j, A', c', hj, rfl, rfl, hO, hb⟩ := hrel
    obtain ⟨W0, rfl⟩ : ∃ W0, W0 = wr := ⟨_, rfl⟩
    clear OW HV
    have OW := Lib.hid hO
    have HV := Lib.hid hb
    clear hO hb
    by_cases hlt : j < m
    · have hjl : j < o.length := by rw [GL.out]; exact hlt
      obtain ⟨xb, xo, rfl, hbl, f0, f1, f2, f3⟩ := ev_at (G.out.below HV.out) j hlt
      obtain ⟨y, hy⟩ : ∃ y, o.getD j ez = y := ⟨_, rfl⟩
      have HX := Lib.hid (take_one o j ez hjl y hy)
      rw [hy] at f0 f1 f2 f3
      obtain ⟨et, ek, ea, ev⟩ := y
      dsimp only at f0 f1 f2 f3
      obtain ⟨g, hg⟩ : ∃ g, W0.heap.size = g := ⟨_, rfl⟩
      have K1 : Hid (Bk evK (W0.alloc (.cells #[.int .i64 et, .int .i64 ek, .int .i64 ea, .int .i64 ev] 30)) g 30 ⟨et, ek, ea, ev⟩) := Lib.hid (Bk.at_ (K := evK) W0 30 ⟨et, ek, ea, ev⟩ _ rfl g hg)
      have B1 := Lib.hid (below_one W0 (.cells #[.int .i64 et, .int .i64 ek, .int .i64 ea, .int .i64 ev] 30))
      have HG := Lib.hid (Nat.le_of_eq hg)
      clear hy
      go_upto_region 9 with (fail)
      generalize W0.alloc (.cells #[.int .i64 et, .int .i64 ek, .int .i64 ea, .int .i64 ev] 30) = V1 at *
      clear f0 f1 f2 f3
      have z0 := K1.out.f 0
      have zl := K1.out.lt
      have c0 : V1.cell? ⟨g, 0, none⟩ = some (.int .i64 et) := K1.out.cell 0
      have K2 : Hid (Bk evK (V1.setCell ⟨g, 0, none⟩ (.int .i64 t)) g 30 ⟨t, ek, ea, ev⟩) := Lib.hid (K1.out.set 0 _ _ rfl)
      have B2 : Hid (Below W0.heap.size W0 (V1.setCell ⟨g, 0, none⟩ (.int .i64 t))) := Lib.hid (B1.out.setCell HG.out _)
      go_upto_region 10 with (fail)
      generalize V1.setCell ⟨g, 0, none⟩ (.int .i64 t) = V2 at *
      clear z0 zl c0 K1 B1 V1
      have z2 := K2.out.f 2
      have zl := K2.out.lt
      have c0 : V2.cell? ⟨g, 0, none⟩ = some (.int .i64 t) := K2.out.cell 0
      have c1 : V2.cell? ⟨g, 1, none⟩ = some (.int .i64 ek) := K2.out.cell 1
      have c2 : V2.cell? ⟨g, 2, none⟩ = some (.int .i64 ea) := K2.out.cell 2
      have c3 : V2.cell? ⟨g, 3, none⟩ = some (.int .i64 ev) := K2.out.cell 3
      cases hda : (ea == d)
      · have HE : Hid (evO d t x ⟨et, ek, ea, ev⟩ = ⟨t, ek, ea, ev⟩) := Lib.hid (by unfold evO; rw [if_neg (by simpa using hda)])
        have I2 := Lib.hid (Rw.new (K := evK) V2 30 [⟨t, ek, ea, ev⟩] 1 rfl _ rfl _ rfl)
        have B3 := Lib.hid (B2.out.trans ((below_one V2 (.cells #[.int .i64 t, .int .i64 ek, .int .i64 ea, .int .i64 ev] 30)).mono B2.out.size))
        go_wp2_with (at_builtin; refine wpList_appRw ktEv (B := w1.heap.size) rfl (.tmp 57) (.tmp 59) rfl rfl rfl (Nat.le_trans HV.out.size B3.out.size) (OW.out.keep B3.out) I2.out (by omega) ?_; intro A4 c4 w4 hw4 hb4; have OX := Lib.hid hw4; have B4 := Lib.hid ((HV.out.trans (B3.out.mono HV.out.size)).trans hb4); clear hw4 hb4)
        go_roundw
        case rel => exact ⟨j + 1, A4, c4, by omega, by go_num, rfl, by rw [HX.out, List.map_append, List.map_cons, List.map_nil, HE.out, ← List.append_assoc]; exact OX.out, B4.out⟩
        case measure => simp [intOf]; omega
      · have HE : Hid (evO d t x ⟨et, ek, ea, ev⟩ = ⟨t, ek, x, ev⟩) := Lib.hid (by unfold evO; rw [if_pos (by simpa using hda)])
        have K3 : Hid (Bk evK (V2.setCell ⟨g, 2, none⟩ (.int .i64 x)) g 30 ⟨t, ek, x, ev⟩) := Lib.hid (K2.out.set 2 _ _ rfl)
        have B3 : Hid (Below W0.heap.size W0 (V2.setCell ⟨g, 2, none⟩ (.int .i64 x))) := Lib.hid (B2.out.setCell HG.out _)
        go_upto_region 12 with (fail)
        generalize V2.setCell ⟨g, 2, none⟩ (.int .i64 x) = V3 at *
        clear z2 zl c0 c1 c2 c3 K2 B2
        have zl := K3.out.lt
        have c0 : V3.cell? ⟨g, 0, none⟩ = some (.int .i64 t) := K3.out.cell 0
        have c1 : V3.cell? ⟨g, 1, none⟩ = some (.int .i64 ek) := K3.out.cell 1
        have c2 : V3.cell? ⟨g, 2, none⟩ = some (.int .i64 x) := K3.out.cell 2
        have c3 : V3.cell? ⟨g, 3, none⟩ = some (.int .i64 ev) := K3.out.cell 3
        have I2 := Lib.hid (Rw.new (K := evK) V3 30 [⟨t, ek, x, ev⟩] 1 rfl _ rfl _ rfl)
        have B5 := Lib.hid (B3.out.trans ((below_one V3 (.cells #[.int .i64 t, .int .i64 ek, .int .i64 x, .int .i64 ev] 30)).mono B3.out.size))
        go_wp2_with (at_builtin; refine wpList_appRw ktEv (B := w1.heap.size) rfl (.tmp 57) (.tmp 59) rfl rfl rfl (Nat.le_trans HV.out.size B5.out.size) (OW.out.keep B5.out) I2.out (by omega) ?_; intro A4 c4 w4 hw4 hb4; have OX := Lib.hid hw4; have B4 := Lib.hid ((HV.out.trans (B5.out.mono HV.out.size)).trans hb4); clear hw4 hb4)
        go_roundw
        case rel => exact ⟨j + 1, A4, c4, by omega, by go_num, rfl, by rw [HX.out, List.map_append, List.map_cons, List.map_nil, HE.out, ← List.append_assoc]; exact OX.out, B4.out⟩
        case measure => simp [intOf]; omega
    · obtain rfl : j = m := by omega
      have RW : Hid (Rw evK W0 A' (n + j) c' (l ++ o.map (evO d t x))) := Lib.hid ((OW.out.rw (by decide)).as (by rw [List.take_of_length_le (by rw [GL.out]; exact Nat.le_refl _)]))
      have HB := Lib.hid (below_then HB.out HV.out)
      have H := Lib.hid (H.out.below HV.out)
      clear OW HV G
      obtain ⟨M, hM⟩ : ∃ M, hoL l d = M := ⟨_, rfl⟩
      obtain ⟨b, hb⟩ : ∃ b, hoB l d = b := ⟨_, rfl⟩
      obtain ⟨x1, h1⟩ : ∃ b, hdN l d = b := ⟨_, rfl⟩
      obtain ⟨b1, h2⟩ : ∃ b, hdB l d = b := ⟨_, rfl⟩
      obtain ⟨x2, h3⟩ : ∃ b, sgN l d 3 = b := ⟨_, rfl⟩
      obtain ⟨b2, h4⟩ : ∃ b, sgB l d 3 = b := ⟨_, rfl⟩
      rw [hM] at E1 HK; rw [hb] at E2; rw [h1] at E3; rw [h2] at E4; rw [h3] at E5; rw [h4] at E6
      have F1 := Lib.hid hM; have F2 := Lib.hid hb; have F3 := Lib.hid h1; have F4 := Lib.hid h2; have F5 := Lib.hid h3; have F6 := Lib.hid h4
      clear hM hb h1 h2 h3 h4
      have hn1 : n ≤ 1000 := by omega
      have hn2 : n + j ≤ 1000 := by omega
      have HKM : Hid (M.length ≤ 1000) := Lib.hid (by have := HK.out; have := HL.out; omega)
      go_upto_region 14 with (go_at_call 6; (with_reducible refine (hops_at A n c l d M b _ hn1 F1.out F2.out H.out (HT.out.keep HB.out)).mono ?_); rintro e w2 ⟨A2, n2, c2, rfl, hi, hb⟩; have HB := Lib.hid (below_then HB.out hb); have H := Lib.hid (H.out.below hb); have RW := Lib.hid (RW.out.below hb); have P1 := Lib.hid hi; clear hi hb)
      go_upto_region 15 with (go_at_call 6; (with_reducible refine (hops_at A' (n + j) c' _ d M b _ hn2 E1.out E2.out RW.out (HT.out.keep HB.out)).mono ?_); rintro e w3 ⟨A3, n3, c3, rfl, hi, hb⟩; have HB := Lib.hid (below_then HB.out hb); have H := Lib.hid (H.out.below hb); have RW := Lib.hid (RW.out.below hb); have P1 := Lib.hid (P1.out.below hb); have P2 := Lib.hid hi; clear hi hb)
      obtain rfl : n2 = n3 := P1.out.len.symm.trans P2.out.len
      have hn3 : n2 ≤ 1000 := by rw [← P1.out.len]; exact HKM.out
      go_upto_region 16 with (go_at_call 7; (with_reducible refine (hhold_at A n c l d x1 b1 _ hn1 F3.out F4.out H.out (HT.out.keep HB.out)).mono ?_); rintro e w4 ⟨rfl, hb⟩; have HB := Lib.hid (below_then HB.out hb); have H := Lib.hid (H.out.below hb); have RW := Lib.hid (RW.out.below hb); have P1 := Lib.hid (P1.out.below hb); have P2 := Lib.hid (P2.out.below hb); clear hb)
      go_upto_region 17 with (go_at_call 7; (with_reducible refine (hhold_at A' (n + j) c' _ d x1 b1 _ hn2 E3.out E4.out RW.out (HT.out.keep HB.out)).mono ?_); rintro e w5 ⟨rfl, hb⟩; have HB := Lib.hid (below_then HB.out hb); have H := Lib.hid (H.out.below hb); have RW := Lib.hid (RW.out.below hb); have P1 := Lib.hid (P1.out.below hb); have P2 := Lib.hid (P2.out.below hb); clear hb)
      go_upto_region 18 with (go_at_call 8; (with_reducible refine (hsig_at A n c l d x2 b2 _ hn1 F5.out F6.out H.out (HT.out.keep HB.out)).mono ?_); rintro e w6 ⟨rfl, hb⟩; have HB := Lib.hid (below_then HB.out hb); have H := Lib.hid (H.out.below hb); have RW := Lib.hid (RW.out.below hb); have P1 := Lib.hid (P1.out.below hb); have P2 := Lib.hid (P2.out.below hb); clear hb)
      go_upto_region 19 with (go_at_call 8; (with_reducible refine (hsig_at A' (n + j) c' _ d x2 b2 _ hn2 E5.out E6.out RW.out (HT.out.keep HB.out)).mono ?_); rintro e w7 ⟨rfl, hb⟩; have HB := Lib.hid (below_then HB.out hb); have P1 := Lib.hid (P1.out.below hb); have P2 := Lib.hid (P2.out.below hb); clear hb)
      have q1 : (b == b) = true := by simp
      have q2 : (x1 == x1) = true := by simp
      have q3 : (b1 == b1) = true := by simp
      have q4 : (x2 == x2) = true := by simp
      have q5 : (b2 == b2) = true := by simp
      go_wp2_with (first
      | (go_at_call 10; (have hz := PX); (with_reducible refine (parts_is A3 n2 c3 M _ hn3 P2.out).mono ?_); rintro e w9 ⟨A9, c9, rfl, hi, hb⟩; have HB := Lib.hid (below_then HB.out hb); have PX := Lib.hid (PX.out.below hb); have PY := Lib.hid hi; clear hi hb)
      | (go_at_call 10; (with_reducible refine (parts_is A2 n2 c2 M _ hn3 P1.out).mono ?_); rintro e w8 ⟨A8, c8, rfl, hi, hb⟩; have HB := Lib.hid (below_then HB.out hb); have P2 := Lib.hid (P2.out.below hb); have PX := Lib.hid hi; clear hi hb)
      | (go_at_call 9; (with_reducible refine (rhsame_is A8 n2 c8 A9 n2 c9 M _ hn3 PX.out PY.out).mono ?_); rintro e w10 ⟨rfl, hb⟩; have HB := Lib.hid (below_then HB.out hb); clear hb))
      go_ret
      exact ⟨rfl, HB.out⟩
end Go.Proofs.YtpkjepbeeebdoaaDoor
