/-
  What the calls DText, Text and UText of package num answer: a number's text by a base, with its sign and without.
-/
import Derived.Test.YthifehekhcmldaaDoorNumText
namespace Go.Proofs.YthifehekhcmldaaDoor
open Go.RowKit

theorem ndigits_no (x b : Int) (hb : baB b = false) (w : World) :
    Calls Tryd.prog 24 #[.agg #[.int .i64 (dLo x), .int .i64 (dHi x)], .int .i64 b] w fun e w' => e = .returned (.string ⟨#[]⟩) ∧ Keeps w w' := by
  have HB := Lib.hid hb
  clear hb
  go_enter Tryd.func24, Tryd.ntmps24
  go_wp2_with (go_at_call 25; refine (isBase_is b false HB.out _).mono ?_; rintro e w' ⟨rfl, rfl⟩)
  go_ret
  exact ⟨rfl, (Keeps.refl w).alloc _⟩
theorem ndigits_any (x b : Int) (w : World) :
    Calls Tryd.prog 24 #[.agg #[.int .i64 (dLo x), .int .i64 (dHi x)], .int .i64 b] w fun e w' => e = .returned (.string ⟨(dTu b x).toArray⟩) ∧ Keeps w w' := by
  unfold dTu
  cases hb : baB b with
  | false => exact ndigits_no x b hb w
  | true =>
    have h2 := baB_iff.1 hb
    obtain ⟨n, rfl⟩ : ∃ n : Nat, b = n := ⟨b.toNat, by omega⟩
    exact ndigits_yes x n hb w
theorem ndigits_is (x b : Int) (S : ByteArray) (h : S = ⟨(dTu b x).toArray⟩) (w : World) :
    Calls Tryd.prog 24 #[.agg #[.int .i64 (dLo x), .int .i64 (dHi x)], .int .i64 b] w fun e w' => e = .returned (.string S) ∧ Keeps w w' := h ▸ ndigits_any x b w
theorem dTx_neg {b x : Int} (hb : baB b = true) (hx : InD x) (h : x < 0) : dTx b x = 45 :: dTu b (-x) := by
  unfold dTx dTu
  unfold InD at hx
  rw [hb, if_pos rfl, if_pos rfl, if_pos h]
  rw [show (-x) % 340282366920938463463374607431768211456 = -x by omega]
theorem dTx_pos {b x : Int} (hx : InD x) (h : ¬ x < 0) : dTx b x = dTu b x := by
  unfold dTx dTu
  unfold InD at hx
  rw [if_neg h, show x % 340282366920938463463374607431768211456 = x by omega]
theorem dTx_no {b x : Int} (hb : baB b = false) : dTx b x = [] := by unfold dTx; rw [hb]; rfl
theorem dTu_no {b x : Int} (hb : baB b = false) : dTu b x = [] := by unfold dTu; rw [hb]; rfl
theorem dTu_len (b x : Int) : (dTu b x).length ≤ 128 := by
  unfold dTu
  cases hb : baB b with
  | false => simp
  | true =>
    have := baB_iff.1 hb
    rw [if_pos rfl]
    exact uT_len (by omega) 127 _ (by omega)
set_option maxHeartbeats 400000 in
theorem dtext_any (x b : Int) (hx : InD x) (w : World) :
    Calls Tryd.prog 13 #[.agg #[.int .i64 (dLo x), .int .i64 (dHi x)], .int .i64 b] w fun e w' => e = .returned (.string ⟨(dTx b x).toArray⟩) ∧ Keeps w w' := by
  have hiff := dHi_neg hx
  by_cases h : x < 0
  · have hn : dHi x < 0 := hiff.2 h
    cases hb : baB b with
    | false =>
      have HB := Lib.hid hb
      have HE : Hid (dTx b x = dTu b x) := Lib.hid (by rw [dTx_no hb, dTu_no hb])
      clear hb hiff h
      obtain ⟨S, hS⟩ : ∃ S : ByteArray, S = ⟨(dTu b x).toArray⟩ := ⟨_, rfl⟩
      have HS := Lib.hid hS
      clear hS
      go_enter Tryd.func13, Tryd.ntmps13
      go_wp2_with (first
        | (go_at_call 25; refine (isBase_is b false HB.out _).mono ?_; rintro e w' ⟨rfl, rfl⟩)
        | (go_at_call 24; refine (ndigits_is x b S HS.out _).mono ?_; rintro e w1 ⟨rfl, hw1⟩))
      go_ret
      exact ⟨ret_str (by rw [HS.out, HE.out]), ((Keeps.refl w).alloc _).trans hw1⟩
    | true =>
      have HB := Lib.hid hb
      obtain ⟨S, hS⟩ : ∃ S : ByteArray, S = ⟨(dTu b (-x)).toArray⟩ := ⟨_, rfl⟩
      have HS := Lib.hid hS
      have HE : Hid ((⟨#[45]⟩ : ByteArray) ++ S = ⟨(dTx b x).toArray⟩) := Lib.hid (by rw [hS, dTx_neg hb hx h]; exact ByteArray.mk_append_mk [45] _)
      have hsz : ¬ 9223372036854775807 < (⟨#[45]⟩ : ByteArray).size + S.size := by rw [hS, size_mk]; have := dTu_len b (-x); simp [ByteArray.size]; omega
      clear hS hb hiff h
      go_enter Tryd.func13, Tryd.ntmps13
      go_wp2_with (first
        | (go_at_call 25; refine (isBase_is b true HB.out _).mono ?_; rintro e w' ⟨rfl, rfl⟩)
        | (go_at_call 23; refine (dneg_any x _).mono ?_; rintro e w2 ⟨rfl, hw2⟩)
        | (go_at_call 24; refine (ndigits_is (-x) b S HS.out _).mono ?_; rintro e w1 ⟨rfl, hw1⟩))
      go_ret
      exact ⟨ret_str HE.out, (((Keeps.refl w).alloc _).trans (Keeps.of_grown hw2)).trans hw1⟩
  · have hn : ¬ dHi x < 0 := fun k => h (hiff.1 k)
    have HE : Hid (dTx b x = dTu b x) := Lib.hid (dTx_pos hx h)
    clear hiff h
    obtain ⟨S, hS⟩ : ∃ S : ByteArray, S = ⟨(dTu b x).toArray⟩ := ⟨_, rfl⟩
    have HS := Lib.hid hS
    clear hS
    go_enter Tryd.func13, Tryd.ntmps13
    go_wp2_with (go_at_call 24; refine (ndigits_is x b S HS.out _).mono ?_; rintro e w1 ⟨rfl, hw1⟩)
    go_ret
    exact ⟨ret_str (by rw [HS.out, HE.out]), ((Keeps.refl w).alloc _).trans hw1⟩
theorem dtext_is (x b : Int) (hx : InD x) (S : ByteArray) (h : S = ⟨(dTx b x).toArray⟩) (w : World) :
    Calls Tryd.prog 13 #[.agg #[.int .i64 (dLo x), .int .i64 (dHi x)], .int .i64 b] w fun e w' => e = .returned (.string S) ∧ Keeps w w' := h ▸ dtext_any x b hx w
theorem text_is (n b : Int) (hn : InC n) (S : ByteArray) (h : S = ⟨(dTx b n).toArray⟩) (w : World) :
    Calls Tryd.prog 11 #[.int .i64 n, .int .i64 b] w fun e w' => e = .returned (.string S) ∧ Keeps w w' := by
  have HS := Lib.hid h
  have hd := inD_cell hn
  clear h
  go_enter Tryd.func11, Tryd.ntmps11
  go_wp2_with (first
    | (go_at_call 16; refine (dof_any n hn _).mono ?_; rintro e w1 ⟨rfl, hw1⟩)
    | (go_at_call 13; refine (dtext_is n b hd S HS.out _).mono ?_; rintro e w2 ⟨rfl, hw2⟩))
  go_ret
  exact ⟨rfl, (Keeps.of_grown hw1).trans hw2⟩
theorem uTx_dTu {b n : Int} : uTx b n = dTu b (n % 18446744073709551616) := by
  unfold uTx dTu
  rw [show n % 18446744073709551616 % 340282366920938463463374607431768211456 = n % 18446744073709551616 by omega]
theorem utext_is (n b : Int) (hn : InC n) (S : ByteArray) (h : S = ⟨(uTx b n).toArray⟩) (w : World) :
    Calls Tryd.prog 12 #[.int .i64 n, .int .i64 b] w fun e w' => e = .returned (.string S) ∧ Keeps w w' := by
  rw [uTx_dTu] at h
  have HC := Lib.hid (ndigits_is (n % 18446744073709551616) b S h)
  rw [dLo_un n hn, dHi_un] at HC
  clear h
  go_enter Tryd.func12, Tryd.ntmps12
  go_wp2_with (go_at_call 24; refine (HC.out _).mono ?_; rintro e w2 ⟨rfl, hw2⟩)
  go_ret
  exact ⟨rfl, hw2⟩
end Go.Proofs.YthifehekhcmldaaDoor
