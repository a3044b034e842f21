/-
  The document's example of layer 10, as the statements ask for it: ready lays a user's area with a base, and awake answers true; of what was there nothing has changed.
-/
import Derived.Test.YticeeckahdjjmaaPicReady
import Derived.Test.YticeeckahdjjmaaPicAll
namespace Go.Proofs.Yticeeckahdjjmaa
open Go.RowKit

/-- A memory that a call has made, and nothing else has changed. -/
def MadePost (w : World) (l : List UInt8) (e : Ending) (w' : World) : Prop := ∃ A c, e = .returned (.slice A 128 c) ∧ Mem w' A 128 c l ∧ Keeps w w'
theorem pnew128 (w : World) : Calls Try.prog 37 #[.int .i64 128] w fun e w' => e = .returned (.slice (some ⟨w.heap.size, 0, none⟩) 128 128) ∧ Mem w' (some ⟨w.heap.size, 0, none⟩) 128 128 (List.replicate 128 0) ∧ Below w.heap.size w w' := new_any 128 w (by decide)
theorem pput128 (A : Option Addr) (c : Nat) (w : World) (b : Int) (hm : Mem w A 128 c (List.replicate 128 0)) : Calls Try.prog 26 #[.slice A 128 c, .int .i64 0, .int .i64 b] w (PutPost w 128 (splice (List.replicate 128 0) 0 (mB b))) := put_yes A 128 c _ w 0 b (by decide) hm (by decide)
theorem pbegin128 (A : Option Addr) (c : Nat) (w : World) (b : Int) (hm : Mem w A 128 c (splice (List.replicate 128 0) 0 (mB b))) : Calls Try.prog 8 #[.slice A 128 c, .int .i64 0] w (HoldPost w 128 (piM b []) 0) := by
  have h := pbegin_any A 128 c _ w 0 (by decide) hm
  have e : gL (splice (List.replicate 128 0) 0 (mB b)) 0 = piM b [] := by
    unfold gL
    rw [hm.len, if_pos o128_8]
    exact piM_new b
  rw [e, o128_8] at h
  exact h
theorem ready_any (b : Int) (w : World) : Calls Try.prog 22 #[.int .i64 b] w (MadePost w (piM b [])) := by
  go_enter Try.func22, Try.ntmps22
  go_wp2_with (first
    | (go_at_call 37; refine (pnew128 _).mono ?_; rintro e w1 ⟨rfl, hm1, hb1⟩; have H1 := Lib.hid hm1; have HB1 := Lib.hid hb1; clear hm1 hb1)
    | (go_at_call 26; refine (pput128 _ _ _ b H1.out).mono ?_; rintro e w2 ⟨A2, c2, rfl, hm2, hb2⟩; have H2 := Lib.hid hm2; have HB2 := Lib.hid hb2; clear hm2 hb2)
    | (go_at_call 8; refine (pbegin128 _ _ _ b H2.out).mono ?_; rintro e w3 ⟨A3, c3, rfl, hm3, hk3⟩; have H3 := Lib.hid hm3; have HK3 := Lib.hid hk3; clear hm3 hk3))
  go_ret
  exact ⟨_, _, rfl, H3.out, ((keeps_of_below HB1.out).trans (keeps_of_below HB2.out)).trans HK3.out⟩
/-- 255 by the base 10. -/
def aw3 : List UInt8 := [50, 53, 53]
theorem aw_u : uT 10 255 = aw3 := by
  rw [uT_more (by decide) (by decide), uT_more (by decide) (by decide), uT_small (by decide)]
  decide
theorem all255 (A : Option Addr) (c : Nat) (w : World) (hm : Mem w A 128 c (piM 10 [])) : Calls Try.prog 14 #[.slice A 128 c, .int .i64 0, .agg #[.int .i64 255, .int .i64 0]] w fun e w' => ∃ A' c', e = .returned (.tuple #[.slice A' 128 c', .agg #[.int .i64 0, .int .i64 0], .int .i64 0]) ∧ Mem w' A' 128 c' (piM 10 aw3) ∧ Keeps w w' := by
  have h := piM_aL (b := 10) (by decide) (q := 255) (by decide) (by rw [aw_u]; decide)
  rw [aw_u] at h
  exact pall_is A 128 c _ w 0 255 0 0 255 _ (by decide +kernel) (by decide +kernel) h.1 h.2 (by decide) (by decide) hm
theorem end255 (A : Option Addr) (c : Nat) (w : World) (hm : Mem w A 128 c (piM 10 aw3)) : Calls Try.prog 18 #[.slice A 128 c, .int .i64 0] w fun e w' => e = .returned (.tuple #[.int .i64 125, .int .i64 3, .int .i64 0]) ∧ w = w' := by
  have h := pend_any A 128 c _ w 0 (by decide) hm
  rw [piM_nH 10 (by decide), piM_nN 10 (by decide), piM_nE 10 (by decide)] at h
  exact h
theorem text255 (A : Option Addr) (c : Nat) (w : World) (hm : Mem w A 128 c (piM 10 aw3)) : Calls Try.prog 24 #[.slice A 128 c, .int .i64 125, .int .i64 3] w fun e w' => e = .returned (.tuple #[.string ⟨#[50, 53, 53]⟩, .int .i64 0]) ∧ w = w' := by
  have h := text_yes A 128 c _ w 125 3 (by decide) hm (by decide)
  have e := piM_text 10 (w := aw3) (by decide)
  have e' : mT (piM 10 aw3) 125 3 = aw3 := e
  rw [e'] at h
  exact h
set_option maxHeartbeats 400000 in
theorem pawake_any (w : World) : Calls Try.prog 7 #[] w fun e w' => e = .returned (.bool true) ∧ Keeps w w' := by
  go_enter Try.func7, Try.ntmps7
  go_wp2_with (first
    | (go_at_call 22; refine (ready_any 10 _).mono ?_; rintro e w1 ⟨A1, c1, rfl, hm1, hk1⟩; have H1 := Lib.hid hm1; have HK1 := Lib.hid hk1; clear hm1 hk1)
    | (go_at_call 14; refine (all255 _ _ _ H1.out).mono ?_; rintro e w2 ⟨A2, c2, rfl, hm2, hk2⟩; have H2 := Lib.hid hm2; have HK2 := Lib.hid hk2; clear hm2 hk2)
    | (go_at_call 18; refine (end255 _ _ _ (H2.out.keeps ((Keeps.refl _).alloc _))).mono ?_; rintro e w' ⟨rfl, rfl⟩)
    | (go_at_call 24; refine (text255 _ _ _ (H2.out.keeps ((Keeps.refl _).alloc _))).mono ?_; rintro e w' ⟨rfl, rfl⟩))
  go_ret
  exact ⟨rfl, (HK1.out.trans HK2.out).alloc _⟩
end Go.Proofs.Yticeeckahdjjmaa
