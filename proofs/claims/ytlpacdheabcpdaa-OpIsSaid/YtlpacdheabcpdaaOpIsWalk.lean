/-
  OpIs answers true at every number and every text; of what was there nothing has changed.
-/
import Derived.Test.YtlpacdheabcpdaaOpAwake
import Derived.Test.YtlpacdheabcpdaaRef07Words
namespace Go.Proofs.Ytlpacdheabcpdaa
open Go.RowKit

set_option maxHeartbeats 1000000 in
set_option maxRecDepth 4000 in
theorem opIs_big (n : Int) (S : ByteArray) (h : (200 : Int) < (S.size : Int)) (w : World) : Calls Try.prog 3 #[.int .i64 n, .string S] w fun e w' => e = .returned (.bool true) ∧ Below w.heap.size w w' := by
  go_enter Try.func3, Try.ntmps3
  go_wp2_with (first
    | (go_at_call 6; refine (awake_any _).mono ?_; rintro e w1 ⟨rfl, hb⟩; have HB := Lib.hid hb; clear hb))
  go_ret
  exact ⟨rfl, HB.out⟩
set_option maxHeartbeats 1000000 in
set_option maxRecDepth 4000 in
theorem opIs_any (n : Int) (l : List UInt8) (w : World) : Calls Try.prog 3 #[.int .i64 n, .string ⟨l.toArray⟩] w fun e w' => e = .returned (.bool true) ∧ Below w.heap.size w w' := by
  by_cases hbig : (200 : Int) < ((⟨l.toArray⟩ : ByteArray).size : Int)
  · exact opIs_big n _ hbig w
  have hl : l.length ≤ 2000 := by rw [size_mk] at hbig; omega
  obtain ⟨S, hS⟩ : ∃ S : ByteArray, S = ⟨l.toArray⟩ := ⟨_, rfl⟩
  rw [← hS] at hbig ⊢
  rcases hf : opF (l.map scU) with ⟨v, b⟩
  rcases hv : opL n with ⟨x, c⟩
  obtain ⟨T, hT⟩ : ∃ T : ByteArray, T = ⟨(opR n).1.toArray⟩ := ⟨_, rfl⟩
  obtain ⟨y, hy⟩ : ∃ y, (opR n).2.1 = y := ⟨_, rfl⟩
  obtain ⟨z, hz⟩ : ∃ z, (opR n).2.2.2 = z := ⟨_, rfl⟩
  obtain ⟨d, hd⟩ : ∃ d, opH (opR n).1 = d := ⟨_, rfl⟩
  have F1 := Lib.hid (find_is l S hS hl v b hf)
  have F2 := Lib.hid (rfind_is l S hS hl v b hf)
  have L1 := Lib.hid (leaves_is n x c hv)
  have L2 := Lib.hid (rleaves_is n x c hv)
  have N1 := Lib.hid (name_is n T hT)
  have N2 := Lib.hid (rname_is n T hT)
  have E1 := Lib.hid (needs_is n y hy)
  have E2 := Lib.hid (rneeds_is n y hy)
  have G1 := Lib.hid (group_is n z hz)
  have G2 := Lib.hid (rgroup_is n z hz)
  have H1 := Lib.hid (hidden_is n d hd)
  have H2 := Lib.hid (rhidden_is n d hd)
  clear hl hS hf hv hT hy hz hd
  go_enter Try.func3, Try.ntmps3
  go_wp2_with (first
    | (go_at_call 6; refine (awake_any _).mono ?_; rintro e w1 ⟨rfl, hb⟩; have HB := Lib.hid hb; clear hb)
    | (go_at_call 7; refine (F1.out _).mono ?_; rintro e w1 ⟨rfl, hb⟩; have HB := Lib.hid (below_then HB.out hb); clear hb)
    | (go_at_call 8; refine (F2.out _).mono ?_; rintro e w1 ⟨rfl, hb⟩; have HB := Lib.hid (below_then HB.out hb); clear hb)
    | (go_at_call 9; refine (L1.out _).mono ?_; rintro e w1 ⟨rfl, hb⟩; have HB := Lib.hid (below_then HB.out hb); clear hb)
    | (go_at_call 10; refine (L2.out _).mono ?_; rintro e w1 ⟨rfl, rfl⟩)
    | (go_at_call 11; refine (N1.out _).mono ?_; rintro e w1 ⟨rfl, hb⟩; have HB := Lib.hid (below_then HB.out hb); clear hb)
    | (go_at_call 12; refine (N2.out _).mono ?_; rintro e w1 ⟨rfl, hb⟩; have HB := Lib.hid (below_then HB.out hb); clear hb)
    | (go_at_call 13; refine (E1.out _).mono ?_; rintro e w1 ⟨rfl, hb⟩; have HB := Lib.hid (below_then HB.out hb); clear hb)
    | (go_at_call 14; refine (E2.out _).mono ?_; rintro e w1 ⟨rfl, rfl⟩)
    | (go_at_call 15; refine (G1.out _).mono ?_; rintro e w1 ⟨rfl, hb⟩; have HB := Lib.hid (below_then HB.out hb); clear hb)
    | (go_at_call 16; refine (G2.out _).mono ?_; rintro e w1 ⟨rfl, rfl⟩)
    | (go_at_call 17; refine (H1.out _).mono ?_; rintro e w1 ⟨rfl, hb⟩; have HB := Lib.hid (below_then HB.out hb); clear hb)
    | (go_at_call 18; refine (H2.out _).mono ?_; rintro e w1 ⟨rfl, hb⟩; have HB := Lib.hid (below_then HB.out hb); clear hb))
  go_ret
  exact ⟨rfl, HB.out⟩
end Go.Proofs.Ytlpacdheabcpdaa
