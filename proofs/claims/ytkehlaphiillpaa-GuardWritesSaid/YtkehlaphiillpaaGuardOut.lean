/-
  What Read and Write of package guard answer: a throw where one may not, else what package mem's Get and Put answer.
-/
import Derived.Test.YtkehlaphiillpaaGuardCalls
import Derived.Test.YtkehlaphiillpaaMemPut
namespace Go.Proofs.Ytkehlaphiillpaa
open Go.RowKit

section
variable (A : Option Addr) (n c : Nat) (l : List UInt8) (w : World)
set_option maxHeartbeats 1000000 in
theorem read_may (t a : Int) (lib : Bool) (ha : a ≤ 9223372036854775807) (h : gM t lib a 8 false = false) :
    Calls Try.prog 14 #[.slice A n c, .agg #[.int .i64 t, .bool lib], .int .i64 a] w fun e w' => e = .returned (.tuple #[.int .i64 0, .int .i64 (-9)]) ∧ Below w.heap.size w w' := by
  have HX := Lib.hid (Wh.new w 33 t lib)
  have HB := Lib.hid (below_one w (.cells #[.int .i64 t, .bool lib] 33))
  have HG := Lib.hid h
  have c0 := HX.out.c0
  have c1 := HX.out.c1
  have lt := HX.out.lt
  clear h
  go_enter Try.func14, Try.ntmps14
  go_wp2_with (go_at_call 19; refine (may_is t lib a 8 false false ha HG.out _).mono ?_; rintro e w1 ⟨rfl, hb1⟩; have HB := Lib.hid (below_then HB.out hb1); clear hb1 c0 c1 lt)
  go_ret2
  exact ⟨rfl, HB.out⟩
set_option maxHeartbeats 1000000 in
theorem read_bad (t a f : Int) (lib : Bool) (hn : n ≤ 1000000) (ha : InC a) (h : gM t lib a 8 false = true) (hf : mE n a = f) (hz : (f != 0) = true) :
    Calls Try.prog 14 #[.slice A n c, .agg #[.int .i64 t, .bool lib], .int .i64 a] w fun e w' => e = .returned (.tuple #[.int .i64 0, .int .i64 f]) ∧ Below w.heap.size w w' := by
  have HX := Lib.hid (Wh.new w 33 t lib)
  have HB := Lib.hid (below_one w (.cells #[.int .i64 t, .bool lib] 33))
  have HG := Lib.hid h
  have HF := Lib.hid hf
  have c0 := HX.out.c0
  have c1 := HX.out.c1
  have lt := HX.out.lt
  clear h hf
  go_enter Try.func14, Try.ntmps14
  go_wp2_with (first
    | (go_at_call 19; refine (may_is t lib a 8 false true ha.2 HG.out _).mono ?_; rintro e w1 ⟨rfl, hb1⟩; have HB := Lib.hid (below_then HB.out hb1); clear hb1 c0 c1 lt)
    | (go_at_call 21; refine (get_bad A n c _ a f hn ha HF.out hz).mono ?_; rintro e w' ⟨rfl, rfl⟩))
  go_ret2
  exact ⟨rfl, HB.out⟩
set_option maxHeartbeats 1000000 in
theorem read_good (t a x : Int) (i : Nat) (lib : Bool) (hn : n ≤ 1000000) (hm : Mem w A n c l) (hi : a = (i : Int)) (h : gM t lib a 8 false = true) (hf : mE n (i : Int) = 0) (hx : mC (mT l i 8) = x) :
    Calls Try.prog 14 #[.slice A n c, .agg #[.int .i64 t, .bool lib], .int .i64 a] w fun e w' => e = .returned (.tuple #[.int .i64 x, .int .i64 0]) ∧ Below w.heap.size w w' := by
  have HX := Lib.hid (Wh.new w 33 t lib)
  have HB := Lib.hid (below_one w (.cells #[.int .i64 t, .bool lib] 33))
  have HG := Lib.hid h
  have HF := Lib.hid hf
  have HI := Lib.hid hi
  have HM := Lib.hid hm
  have ha : a ≤ 9223372036854775807 := by have := gM_in h; omega
  have c0 := HX.out.c0
  have c1 := HX.out.c1
  have lt := HX.out.lt
  clear h hf hi hm
  go_enter Try.func14, Try.ntmps14
  go_wp2_with (first
    | (go_at_call 19; refine (may_is t lib a 8 false true ha HG.out _).mono ?_; rintro e w1 ⟨rfl, hb1⟩; have HB := Lib.hid (below_then HB.out hb1); clear hb1 c0 c1 lt)
    | (go_at_call 21; refine (get_good A n c l _ a i x hn (HM.out.below HB.out) HI.out HF.out hx).mono ?_; rintro e w' ⟨rfl, rfl⟩))
  go_ret2
  exact ⟨rfl, HB.out⟩
set_option maxHeartbeats 1000000 in
theorem write_may (t a x : Int) (lib : Bool) (ha : a ≤ 9223372036854775807) (h : gM t lib a 8 true = false) :
    Calls Try.prog 17 #[.slice A n c, .agg #[.int .i64 t, .bool lib], .int .i64 a, .int .i64 x] w fun e w' => e = .returned (.tuple #[.slice A n c, .int .i64 (-9)]) ∧ Below w.heap.size w w' := by
  have HX := Lib.hid (Wh.new w 33 t lib)
  have HB := Lib.hid (below_one w (.cells #[.int .i64 t, .bool lib] 33))
  have HG := Lib.hid h
  have c0 := HX.out.c0
  have c1 := HX.out.c1
  have lt := HX.out.lt
  clear h
  go_enter Try.func17, Try.ntmps17
  go_wp2_with (go_at_call 19; refine (may_is t lib a 8 true false ha HG.out _).mono ?_; rintro e w1 ⟨rfl, hb1⟩; have HB := Lib.hid (below_then HB.out hb1); clear hb1 c0 c1 lt)
  go_ret2
  exact ⟨rfl, HB.out⟩
set_option maxHeartbeats 1000000 in
theorem write_bad (t a x f : Int) (lib : Bool) (hn : n ≤ 1000000) (ha : InC a) (h : gM t lib a 8 true = true) (hf : mE n a = f) (hz : (f != 0) = true) :
    Calls Try.prog 17 #[.slice A n c, .agg #[.int .i64 t, .bool lib], .int .i64 a, .int .i64 x] w fun e w' => e = .returned (.tuple #[.slice A n c, .int .i64 f]) ∧ Below w.heap.size w w' := by
  have HX := Lib.hid (Wh.new w 33 t lib)
  have HB := Lib.hid (below_one w (.cells #[.int .i64 t, .bool lib] 33))
  have HG := Lib.hid h
  have HF := Lib.hid hf
  have c0 := HX.out.c0
  have c1 := HX.out.c1
  have lt := HX.out.lt
  clear h hf
  go_enter Try.func17, Try.ntmps17
  go_wp2_with (first
    | (go_at_call 19; refine (may_is t lib a 8 true true ha.2 HG.out _).mono ?_; rintro e w1 ⟨rfl, hb1⟩; have HB := Lib.hid (below_then HB.out hb1); clear hb1 c0 c1 lt)
    | (go_at_call 24; refine (put_bad A n c _ a x f hn ha HF.out hz).mono ?_; rintro e w' ⟨rfl, rfl⟩))
  go_ret2
  exact ⟨rfl, HB.out⟩
set_option maxHeartbeats 1000000 in
theorem write_good (t a x : Int) (i : Nat) (l' : List UInt8) (lib : Bool) (hn : n ≤ 1000000) (hm : Mem w A n c l) (hi : a = (i : Int)) (h : gM t lib a 8 true = true) (hf : mE n (i : Int) = 0) (hl : splice l i (mB x) = l') :
    Calls Try.prog 17 #[.slice A n c, .agg #[.int .i64 t, .bool lib], .int .i64 a, .int .i64 x] w (PutPost w n l') := by
  have HX := Lib.hid (Wh.new w 33 t lib)
  have HB := Lib.hid (below_one w (.cells #[.int .i64 t, .bool lib] 33))
  have HG := Lib.hid h
  have HF := Lib.hid hf
  have HI := Lib.hid hi
  have HM := Lib.hid hm
  have ha : a ≤ 9223372036854775807 := by have := gM_in h; omega
  have c0 := HX.out.c0
  have c1 := HX.out.c1
  have lt := HX.out.lt
  clear h hf hi hm
  go_enter Try.func17, Try.ntmps17
  go_wp2_with (first
    | (go_at_call 19; refine (may_is t lib a 8 true true ha HG.out _).mono ?_; rintro e w1 ⟨rfl, hb1⟩; have HB := Lib.hid (below_then HB.out hb1); clear hb1 c0 c1 lt)
    | (go_at_call 24; refine (put_good A n c l _ a i x l' HI.out hl hn (HM.out.below HB.out) HF.out).mono ?_; rintro e w2 ⟨A2, c2, rfl, hm2, hb2⟩; have H2 := Lib.hid hm2; have HB2 := Lib.hid (below_then HB.out hb2); clear hm2 hb2))
  go_ret2
  exact ⟨_, _, rfl, H2.out, HB2.out⟩
end
end Go.Proofs.Ytkehlaphiillpaa
