/-
  GuardIs walked: whether it may be touched, whose it is, what is read and written, is what the document says.
-/
import Derived.Test.YtkehlaphiillpaaGuardBoth
namespace Go.Proofs.Ytkehlaphiillpaa
open Go.RowKit

section
variable (A : Option Addr) (n c : Nat) (l : List UInt8) (w : World)
set_option maxRecDepth 100000 in
theorem gis_out (t a k x : Int) (lib wr : Bool) (hn : 5120 < n) :
    Calls Try.prog 3 #[.slice A n c, .agg #[.int .i64 t, .bool lib], .int .i64 a, .int .i64 k, .int .i64 x, .bool wr] w fun e w' => e = .returned (.bool true) ∧ Keeps w w' := by
  have d0 : decide ((5120 : Int) < (n : Int)) = true := decide_eq_true (by omega)
  have HX := Lib.hid (Wh.new w 24 t lib)
  have HK := Lib.hid (keeps_of_below (below_one w (.cells #[.int .i64 t, .bool lib] 24)))
  have c0 := HX.out.c0
  have c1 := HX.out.c1
  have lt := HX.out.lt
  go_enter Try.func3, Try.ntmps3
  go_wp2_with (go_at_call 9; (with_reducible refine (awake_any _).mono ?_); rintro e we ⟨rfl, hb⟩; have hk := keeps_of_below hb; have HX := Lib.hid (HX.out.keeps hk); have HK := Lib.hid (HK.out.trans hk); clear hk hb c0 c1 lt; have c0 := HX.out.c0; have c1 := HX.out.c1; have lt := HX.out.lt)
  go_ret
  exact ⟨rfl, HK.out⟩
set_option maxHeartbeats 4000000 in
set_option maxRecDepth 100000 in
theorem gis_core (t a k x ua rk rt y e0 g : Int) (lib wr ub mb : Bool) (L0 : List UInt8) (hn : n ≤ 5120) (HM : Hid (Mem w A n c l)) (ha : InC a) (ha2 : a ≤ 9223372036854775807)
    (U0 : Hid (gU k = ua)) (U1 : Hid (gUo k = ub)) (R0 : Hid (gK a = rk)) (R1 : Hid (gT a = rt)) (M0 : Hid (gM t lib a k wr = mb))
    (D1 : Hid (∀ w, Mem w A n c l → Calls Try.prog 14 #[.slice A n c, .agg #[.int .i64 t, .bool lib], .int .i64 a] w (RdPost w y e0)))
    (D2 : Hid (∀ w, Mem w A n c l → Calls Try.prog 16 #[.slice A n c, .agg #[.int .i64 t, .bool lib], .int .i64 a] w (RdPost w y e0)))
    (W1 : Hid (∀ w, Mem w A n c l → Calls Try.prog 17 #[.slice A n c, .agg #[.int .i64 t, .bool lib], .int .i64 a, .int .i64 x] w (HoldPost w n L0 g)))
    (W2 : Hid (∀ w, Mem w A n c l → Calls Try.prog 18 #[.slice A n c, .agg #[.int .i64 t, .bool lib], .int .i64 a, .int .i64 x] w (HoldPost w n L0 g))) :
    Calls Try.prog 3 #[.slice A n c, .agg #[.int .i64 t, .bool lib], .int .i64 a, .int .i64 k, .int .i64 x, .bool wr] w fun e w' => e = .returned (.bool true) ∧ Keeps w w' := by
  have d0 : decide ((5120 : Int) < (n : Int)) = false := decide_eq_false (by omega)
  have q1 : (ua == ua) = true := by simp
  have q2 : (ub == ub) = true := by simp
  have q3 : (rk == rk) = true := by simp
  have q4 : (rt == rt) = true := by simp
  have q5 : (y == y) = true := by simp
  have q6 : (e0 == e0) = true := by simp
  have q7 : (g == g) = true := by simp
  have q8 : (mb == mb) = true := by simp
  have HX := Lib.hid (Wh.new w 24 t lib)
  have HK := Lib.hid (keeps_of_below (below_one w (.cells #[.int .i64 t, .bool lib] 24)))
  have c0 := HX.out.c0
  have c1 := HX.out.c1
  have lt := HX.out.lt
  go_enter Try.func3, Try.ntmps3
  go_upto_region 12 with (first
    | (go_at_call 9; (with_reducible refine (awake_any _).mono ?_); rintro e we ⟨rfl, hb⟩; have hk := keeps_of_below hb; have HX := Lib.hid (HX.out.keeps hk); have HK := Lib.hid (HK.out.trans hk); clear hk hb c0 c1 lt; have c0 := HX.out.c0; have c1 := HX.out.c1; have lt := HX.out.lt)
    | (go_at_call 10; (with_reducible refine (userAt_is k ua ub U0.out U1.out _).mono ?_); rintro e we ⟨rfl, rfl⟩)
    | (go_at_call 11; (with_reducible refine (r12userAt_is k ua ub U0.out U1.out _).mono ?_); rintro e we ⟨rfl, rfl⟩)
    | (go_at_call 13; (with_reducible refine (r12region_is a rk rt R0.out R1.out _).mono ?_); rintro e we ⟨rfl, rfl⟩)
    | (go_at_call 12; (with_reducible refine (region_is a rk rt ha R0.out R1.out _).mono ?_); rintro e we ⟨rfl, hb⟩; have hk := keeps_of_below hb; have HX := Lib.hid (HX.out.keeps hk); have HK := Lib.hid (HK.out.trans hk); clear hk hb c0 c1 lt; have c0 := HX.out.c0; have c1 := HX.out.c1; have lt := HX.out.lt)
    | (go_at_call 14; (with_reducible refine (D1.out _ (HM.out.keeps HK.out)).mono ?_); rintro e we ⟨rfl, hb⟩; have hk := keeps_of_below hb; have HX := Lib.hid (HX.out.keeps hk); have HK := Lib.hid (HK.out.trans hk); clear hk hb c0 c1 lt; have c0 := HX.out.c0; have c1 := HX.out.c1; have lt := HX.out.lt)
    | (go_at_call 16; (with_reducible refine (D2.out _ (HM.out.keeps HK.out)).mono ?_); rintro e we ⟨rfl, hb⟩; have hk := keeps_of_below hb; have HX := Lib.hid (HX.out.keeps hk); have HK := Lib.hid (HK.out.trans hk); clear hk hb c0 c1 lt; have c0 := HX.out.c0; have c1 := HX.out.c1; have lt := HX.out.lt)
    | (go_at_call 17; (with_reducible refine (W1.out _ (HM.out.keeps HK.out)).mono ?_); rintro e wp ⟨Ap, cp, rfl, hm, hk⟩; have HX := Lib.hid (HX.out.keeps hk); have HK := Lib.hid (HK.out.trans hk); have Mp := Lib.hid hm; clear hm; clear hk c0 c1 lt; have c0 := HX.out.c0; have c1 := HX.out.c1; have lt := HX.out.lt)
    | (go_at_call 18; (with_reducible refine (W2.out _ (HM.out.keeps HK.out)).mono ?_); rintro e wz ⟨Aq, cq, rfl, hm, hk⟩; have HX := Lib.hid (HX.out.keeps hk); have HK := Lib.hid (HK.out.trans hk); have Mp := Lib.hid (Mp.out.keeps hk); have Mq := Lib.hid hm; clear hm; clear hk c0 c1 lt; have c0 := HX.out.c0; have c1 := HX.out.c1; have lt := HX.out.lt)
    | (go_at_call 15; (with_reducible refine (ours_is _ _ _).mono ?_); rintro e we ⟨rfl, hb⟩; have hk := keeps_of_below hb; have HX := Lib.hid (HX.out.keeps hk); have HK := Lib.hid (HK.out.trans hk); clear hk hb c0 c1 lt; have c0 := HX.out.c0; have c1 := HX.out.c1; have lt := HX.out.lt))
  have PS : Hid (∀ w9, Keeps wz w9 → Keeps wz w9 ∧ w.heap.size < w9.heap.size ∧ w9.cell? ⟨w.heap.size, 0, none⟩ = some (.int .i64 t) ∧ w9.cell? ⟨w.heap.size, 1, none⟩ = some (.bool lib) ∧ (convert 22 9 (.slice Ap n cp)).run Try.prog w9 = .ok (.string ⟨L0.toArray⟩) w9 ∧ (convert 22 9 (.slice Aq n cq)).run Try.prog w9 = .ok (.string ⟨L0.toArray⟩) w9) := Lib.hid fun w9 hk => ⟨hk, (HX.out.keeps hk).lt, (HX.out.keeps hk).c0, (HX.out.keeps hk).c1, (Mp.out.keeps hk).str, (Mq.out.keeps hk).str⟩
  have HV := Lib.hid ((Keeps.refl wz).drew)
  go_region_held3 (fun w9 => Keeps wz w9 ∧ w.heap.size < w9.heap.size ∧ w9.cell? ⟨w.heap.size, 0, none⟩ = some (.int .i64 t) ∧ w9.cell? ⟨w.heap.size, 1, none⟩ = some (.bool lib) ∧ (convert 22 9 (.slice Ap n cp)).run Try.prog w9 = .ok (.string ⟨L0.toArray⟩) w9 ∧ (convert 22 9 (.slice Aq n cq)).run Try.prog w9 = .ok (.string ⟨L0.toArray⟩) w9) (first | assumption | exact PS.out _ HV.out)
    (first
      | (go_at_call 15; (with_reducible refine (ours_is _ _ _).mono ?_); rintro e wv ⟨rfl, hb⟩; have HV := Lib.hid (HV.out.trans (keeps_of_below hb)); clear hb)
      | (go_at_call 19; (with_reducible refine (may_is t lib a k wr mb ha2 M0.out _).mono ?_); rintro e wv ⟨rfl, hb⟩; have HV := Lib.hid (HV.out.trans (keeps_of_below hb)); clear hb)
      | (go_at_call 20; (with_reducible refine (r12may_is t lib a k wr mb ha2 M0.out _).mono ?_); rintro e wv ⟨rfl, hb⟩; have HV := Lib.hid (HV.out.trans (keeps_of_below hb)); clear hb))
  go_wp2
  go_ret
  exact ⟨rfl, HK.out.trans HV.out⟩
theorem guardIs_any (t a k x : Int) (lib wr : Bool) (hm : Mem w A n c l) (ha : InC a) :
    Calls Try.prog 3 #[.slice A n c, .agg #[.int .i64 t, .bool lib], .int .i64 a, .int .i64 k, .int .i64 x, .bool wr] w fun e w' => e = .returned (.bool true) ∧ Keeps w w' := by
  by_cases h : n ≤ 5120
  · obtain ⟨y, e0, D1, D2⟩ := reads_any A n c l t a lib ha (by omega)
    obtain ⟨L0, g, W1, W2⟩ := writes_any A n c l t a x lib ha (by omega)
    exact gis_core A n c l w t a k x _ _ _ y e0 g lib wr _ _ L0 h (Lib.hid hm) ha ha.2 (Lib.hid rfl) (Lib.hid rfl) (Lib.hid rfl) (Lib.hid rfl) (Lib.hid rfl) (Lib.hid D1) (Lib.hid D2) (Lib.hid W1) (Lib.hid W2)
  · exact gis_out A n c w t a k x lib wr (by omega)
end
end Go.Proofs.Ytkehlaphiillpaa
