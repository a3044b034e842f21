/-
  What the small calls of package hist on a row answer, and an operation with its return.
-/
import Derived.Test.YtpkjepbeeebdoaaDoorHistTab
import Derived.IntWalk
import Derived.BigQuiet
import Derived.Deep.Cut
import Derived.Deep.QuietTactic
namespace Go.Proofs.YtpkjepbeeebdoaaDoor
open Go.RowKit

theorem calls_at (r : Krow) (op : Int) (b : Bool) (hb : (r.s == 1 && r.o == op) = b) (w : World) :
    Calls Tryd.prog 13 #[.agg #[.int .i64 r.s, .int .i64 r.o, .int .i64 r.f, .int .i64 r.d, .bool r.r], .int .i64 op] w fun e w' => e = .returned (.bool b) ∧ Below w.heap.size w w' := by
  subst hb
  cases hs : (r.s == 1)
  all_goals
    go_enter Tryd.func13, Tryd.ntmps13
    go_wp2
    go_ret
    exact ⟨rfl, below_one _ _⟩
theorem returns_at (r : Krow) (op : Int) (b : Bool) (hb : (r.s == 2 && r.o == op) = b) (w : World) :
    Calls Tryd.prog 14 #[.agg #[.int .i64 r.s, .int .i64 r.o, .int .i64 r.f, .int .i64 r.d, .bool r.r], .int .i64 op] w fun e w' => e = .returned (.bool b) ∧ Below w.heap.size w w' := by
  subst hb
  cases hs : (r.s == 2)
  all_goals
    go_enter Tryd.func14, Tryd.ntmps14
    go_wp2
    go_ret
    exact ⟨rfl, below_one _ _⟩
theorem look_at (e : Evt) (r : Krow) (hr : kR e.k = r) (w : World) (hT : TabH w) :
    Calls Tryd.prog 11 #[.agg #[.int .i64 e.t, .int .i64 e.k, .int .i64 e.a, .int .i64 e.v]] w fun x w' => x = .returned (.agg #[.int .i64 r.s, .int .i64 r.o, .int .i64 r.f, .int .i64 r.d, .bool r.r]) ∧ Below w.heap.size w w' := by
  subst hr
  exact look_is e w hT
set_option maxHeartbeats 1000000 in
theorem returned_at (o : Hop) (e : Evt) (to : Int) (r : Krow) (hr : kR e.k = r) (y : Bool) (hy : (r.d == 2 || (r.d == 1 && e.v != 0)) = y) (x : Int) (hx : (if r.r then e.v else o.r) = x) (w : World) (hT : TabH w) :
    Calls Tryd.prog 12 #[.agg #[.int .i64 o.t, .int .i64 o.k, .int .i64 o.g, .int .i64 o.r, .bool o.y, .int .i64 o.f, .int .i64 o.e], .agg #[.int .i64 e.t, .int .i64 e.k, .int .i64 e.a, .int .i64 e.v], .int .i64 to] w
      fun z w' => z = .returned (.agg #[.int .i64 o.t, .int .i64 o.k, .int .i64 o.g, .int .i64 x, .bool y, .int .i64 o.f, .int .i64 to]) ∧ Below w.heap.size w w' := by
  have HT := Lib.hid hT
  have HL := Lib.hid (fun w => look_at e r hr w)
  clear hT hr
  obtain ⟨s, p, f, d, b⟩ := r
  dsimp only at hy hx HL
  have key : ∀ (y : Bool) (x : Int), (d == 2 || (d == 1 && e.v != 0)) = y → (if b then e.v else o.r) = x → (d == 2) = true ∨ ((d == 2) = false ∧ (d == 1) = true) ∨ ((d == 2) = false ∧ (d == 1) = false) := by
    intro y x _ _
    cases (d == 2) <;> cases (d == 1) <;> simp
  rcases key y x hy hx with h2 | ⟨h2, h1⟩ | ⟨h2, h1⟩
  all_goals
    go_enter Tryd.func12, Tryd.ntmps12
    go_upto_region 2 with (go_at_call 11; (with_reducible refine (HL.out _ (HT.out.keep (((below_one _ _).alloc (by simp) _).alloc (by simp; omega) _))).mono ?_); rintro z w1 ⟨rfl, hb⟩; have P0 : Hid (Bk hpK w1 w.heap.size 28 o) := Lib.hid ((((Bk.at_ (K := hpK) w _ o _ rfl _ rfl).alloc _).alloc _).keep hb); have P1 : Hid (Bk evK w1 (w.heap.size + 1) 30 e) := Lib.hid (((Bk.at_ (K := evK) (w.alloc _) _ e _ rfl (w.heap.size + 1) (by simp)).alloc _).keep hb); have P2 : Hid (Bk hpK w1 (w.heap.size + 1 + 1) 28 hz) := Lib.hid ((Bk.at_ (K := hpK) ((w.alloc _).alloc _) _ hz _ rfl (w.heap.size + 1 + 1) (by simp)).keep hb); have HB := Lib.hid (below_then (((below_one w _).alloc (by simp) _).alloc (by simp; omega) _) hb); clear hb)
    have P3 : Hid (Bk rwK (w1.alloc (.cells #[.int .i64 s, .int .i64 p, .int .i64 f, .int .i64 d, .bool b] 41)) w1.heap.size 41 ⟨s, p, f, d, b⟩) := Lib.hid (Bk.at_ (K := rwK) w1 _ ⟨s, p, f, d, b⟩ _ rfl _ rfl)
    have Q0 := Lib.hid (P0.out.alloc (.cells #[.int .i64 s, .int .i64 p, .int .i64 f, .int .i64 d, .bool b] 41))
    have Q1 := Lib.hid (P1.out.alloc (.cells #[.int .i64 s, .int .i64 p, .int .i64 f, .int .i64 d, .bool b] 41))
    have Q2 := Lib.hid (P2.out.alloc (.cells #[.int .i64 s, .int .i64 p, .int .i64 f, .int .i64 d, .bool b] 41))
    have HB2 := Lib.hid (HB.out.alloc HB.out.size (.cells #[.int .i64 s, .int .i64 p, .int .i64 f, .int .i64 d, .bool b] 41))
    have L2 := P2.out.lt
    clear P0 P1 P2 HB HL HT key
    generalize hW : w1.alloc (.cells #[.int .i64 s, .int .i64 p, .int .i64 f, .int .i64 d, .bool b] 41) = W at *
    clear hW
    generalize w1.heap.size = b3 at *
    generalize hb0 : w.heap.size = b0 at *
    have c0 : W.cell? ⟨b0, 0, none⟩ = some (.int .i64 o.t) := Q0.out.cell 0
    have c1 : W.cell? ⟨b0, 1, none⟩ = some (.int .i64 o.k) := Q0.out.cell 1
    have c2 : W.cell? ⟨b0, 2, none⟩ = some (.int .i64 o.g) := Q0.out.cell 2
    have c3 : W.cell? ⟨b0, 3, none⟩ = some (.int .i64 o.r) := Q0.out.cell 3
    have c4 : W.cell? ⟨b0, 4, none⟩ = some (.bool o.y) := Q0.out.cell 4
    have c5 : W.cell? ⟨b0, 5, none⟩ = some (.int .i64 o.f) := Q0.out.cell 5
    have c6 : W.cell? ⟨b0, 6, none⟩ = some (.int .i64 o.e) := Q0.out.cell 6
    have cf := Q0.out.f
    have e3 : W.cell? ⟨b0 + 1, 3, none⟩ = some (.int .i64 e.v) := Q1.out.cell 3
    have r3 : W.cell? ⟨b3, 3, none⟩ = some (.int .i64 d) := P3.out.cell 3
    have r4 : W.cell? ⟨b3, 4, none⟩ = some (.bool b) := P3.out.cell 4
    have z0 : W.cell? ⟨b0 + 1 + 1, 0, none⟩ = some (.int .i64 0) := Q2.out.cell 0
    have z1 : W.cell? ⟨b0 + 1 + 1, 1, none⟩ = some (.int .i64 0) := Q2.out.cell 1
    have z2 : W.cell? ⟨b0 + 1 + 1, 2, none⟩ = some (.int .i64 0) := Q2.out.cell 2
    have z3 : W.cell? ⟨b0 + 1 + 1, 3, none⟩ = some (.int .i64 0) := Q2.out.cell 3
    have z4 : W.cell? ⟨b0 + 1 + 1, 4, none⟩ = some (.bool false) := Q2.out.cell 4
    have z5 : W.cell? ⟨b0 + 1 + 1, 5, none⟩ = some (.int .i64 0) := Q2.out.cell 5
    have z6 : W.cell? ⟨b0 + 1 + 1, 6, none⟩ = some (.int .i64 0) := Q2.out.cell 6
    have zf := Q2.out.f
    have n3 : b0 ≠ b3 := by omega
    have n4 : b0 + 1 ≠ b3 := by omega
    have n5 : b0 + 1 + 1 ≠ b3 := by omega
    cases b
    all_goals
      simp only [h2, Bool.true_or, Bool.false_or, if_true, if_false, Bool.false_eq_true] at hy hx
      try simp only [h1, Bool.true_and, Bool.false_and] at hy
      subst hy hx
      go_wp2
      refine bodyPost_ret (v := .agg #[.int .i64 o.t, .int .i64 o.k, .int .i64 o.g, .int .i64 _, .bool _, .int .i64 o.f, .int .i64 to]) ?_ rfl ⟨rfl, ?_⟩
      · simp [results, Tryd.results12, go_sem, z0, z1, z2, z3, z4, z5, z6]
      · rw [hb0]
        repeat refine Below.setCell ?_ (by dsimp only; omega) _
        exact HB2.out
end Go.Proofs.YtpkjepbeeebdoaaDoor
