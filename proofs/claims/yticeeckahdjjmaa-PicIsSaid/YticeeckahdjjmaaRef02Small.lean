/-
  What the document calls Of, Neg, twice and less of layer 2; a variable that is a double. Of what was there nothing changes.
-/
import Derived.Test.YticeeckahdjjmaaRef02Add
namespace Go.Proofs.Yticeeckahdjjmaa
open Go.RowKit
/-- A double's variable: block B holds cells l and h, and may be written. -/
structure Box (w : World) (B : Nat) (l h : Int) : Prop where
  lt : B < w.heap.size
  c0 : w.cell? ⟨B, 0, none⟩ = some (.int .i64 l)
  c1 : w.cell? ⟨B, 1, none⟩ = some (.int .i64 h)
  f0 : w.frozen? ⟨B, 0, none⟩ = false
  f1 : w.frozen? ⟨B, 1, none⟩ = false
theorem Box.keeps {w w' : World} {B : Nat} {l h : Int} (b : Box w B l h) (k : Keeps w w') : Box w' B l h :=
  ⟨Nat.lt_of_lt_of_le b.lt k.size, k.cell_some b.lt b.c0, k.cell_some b.lt b.c1, (k.frozen b.lt).trans b.f0, (k.frozen b.lt).trans b.f1⟩
theorem Box.set {w : World} {B : Nat} {l h : Int} (b : Box w B l h) (l' h' : Int) : Box ((w.setCell ⟨B, 0, none⟩ (.int .i64 l')).setCell ⟨B, 1, none⟩ (.int .i64 h')) B l' h' := by
  have hne : (⟨B, 0, none⟩ : Addr) ≠ ⟨B, 1, none⟩ := by intro e; exact absurd (Addr.mk.inj e).2.1 (by decide)
  refine ⟨by simpa [World.setCell] using b.lt, ?_, ?_, ?_, ?_⟩
  · rw [World.cell?_setCell_other _ _ _ _ (fun e => hne e.symm)]; exact World.cell?_setCell_same w _ _ b.c0
  · have e : (w.setCell ⟨B, 0, none⟩ (.int .i64 l')).cell? ⟨B, 1, none⟩ = some (.int .i64 h) := by rw [World.cell?_setCell_other _ _ _ _ hne]; exact b.c1
    exact World.cell?_setCell_same _ _ _ e
  · rw [World.frozen?_setCell, World.frozen?_setCell]; exact b.f0
  · rw [World.frozen?_setCell, World.frozen?_setCell]; exact b.f1
theorem Box.other {w : World} {B C o : Nat} {l h : Int} (b : Box w B l h) (hne : C ≠ B) (v : Value) : Box (w.setCell ⟨C, o, none⟩ v) B l h := by
  have e : ∀ i, (⟨C, o, none⟩ : Addr) ≠ ⟨B, i, none⟩ := fun i e => hne (Addr.mk.inj e).1
  exact ⟨by simpa [World.setCell] using b.lt, by rw [World.cell?_setCell_other _ _ _ _ (e 0)]; exact b.c0, by rw [World.cell?_setCell_other _ _ _ _ (e 1)]; exact b.c1,
    by rw [World.frozen?_setCell]; exact b.f0, by rw [World.frozen?_setCell]; exact b.f1⟩
theorem Box.new (w : World) (l h : Int) (t : TypeId) : Box (w.alloc (.cells #[.int .i64 l, .int .i64 h] t)) w.heap.size l h :=
  ⟨by simp, by simp [go_sem], by simp [go_sem], by simp [go_sem], by simp [go_sem]⟩
theorem Box.new1 (w : World) (a : Obj) (l h : Int) (t : TypeId) : Box ((w.alloc a).alloc (.cells #[.int .i64 l, .int .i64 h] t)) (w.heap.size + 1) l h := by
  have := Box.new (w.alloc a) l h t
  rwa [show (w.alloc a).heap.size = w.heap.size + 1 by simp] at this
theorem Box.alloc {w : World} {B : Nat} {l h : Int} (b : Box w B l h) (o : Obj) : Box (w.alloc o) B l h := b.keeps ((Keeps.refl w).alloc o)

theorem radd_un (y r : Int) (hr : InC r) (w : World) :
    Calls Try.prog 68 #[.agg #[.int .i64 (dLo y), .int .i64 (dHi y)], .agg #[.int .i64 r, .int .i64 0]] w fun e w' => e = .returned (.agg #[.int .i64 (dLo (y + r % 18446744073709551616)), .int .i64 (dHi (y + r % 18446744073709551616))]) ∧ Keeps w w' := by
  have h := radd_any y (r % 18446744073709551616) w
  rw [dLo_un r hr, dHi_un] at h
  exact h
theorem rnot_lo (x : Int) : wrap64 (-1 - dLo x) = dLo (-x - 1) := by unfold dLo wrap64; omega
theorem rnot_hi (x : Int) : wrap64 (-1 - dHi x) = dHi (-x - 1) := by unfold dHi wrap64; omega
theorem radd_1 (y : Int) (w : World) :
    Calls Try.prog 68 #[.agg #[.int .i64 (dLo y), .int .i64 (dHi y)], .agg #[.int .i64 1, .int .i64 0]] w fun e w' => e = .returned (.agg #[.int .i64 (dLo (y + 1)), .int .i64 (dHi (y + 1))]) ∧ Keeps w w' := radd_un y 1 inC1 w
set_option maxHeartbeats 400000 in
theorem rneg_any (x : Int) (w : World) :
    Calls Try.prog 71 #[.agg #[.int .i64 (dLo x), .int .i64 (dHi x)]] w fun e w' => e = .returned (.agg #[.int .i64 (dLo (-x)), .int .i64 (dHi (-x))]) ∧ Keeps w w' := by
  have h1 := rnot_lo x
  have h2 := rnot_hi x
  have HB := Lib.hid (Box.new1 w (.cells #[.int .i64 (dLo x), .int .i64 (dHi x)] 24) 0 0 24)
  go_enter Try.func71, Try.ntmps71
  go_wp2_with (go_at_call 68; refine (radd_1 _ _).mono ?_; rintro e w1 ⟨rfl, hw1⟩; obtain ⟨b0, b1, b2, b3, b4⟩ := HB.out.keeps hw1)
  refine bodyPost_ret (v := .agg #[.int .i64 (dLo (-x)), .int .i64 (dHi (-x))]) (by simp [results, Try.results71, go_sem, b1, b2]) rfl ⟨rfl, ?_⟩
  exact ((((Keeps.refl w).alloc _).alloc _).trans hw1 |>.setCell (by simp) _).setCell (by simp) _
set_option maxHeartbeats 400000 in
theorem twice_any (x : Int) (w : World) :
    Calls Try.prog 69 #[.agg #[.int .i64 (dLo x), .int .i64 (dHi x)]] w fun e w' => e = .returned (.agg #[.int .i64 (dLo (x + x)), .int .i64 (dHi (x + x))]) ∧ Keeps w w' := by
  have HB := Lib.hid (Box.new1 w (.cells #[.int .i64 (dLo x), .int .i64 (dHi x)] 24) 0 0 24)
  go_enter Try.func69, Try.ntmps69
  go_wp2_with (go_at_call 68; refine (radd_any _ _ _).mono ?_; rintro e w1 ⟨rfl, hw1⟩; obtain ⟨b0, b1, b2, b3, b4⟩ := HB.out.keeps hw1)
  refine bodyPost_ret (v := .agg #[.int .i64 (dLo (x + x)), .int .i64 (dHi (x + x))]) (by simp [results, Try.results69, go_sem, b1, b2]) rfl ⟨rfl, ?_⟩
  exact ((((Keeps.refl w).alloc _).alloc _).trans hw1 |>.setCell (by simp) _).setCell (by simp) _
def uLess (x y : Int) : Bool := decide (x % 340282366920938463463374607431768211456 < y % 340282366920938463463374607431768211456)
theorem less_is (x y : Int) : (cUlt (dHi x) (dHi y) || (dHi x == dHi y && cUlt (dLo x) (dLo y))) = uLess x y := by
  rw [cUlt_is, cUlt_is, dHi_mod, dHi_mod, dLo_mod, dLo_mod]
  unfold uLess
  rw [Bool.eq_iff_iff]
  simp
  unfold dHi wrap64
  omega
set_option maxHeartbeats 400000 in
theorem rless_any (x y : Int) (w : World) :
    Calls Try.prog 70 #[.agg #[.int .i64 (dLo x), .int .i64 (dHi x)], .agg #[.int .i64 (dLo y), .int .i64 (dHi y)]] w fun e w' => e = .returned (.bool (uLess x y)) ∧ Keeps w w' := by
  have HB := Lib.hid (less_is x y)
  cases h1 : cUlt (dHi x) (dHi y)
  · cases h2 : (dHi x == dHi y)
    all_goals
      go_enter Try.func70, Try.ntmps70
      go_wp2_with (go_at_call 77; refine (rult_any _ _ _).mono ?_; rintro e w' ⟨rfl, rfl⟩)
      go_ret
      exact ⟨by rw [← HB.out, h1, h2]; rfl, ((Keeps.refl _).alloc _).alloc _⟩
  · go_enter Try.func70, Try.ntmps70
    go_wp2_with (go_at_call 77; refine (rult_any _ _ _).mono ?_; rintro e w' ⟨rfl, rfl⟩)
    go_ret
    exact ⟨by rw [← HB.out, h1]; rfl, ((Keeps.refl _).alloc _).alloc _⟩
end Go.Proofs.Yticeeckahdjjmaa
