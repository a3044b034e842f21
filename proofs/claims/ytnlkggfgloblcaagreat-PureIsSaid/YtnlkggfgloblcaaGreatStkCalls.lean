/-
  What the calls of package stk answer: there, Push, Pop, Pick, Roll, of any stack, in the words of the plain facts (XStkMath).
-/
import Derived.Test.YtnlkggfgloblcaaGreatStkConcat
import Derived.Deep.RegionHeld3
import Derived.IntWalk
namespace Go.Proofs.YtnlkggfgloblcaaGreat
open Go.RowKit

theorem ret_bool {a b : Bool} (h : a = b) : Ending.returned (.bool a) = .returned (.bool b) := by rw [h]
/-- A stack and a throw. -/
def StkPost (w : World) (l : List Int) (t : Int) (e : Ending) (w' : World) : Prop := ∃ A n c, e = .returned (.tuple #[.slice A n c, .int .i64 t]) ∧ Stk w' A n c l ∧ Below w.heap.size w w'
/-- Two stacks and a throw. -/
def PopPost (w : World) (l x : List Int) (t : Int) (e : Ending) (w' : World) : Prop := ∃ A n c B m d, e = .returned (.tuple #[.slice A n c, .slice B m d, .int .i64 t]) ∧ Stk w' A n c l ∧ Stk w' B m d x ∧ Below w.heap.size w w'

theorem concat2 {A B : Option Addr} {n c m d : Nat} {l x : List Int} (g : Nat) (W : World) (hg : W.heap[g]? = some (.cells #[.slice A n c, .slice B m d] 22 (0, 0))) (h1 : Stk W A n c l) (h2 : Stk W B m d x) (hn : n + m ≤ 100000) :
    Calls Tryz.prog 134 #[.slice (some ⟨g, 0, none⟩) 2 2] W (OwnPost W (n + m) (l ++ x)) := by
  have h := concat_any g [⟨A, n, c, l⟩, ⟨B, m, d, x⟩] 2 W rfl hg (fun k hk => by match k, hk with | 0, _ => exact h1 | 1, _ => exact h2) hn (by decide)
  have e : allL [⟨A, n, c, l⟩, ⟨B, m, d, x⟩] = l ++ x := by simp [allL]
  rw [e] at h
  exact h
theorem concat3 {A B C : Option Addr} {n c m d k f : Nat} {l x y : List Int} (g : Nat) (W : World) (hg : W.heap[g]? = some (.cells #[.slice A n c, .slice B m d, .slice C k f] 22 (0, 0))) (h1 : Stk W A n c l) (h2 : Stk W B m d x) (h3 : Stk W C k f y) (hn : n + (m + k) ≤ 100000) :
    Calls Tryz.prog 134 #[.slice (some ⟨g, 0, none⟩) 3 3] W (OwnPost W (n + (m + k)) (l ++ (x ++ y))) := by
  have h := concat_any g [⟨A, n, c, l⟩, ⟨B, m, d, x⟩, ⟨C, k, f, y⟩] 3 W rfl hg (fun k hk => by match k, hk with | 0, _ => exact h1 | 1, _ => exact h2 | 2, _ => exact h3) hn (by decide)
  have e : allL [⟨A, n, c, l⟩, ⟨B, m, d, x⟩, ⟨C, k, f, y⟩] = l ++ (x ++ y) := by simp [allL]
  rw [e] at h
  exact h
theorem below_new {W w' : World} {o : Obj} (h : Below (W.alloc o).heap.size (W.alloc o) w') : Below W.heap.size W w' := below_then ((Below.refl _ _).alloc (Nat.le_refl _) o) h

set_option maxHeartbeats 400000 in
theorem there_any (A : Option Addr) (n c : Nat) (k : Int) (w : World) : Calls Tryz.prog 133 #[.slice A n c, .int .i64 k] w fun e w' => e = .returned (.bool (!pickB n k)) ∧ w = w' := by
  by_cases h0 : 0 ≤ k
  · have hd : decide (0 ≤ k) = true := decide_eq_true h0
    go_enter Tryz.func133, Tryz.ntmps133
    go_wp2
    go_ret
    refine ⟨ret_bool ?_, rfl⟩
    unfold pickB
    rw [← decide_not]
    exact decide_eq_decide.2 (by omega)
  · have hd : decide (0 ≤ k) = false := decide_eq_false h0
    go_enter Tryz.func133, Tryz.ntmps133
    go_wp2
    go_ret
    refine ⟨ret_bool ?_, rfl⟩
    unfold pickB
    rw [decide_eq_true (show k < 0 ∨ (n : Int) ≤ k by omega)]
    rfl

set_option maxHeartbeats 400000 in
theorem push_any (A : Option Addr) (n c : Nat) (l : List Int) (most : Int) (B : Option Addr) (m d : Nat) (x : List Int) (w : World) (hn : n ≤ 10000) (hm : m ≤ 10000) (h1 : Stk w A n c l) (h2 : Stk w B m d x) :
    Calls Tryz.prog 130 #[.slice A n c, .int .i64 most, .slice B m d] w (StkPost w (pushL l x most) (pushE (l.length + x.length) most)) := by
  have HL := Lib.hid h1.len
  have HX := Lib.hid h2.len
  have H1 := Lib.hid h1
  have H2 := Lib.hid h2
  clear h1 h2
  cases hb : pushB (n + m) most
  · have HE := Lib.hid hb
    have ht : ¬ (most < (n : Int) + (m : Int)) := by have := of_decide_eq_false hb; omega
    clear hb
    go_enter Tryz.func130, Tryz.ntmps130
    go_wp2_with (go_at_call 134; refine (concat2 _ _ (heap_alloc_new _ _) (H1.out.alloc _) (H2.out.alloc _) (by omega)).mono ?_; rintro e w1 ⟨A1, c1, rfl, ho⟩; have HO := Lib.hid ho; clear ho)
    go_ret2
    have hl := HL.out
    have hx := HX.out
    subst hl hx
    rw [pushL_ok HE.out, pushE_ok HE.out]
    exact ⟨A1, _, c1, rfl, HO.out.stk, below_new HO.out.below⟩
  · have HE := Lib.hid hb
    have ht : most < (n : Int) + (m : Int) := by have := of_decide_eq_true hb; omega
    clear hb
    go_enter Tryz.func130, Tryz.ntmps130
    go_wp2
    go_ret2
    have hl := HL.out
    have hx := HX.out
    subst hl hx
    rw [pushL_over HE.out, pushE_over HE.out]
    exact ⟨A, _, c, rfl, H1.out, Below.refl _ _⟩

set_option maxHeartbeats 400000 in
theorem pick_any (A : Option Addr) (n c : Nat) (l : List Int) (q : Int) (w : World) (hn : n ≤ 10000) (h1 : Stk w A n c l) :
    Calls Tryz.prog 131 #[.slice A n c, .int .i64 q] w fun e w' => e = .returned (.tuple #[.int .i64 (pickX l q), .int .i64 (pickE l.length q)]) ∧ w = w' := by
  have HL := Lib.hid h1.len
  cases hb : pickB n q
  · obtain ⟨k, rfl, hk⟩ := pickB_no hb
    obtain ⟨b, o, rfl, _, hc⟩ := h1.at_ (n - 1 - k) (by omega)
    have HE := Lib.hid hb
    have hbf : (!pickB n (k : Int)) = true := by rw [hb]; rfl
    have HI : ((n : Int) - 1 - (k : Int)).toNat = n - 1 - k := by omega
    clear hb h1
    go_enter Tryz.func131, Tryz.ntmps131
    go_wp2_with (go_at_call 133; refine (there_any _ _ _ _ _).mono ?_; rintro e w' ⟨rfl, rfl⟩)
    go_ret2
    have hl := HL.out
    subst hl
    rw [pickX_ok HE.out, pickE_ok HE.out]
    exact ⟨rfl, rfl⟩
  · have HE := Lib.hid hb
    have hbf : (!pickB n q) = false := by rw [hb]; rfl
    clear hb h1
    go_enter Tryz.func131, Tryz.ntmps131
    go_wp2_with (go_at_call 133; refine (there_any _ _ _ _ _).mono ?_; rintro e w' ⟨rfl, rfl⟩)
    go_ret2
    have hl := HL.out
    subst hl
    rw [pickX_under HE.out, pickE_under HE.out]
    exact ⟨rfl, rfl⟩

set_option maxHeartbeats 1000000 in
theorem roll_any (A : Option Addr) (n c : Nat) (l : List Int) (q : Int) (w : World) (hn : n ≤ 10000) (h1 : Stk w A n c l) :
    Calls Tryz.prog 57 #[.slice A n c, .int .i64 q] w (StkPost w (rollL l q) (pickE l.length q)) := by
  have HL := Lib.hid h1.len
  cases hb : pickB n q
  · obtain ⟨k, rfl, hk⟩ := pickB_no hb
    obtain ⟨j, rfl⟩ : ∃ j, n = j + 1 + k := ⟨n - 1 - k, by omega⟩
    obtain ⟨A1, c1, r1, s1⟩ := h1.head j (by omega)
    obtain ⟨A2, c2, r2, s2⟩ := h1.tail (j + 1) (by omega)
    obtain ⟨A3, c3, r3, s3⟩ := h1.mid j (j + 1) (by omega) (by omega)
    rw [show j + 1 + k - (j + 1) = k by omega] at r2 s2
    rw [show j + 1 - j = 1 by omega] at r3 s3
    have hone : (l.drop j).take 1 = [l.getD j 0] := by
      have hj : j < l.length := by have := HL.out; omega
      rw [List.drop_eq_getElem_cons hj, List.getD_eq_getElem?_getD, List.getElem?_eq_getElem hj]
      rfl
    rw [hone] at s3
    rw [show (((j + 1 : Nat)) : Int) = (j : Int) + 1 by omega] at r2 r3
    have HE := Lib.hid hb
    have H1 := Lib.hid s1
    have H2 := Lib.hid s2
    have H3 := Lib.hid s3
    have hbf : (!pickB (j + 1 + k) (k : Int)) = true := by rw [hb]; rfl
    have hx : wrap64 (wrap64 ((j : Int) + 1 + (k : Int) - 1) - (k : Int)) = (j : Int) := by unfold wrap64; omega
    have hx2 : (j : Int) + 1 + (k : Int) - 1 - (k : Int) = (j : Int) := by omega
    have hx3 : IntKind.i64.wrap ((j : Int) + 1) = (j : Int) + 1 := IntWalk.i64_in _ (by omega)
    clear hb h1 s1 s2 s3 hone
    go_enter Tryz.func57, Tryz.ntmps57
    go_wp2_with (go_at_call 133; refine (there_any _ _ _ _ _).mono ?_; rintro e w' ⟨rfl, rfl⟩)
    go_region_held3 (fun w' => Below w.heap.size w w') (first | assumption | exact below_drewN (Below.refl _ _) 1 | exact Below.refl _ _ | exact (below_drewN (Below.refl _ _) 1).alloc (Nat.le_refl _) _)
      (first
        | (go_at_call 134; refine (concat3 _ _ (heap_alloc_new _ _) (H1.out.drew.alloc _) (H2.out.drew.alloc _) (H3.out.drew.alloc _) (by omega)).mono ?_; rintro e w1 ⟨A4, c4, rfl, ho⟩; have hb1 := below_then (by assumption) ho.below; have HO := Lib.hid ho; clear ho))
    go_wp2
    go_ret2
    have hl := HL.out
    rw [← hl] at HE
    rw [rollL_ok HE.out, pickE_ok HE.out, hl, Int.toNat_natCast, show j + 1 + k - 1 - k = j by omega]
    exact ⟨A4, _, c4, rfl, HO.out.stk, hb1⟩
  · have HE := Lib.hid hb
    have hbf : (!pickB n q) = false := by rw [hb]; rfl
    have H1 := Lib.hid h1
    clear hb h1
    go_enter Tryz.func57, Tryz.ntmps57
    go_wp2_with (go_at_call 133; refine (there_any _ _ _ _ _).mono ?_; rintro e w' ⟨rfl, rfl⟩)
    go_ret2
    have hl := HL.out
    subst hl
    rw [rollL_under HE.out, pickE_under HE.out]
    exact ⟨A, _, c, rfl, H1.out, Below.refl _ _⟩
end Go.Proofs.YtnlkggfgloblcaaGreat
