/-
  Variables of three cells and of two, each in a block of its own; and what package flow's small calls answer: there, leads, mayMark, deep.
-/
import Derived.Test.YtkcpmjccggfpiaaFlowLib
import Derived.Test.YtkcpmjccggfpiaaScanUpper
import Derived.Deep.RegionHeld3
import Derived.Deep.QuietTactic
import Derived.BigQuiet
import Derived.IntWalk
namespace Go.Proofs.Ytkcpmjccggfpiaa
open Go.RowKit

theorem below_two (w : World) (o o' : Obj) : Below w.heap.size w ((w.alloc o).alloc o') := ((Below.refl _ _).alloc (Nat.le_refl _) _).alloc (by simp) _
theorem below_one (w : World) (o : Obj) : Below w.heap.size w (w.alloc o) := (Below.refl _ _).alloc (Nat.le_refl _) _
/-- Block g holds three values; two. -/
def Bx (w : World) (g : Nat) (t : TypeId) (x y z : Value) : Prop := w.heap[g]? = some (.cells #[x, y, z] t (0, 0))
def Px (w : World) (g : Nat) (t : TypeId) (x y : Value) : Prop := w.heap[g]? = some (.cells #[x, y] t (0, 0))
section
variable {w w' : World} {g : Nat} {t : TypeId} {x y z x' y' z' : Value}
theorem Bx.lt (h : Bx w g t x y z) : g < w.heap.size := (Array.getElem?_eq_some_iff.1 h).1
theorem Bx.c0 (h : Bx w g t x y z) : w.cell? ⟨g, 0, none⟩ = some x := by unfold Bx at h; simp [World.cell?, h]
theorem Bx.c1 (h : Bx w g t x y z) : w.cell? ⟨g, 1, none⟩ = some y := by unfold Bx at h; simp [World.cell?, h]
theorem Bx.c2 (h : Bx w g t x y z) : w.cell? ⟨g, 2, none⟩ = some z := by unfold Bx at h; simp [World.cell?, h]
theorem Bx.f0 (h : Bx w g t x y z) : w.frozen? ⟨g, 0, none⟩ = false := by unfold Bx at h; simp [World.frozen?, h]
theorem Bx.f1 (h : Bx w g t x y z) : w.frozen? ⟨g, 1, none⟩ = false := by unfold Bx at h; simp [World.frozen?, h]
theorem Bx.f2 (h : Bx w g t x y z) : w.frozen? ⟨g, 2, none⟩ = false := by unfold Bx at h; simp [World.frozen?, h]
theorem Bx.keep (h : Bx w g t x y z) (hb : Below w.heap.size w w') : Bx w' g t x y z := (hb.block g h.lt).trans h
theorem Bx.new (w : World) (t : TypeId) (x y z : Value) : Bx (w.alloc (.cells #[x, y, z] t)) w.heap.size t x y z := heap_alloc_new w _
theorem Bx.alloc (h : Bx w g t x y z) (o : Obj) : Bx (w.alloc o) g t x y z := (Below.heap_alloc w o g h.lt).trans h
theorem Bx.drew (h : Bx w g t x y z) : Bx w.drew g t x y z := h
theorem Bx.drewN (h : Bx w g t x y z) (k : Nat) : Bx (w.drewN k) g t x y z := h
theorem Bx.other (h : Bx w g t x y z) {p : Addr} (hp : g ≠ p.block) (v : Value) : Bx (w.setCell p v) g t x y z := (Below.heap_setCell w p v g hp).trans h
theorem Bx.s0 (h : Bx w g t x y z) (v : Value) : Bx (w.setCell ⟨g, 0, none⟩ v) g t v y z := by unfold Bx at h ⊢; simp [World.setCell, Array.getElem?_modify, h]
theorem Bx.s1 (h : Bx w g t x y z) (v : Value) : Bx (w.setCell ⟨g, 1, none⟩ v) g t x v z := by unfold Bx at h ⊢; simp [World.setCell, Array.getElem?_modify, h]
theorem Bx.s2 (h : Bx w g t x y z) (v : Value) : Bx (w.setCell ⟨g, 2, none⟩ v) g t x y v := by unfold Bx at h ⊢; simp [World.setCell, Array.getElem?_modify, h]
theorem Bx.grown {row : Option Nat} (h : Bx w g t x y z) (hb : w.grownBy w' row) (hg : some g ≠ row) : Bx w' g t x y z := (hb.block g h.lt hg).trans h
theorem Px.lt (h : Px w g t x y) : g < w.heap.size := (Array.getElem?_eq_some_iff.1 h).1
theorem Px.c0 (h : Px w g t x y) : w.cell? ⟨g, 0, none⟩ = some x := by unfold Px at h; simp [World.cell?, h]
theorem Px.c1 (h : Px w g t x y) : w.cell? ⟨g, 1, none⟩ = some y := by unfold Px at h; simp [World.cell?, h]
theorem Px.f0 (h : Px w g t x y) : w.frozen? ⟨g, 0, none⟩ = false := by unfold Px at h; simp [World.frozen?, h]
theorem Px.f1 (h : Px w g t x y) : w.frozen? ⟨g, 1, none⟩ = false := by unfold Px at h; simp [World.frozen?, h]
theorem Px.keep (h : Px w g t x y) (hb : Below w.heap.size w w') : Px w' g t x y := (hb.block g h.lt).trans h
theorem Px.new (w : World) (t : TypeId) (x y : Value) : Px (w.alloc (.cells #[x, y] t)) w.heap.size t x y := heap_alloc_new w _
theorem Px.alloc (h : Px w g t x y) (o : Obj) : Px (w.alloc o) g t x y := (Below.heap_alloc w o g h.lt).trans h
theorem Px.other (h : Px w g t x y) {p : Addr} (hp : g ≠ p.block) (v : Value) : Px (w.setCell p v) g t x y := (Below.heap_setCell w p v g hp).trans h
theorem Px.s0 (h : Px w g t x y) (v : Value) : Px (w.setCell ⟨g, 0, none⟩ v) g t v y := by unfold Px at h ⊢; simp [World.setCell, Array.getElem?_modify, h]
theorem Px.s1 (h : Px w g t x y) (v : Value) : Px (w.setCell ⟨g, 1, none⟩ v) g t x v := by unfold Px at h ⊢; simp [World.setCell, Array.getElem?_modify, h]
end

/-- The same in the spelling of a walk: the second of two new blocks. -/
theorem Bx.new2 (w : World) (o : Obj) (t : TypeId) (x y z : Value) : Bx ((w.alloc o).alloc (.cells #[x, y, z] t)) (w.heap.size + 1) t x y z := by
  have h := Bx.new (w.alloc o) t x y z
  rw [World.size_alloc] at h
  exact h
theorem Bx.set3 {w : World} {g : Nat} {t : TypeId} {x y z : Value} (h : Bx w g t x y z) (x' y' z' : Value) : Bx (((w.setCell ⟨g, 0, none⟩ x').setCell ⟨g, 1, none⟩ y').setCell ⟨g, 2, none⟩ z') g t x' y' z' := ((h.s0 x').s1 y').s2 z'
theorem Bx.other3 {w : World} {g g' : Nat} {t : TypeId} {x y z : Value} (h : Bx w g t x y z) (hg : g ≠ g') (x' y' z' : Value) : Bx (((w.setCell ⟨g', 0, none⟩ x').setCell ⟨g', 1, none⟩ y').setCell ⟨g', 2, none⟩ z') g t x y z := ((h.other hg x').other hg y').other hg z'
theorem Px.other3 {w : World} {g g' : Nat} {t : TypeId} {x y : Value} (h : Px w g t x y) (hg : g ≠ g') (x' y' z' : Value) : Px (((w.setCell ⟨g', 0, none⟩ x').setCell ⟨g', 1, none⟩ y').setCell ⟨g', 2, none⟩ z') g t x y := ((h.other hg x').other hg y').other hg z'
theorem below_set3 {a w : World} {B : Nat} (h : Below B a w) {g : Nat} (hg : B ≤ g) (x' y' z' : Value) : Below B a (((w.setCell ⟨g, 0, none⟩ x').setCell ⟨g, 1, none⟩ y').setCell ⟨g, 2, none⟩ z') := ((h.setCell hg _).setCell hg _).setCell hg _

/-- A row of pairs does not lie in a block of slices. -/
theorem Prs.far {w : World} {A A1 A2 A3 : Option Addr} {n c n1 c1 n2 c2 n3 c3 g : Nat} {t : TypeId} {l : List (Int × Int)} (h : Prs w A n c l) (X : Bx w g t (.slice A1 n1 c1) (.slice A2 n2 c2) (.slice A3 n3 c3)) {b o : Nat} (hA : A = some ⟨b, o, none⟩) (hn : 0 < n) : b ≠ g := by
  rintro rfl
  obtain ⟨b', o', e, _, hc⟩ := h.at0 hn
  rw [hA] at e
  cases e
  have h0 := (hc 0 (by rw [h.len]; exact hn)).1
  unfold Bx at X
  rw [cell_of_row w _ _ _ t (0, 0) X] at h0
  match o, h0 with
  | 0, h0 => simp at h0
  | 1, h0 => simp at h0
  | 2, h0 => simp at h0
  | k + 3, h0 => simp at h0
theorem Prs.set_ {w : World} {A A1 A2 A3 : Option Addr} {n c n1 c1 n2 c2 n3 c3 g : Nat} {t : TypeId} {l : List (Int × Int)} (h : Prs w A n c l) (X : Bx w g t (.slice A1 n1 c1) (.slice A2 n2 c2) (.slice A3 n3 c3)) (i : Nat) (v : Value) : Prs (w.setCell ⟨g, i, none⟩ v) A n c l := by
  refine ⟨h.1, h.2.1, fun hn => ?_, h.2.2.2⟩
  obtain ⟨b, o, e, hb, hc⟩ := h.at0 hn
  have hne := h.far X e hn
  refine ⟨b, o, e, by simpa [World.setCell] using hb, fun j hj => ?_⟩
  rw [World.cell?_setCell_other w ⟨g, i, none⟩ ⟨b, _, none⟩ v (fun q => hne (by injection q with q _ _; exact q.symm)), World.cell?_setCell_other w ⟨g, i, none⟩ ⟨b, _, none⟩ v (fun q => hne (by injection q with q _ _; exact q.symm))]
  exact hc j hj
/-- The thread b in three slices. -/
def Bl (w : World) (A : Option Addr) (n c : Nat) (B : Option Addr) (m d : Nat) (C : Option Addr) (k f : Nat) (b : Bd) : Prop := Prs w A n c b.code ∧ Prs w B m d b.marks ∧ Prs w C k f b.outs
section
variable {w w' : World} {A B C A1 A2 A3 : Option Addr} {n c m d k f n1 c1 n2 c2 n3 c3 g : Nat} {b : Bd} {t : TypeId}
theorem Bl.pc (h : Bl w A n c B m d C k f b) : Prs w A n c b.code := h.1
theorem Bl.pm (h : Bl w A n c B m d C k f b) : Prs w B m d b.marks := h.2.1
theorem Bl.po (h : Bl w A n c B m d C k f b) : Prs w C k f b.outs := h.2.2
theorem Bl.below (h : Bl w A n c B m d C k f b) (hb : Below w.heap.size w w') : Bl w' A n c B m d C k f b := ⟨h.1.below hb, h.2.1.below hb, h.2.2.below hb⟩
theorem Bl.alloc (h : Bl w A n c B m d C k f b) (o : Obj) : Bl (w.alloc o) A n c B m d C k f b := ⟨h.1.alloc o, h.2.1.alloc o, h.2.2.alloc o⟩
theorem Bl.drewN (h : Bl w A n c B m d C k f b) (q : Nat) : Bl (w.drewN q) A n c B m d C k f b := h
theorem Bl.drew (h : Bl w A n c B m d C k f b) : Bl w.drew A n c B m d C k f b := h
theorem Bl.as {b' : Bd} (h : Bl w A n c B m d C k f b) (e : b = b') : Bl w A n c B m d C k f b' := e ▸ h
theorem Bl.nil : Bl w none 0 0 none 0 0 none 0 0 ⟨[], [], []⟩ := ⟨Prs.nil, Prs.nil, Prs.nil⟩
theorem Bl.set_ (h : Bl w A n c B m d C k f b) (X : Bx w g t (.slice A1 n1 c1) (.slice A2 n2 c2) (.slice A3 n3 c3)) (i : Nat) (v : Value) : Bl (w.setCell ⟨g, i, none⟩ v) A n c B m d C k f b := ⟨h.1.set_ X i v, h.2.1.set_ X i v, h.2.2.set_ X i v⟩
theorem Bl.set3 {B1 B2 B3 : Option Addr} {p1 e1 p2 e2 p3 e3 : Nat} (h : Bl w A n c B m d C k f b) (X : Bx w g t (.slice A1 n1 c1) (.slice A2 n2 c2) (.slice A3 n3 c3)) :
    Bl (((w.setCell ⟨g, 0, none⟩ (.slice B1 p1 e1)).setCell ⟨g, 1, none⟩ (.slice B2 p2 e2)).setCell ⟨g, 2, none⟩ (.slice B3 p3 e3)) A n c B m d C k f b :=
  ((h.set_ X 0 _).set_ (X.s0 _) 1 _).set_ ((X.s0 _).s1 _) 2 _
end
/-- No list of it is longer. -/
def Few (N : Nat) (b : Bd) : Prop := b.code.length ≤ N ∧ b.marks.length ≤ N ∧ b.outs.length ≤ N
theorem Few.mono {N M : Nat} {b : Bd} (h : Few N b) (hM : N ≤ M) : Few M b := ⟨by have := h.1; omega, by have := h.2.1; omega, by have := h.2.2; omega⟩
theorem Bl.ns {w : World} {A B C : Option Addr} {n c m d k f N : Nat} {b : Bd} (h : Bl w A n c B m d C k f b) (hF : Few N b) : n ≤ N ∧ m ≤ N ∧ k ≤ N := by
  have h1 := h.1.len
  have h2 := h.2.1.len
  have h3 := h.2.2.len
  obtain ⟨f1, f2, f3⟩ := hF
  omega
/-- A thread that came back. -/
def BdPost (w : World) (b : Bd) (e : Ending) (w' : World) : Prop := ∃ A n c B m d C k f, e = .returned (.agg #[.slice A n c, .slice B m d, .slice C k f]) ∧ Bl w' A n c B m d C k f b ∧ Below w.heap.size w w'
/-- With a throw. -/
def BtPost (w : World) (b : Bd) (t : Int) (e : Ending) (w' : World) : Prop := ∃ A n c B m d C k f, e = .returned (.tuple #[.agg #[.slice A n c, .slice B m d, .slice C k f], .int .i64 t]) ∧ Bl w' A n c B m d C k f b ∧ Below w.heap.size w w'

/-- Pairs that lie in a block from B0 on (if there are any). -/
def PrsF (B0 : Nat) (w : World) (A : Option Addr) (n c : Nat) (l : List (Int × Int)) : Prop := Prs w A n c l ∧ (0 < n → ∀ a, A = some a → B0 ≤ a.block)
theorem OwnP.from_ {E : TypeId} {W w : World} {A : Option Addr} {n c : Nat} {l : List (Int × Int)} (h : OwnP E W w A n c l) : PrsF W.heap.size w A n c l := by
  refine ⟨h.prs, fun hn a ha => ?_⟩
  rcases h.1.2 with ⟨_, e⟩ | ⟨g, cap, cur, hv, hb, _⟩
  · omega
  · injection hv with h1 _ _
    rw [ha] at h1
    injection h1 with h1
    subst h1
    exact hb
theorem PrsF.prs {B0 : Nat} {w : World} {A : Option Addr} {n c : Nat} {l : List (Int × Int)} (h : PrsF B0 w A n c l) : Prs w A n c l := h.1
theorem PrsF.mono {B0 B1 : Nat} {w : World} {A : Option Addr} {n c : Nat} {l : List (Int × Int)} (h : PrsF B0 w A n c l) (hB : B1 ≤ B0) : PrsF B1 w A n c l := ⟨h.1, fun hn a ha => Nat.le_trans hB (h.2 hn a ha)⟩
theorem PrsF.drew {B0 : Nat} {w : World} {A : Option Addr} {n c : Nat} {l : List (Int × Int)} (h : PrsF B0 w A n c l) : PrsF B0 w.drew A n c l := h
theorem PrsF.set_ {B0 : Nat} {w : World} {A : Option Addr} {n c : Nat} {l : List (Int × Int)} (h : PrsF B0 w A n c l) {p : Addr} (hp : p.block < B0) (v : Value) : PrsF B0 (w.setCell p v) A n c l := by
  refine ⟨⟨h.1.1, h.1.2.1, fun hn => ?_, h.1.2.2.2⟩, h.2⟩
  obtain ⟨b, o, e, hb, hc⟩ := h.1.at0 hn
  have hle := h.2 hn _ e
  refine ⟨b, o, e, by simpa [World.setCell] using hb, fun j hj => ?_⟩
  have hne : ∀ i, p ≠ ⟨b, i, none⟩ := fun i q => by rw [q] at hp; simp at hp hle; omega
  rw [World.cell?_setCell_other w p ⟨b, _, none⟩ v (hne _), World.cell?_setCell_other w p ⟨b, _, none⟩ v (hne _)]
  exact hc j hj
theorem PrsF.set3 {B0 : Nat} {w : World} {A : Option Addr} {n c : Nat} {l : List (Int × Int)} (h : PrsF B0 w A n c l) {g : Nat} (hp : g < B0) (x y z : Value) : PrsF B0 (((w.setCell ⟨g, 0, none⟩ x).setCell ⟨g, 1, none⟩ y).setCell ⟨g, 2, none⟩ z) A n c l := ((h.set_ hp x).set_ hp y).set_ hp z
theorem PrsF.set2 {B0 : Nat} {w : World} {A : Option Addr} {n c : Nat} {l : List (Int × Int)} (h : PrsF B0 w A n c l) {g : Nat} (hp : g < B0) (x y : Value) : PrsF B0 ((w.setCell ⟨g, 0, none⟩ x).setCell ⟨g, 1, none⟩ y) A n c l := (h.set_ hp x).set_ hp y
theorem heap_new2 (W : World) (o o' : Obj) : ((W.alloc o).alloc o').heap[W.heap.size + 1]? = some o' := by
  have h := heap_alloc_new (W.alloc o) o'
  rw [World.size_alloc] at h
  exact h
theorem bt_fin {w W' : World} {A B C : Option Addr} {n c m d k f : Nat} {b b' : Bd} {t t' : Int} (h : Bl W' A n c B m d C k f b') (hB : Below w.heap.size w W') (e1 : b' = b) (e2 : t' = t) :
    BtPost w b t (.returned (.tuple #[.agg #[.slice A n c, .slice B m d, .slice C k f], .int .i64 t'])) W' := by
  subst e1 e2
  exact ⟨_, _, _, _, _, _, _, _, _, rfl, h, hB⟩
theorem bd_fin {w W' : World} {A B C : Option Addr} {n c m d k f : Nat} {b b' : Bd} (h : Bl W' A n c B m d C k f b') (hB : Below w.heap.size w W') (e1 : b' = b) :
    BdPost w b (.returned (.agg #[.slice A n c, .slice B m d, .slice C k f])) W' := by
  subst e1
  exact ⟨_, _, _, _, _, _, _, _, _, rfl, h, hB⟩

theorem there_is (A : Option Addr) (n c : Nat) (a : Int) (r : Bool) (h : flThere n a = r) (w : World) : Calls Try.prog 41 #[.slice A n c, .int .i64 a] w fun e w' => e = .returned (.bool r) ∧ w = w' := by
  unfold flThere at h
  by_cases h0 : 0 ≤ a
  · have hd : decide (0 ≤ a) = true := decide_eq_true h0
    have hd2 : decide (a < (n : Int)) = r := by rw [← h]; exact decide_eq_decide.2 (by omega)
    clear h
    go_enter Try.func41, Try.ntmps41
    go_wp2
    go_ret
    exact ⟨rfl, rfl⟩
  · have hd : decide (0 ≤ a) = false := decide_eq_false h0
    obtain rfl : false = r := by rw [← h, decide_eq_false (by omega)]
    clear h
    go_enter Try.func41, Try.ntmps41
    go_wp2
    go_ret
    exact ⟨rfl, rfl⟩
theorem leads_is (o : Int) (r : Bool) (h : flLeads o = r) (w : World) : Calls Try.prog 42 #[.int .i64 o] w fun e w' => e = .returned (.bool r) ∧ w = w' := by
  unfold flLeads at h
  cases h1 : (o == 1) <;> cases h2 : (o == 2) <;> cases h6 : (o == 6) <;> cases h7 : (o == 7) <;> cases h8 : (o == 8) <;> rw [h1, h2, h6, h7, h8] at h <;> simp at h <;> subst h <;>
  (go_enter Try.func42, Try.ntmps42
   go_wp2
   go_ret
   exact ⟨rfl, rfl⟩)
end Go.Proofs.Ytkcpmjccggfpiaa
