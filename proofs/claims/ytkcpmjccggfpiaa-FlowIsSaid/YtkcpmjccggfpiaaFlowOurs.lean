/-
  Threads turned from the document's form to the package's, and back: each mark by itself, onto a row of the call's own.
-/
import Derived.Test.YtkcpmjccggfpiaaFlowFin
import Derived.Deep.AppendLies
import Derived.Deep.RegionLaw
namespace Go.Proofs.Ytkcpmjccggfpiaa
open Go.RowKit

theorem row_keep2 {w w' : World} {B0 : Nat} {E : TypeId} {s : Nat} {v : Value} {n : Nat} {xs : List Value} (h : w.ownsRow B0 E s v n xs) (hk : ∀ g, B0 ≤ g → g < w.heap.size → w'.heap[g]? = w.heap[g]?) : w'.ownsRow B0 E s v n xs :=
  row_keep h fun g hg => hk g (h.lt g hg).1 (h.lt g hg).2
/-- An append onto a row that lies from a block B0 on. -/
theorem run_appR {T E : TypeId} (pt : PT T E) {B0 : Nat} {w : World} {A B : Option Addr} {n c m d : Nat} {xs l : List (Int × Int)} (ty : TypeId) (h : w.ownsRow B0 E 2 (.slice A n c) n (prsOf xs)) (hbase : B0 ≤ w.heap.size) (hs : Prs w B m d l) (hn : n + m ≤ 1000000) :
    ∃ A' c' w', (Builtin.append_ #[T, T] ty #[.slice A n c, .slice B m d]).run Try.prog w = .ok (.slice A' (n + m) c') w' ∧ w'.ownsRow B0 E 2 (.slice A' (n + m) c') (n + m) (prsOf (xs ++ l)) ∧ Below B0 w w' := by
  obtain ⟨i, hi, hz0, hz1, hz2⟩ := info_parts pt.info
  cases B with
  | none =>
    obtain ⟨rfl, rfl, rfl⟩ := hs.none_
    refine ⟨A, c, w, run_append_owned_none (P := Try.prog) (w := w) B0 T ty E i 2 pt.under hi _ n (prsOf xs) h, ?_, Below.refl _ _⟩
    rw [List.append_nil, Nat.add_zero]
    exact h
  | some a =>
    obtain ⟨v', w', hrun, h2, h3, _, _⟩ := run_append_own_at (P := Try.prog) w B0 T ty E i (.agg #[.int .i64 0, .int .i64 0]) 2 16 pt.under hi hz0 hz1 hz2 rfl (by decide) _ n (prsOf xs) h a m d (prsOf l)
      (by rw [prsOf_length, hs.1]) hs.src (prsOf_one l) (by unfold maxLen; omega) (by omega) hbase
    have hv : ∃ A' c', v' = .slice A' (n + m) c' := by
      rcases h2.2 with ⟨rfl, e⟩ | ⟨g, cap, cur, rfl, _⟩
      · exact ⟨none, 0, by rw [e]⟩
      · exact ⟨_, _, rfl⟩
    obtain ⟨A', c', rfl⟩ := hv
    exact ⟨A', c', w', hrun, by rw [prsOf_append]; exact h2, (Below.refl B0 w).grown h3 hbase (fun k hk => (h.lt k hk).1)⟩
theorem step_appR {T E : TypeId} (pt : PT T E) {B0 : Nat} {w : World} {ops : Array Oper} {o : Oper} {a : Act} {K : Act → World → Prop} {Q : Exit → Act → World → Prop} {E' : Prop} (hgd : o.guard = none) (s x : Operand)
    (ho : o.op = .call { callee := .builtin .append, args := #[s, x], argTypes := #[T, T] })
    {A B : Option Addr} {n c m d : Nat} {xs l : List (Int × Int)} (hs : a.eval s = .slice A n c) (hx : a.eval x = .slice B m d) (h : w.ownsRow B0 E 2 (.slice A n c) n (prsOf xs)) (hbase : B0 ≤ w.heap.size) (hl : Prs w B m d l) (hn : n + m ≤ 1000000)
    (hk : ∀ A' c' w', w'.ownsRow B0 E 2 (.slice A' (n + m) c') (n + m) (prsOf (xs ++ l)) → Below B0 w w' → K (a.put o.dst (.slice A' (n + m) c')) w') :
    if Region.wanted o (yielded ops a.tmps) = true then Oper.wp Try.prog o a w K Q else E' := by
  have hw : Region.wanted o (yielded ops a.tmps) = true := by simp [Region.wanted, hgd]
  rw [if_pos hw]
  obtain ⟨A', c', w', hrun, h2, h3⟩ := run_appR pt o.type h hbase hl hn
  unfold Oper.wp execOp
  simp only [ho, resolve, invoke, builtin, Sem.run_bind, Sem.run_pure, Result.andThen_ok, List.map_toArray, List.map_cons, List.map_nil, hs, hx, hrun]
  exact hk A' c' w' h2 h3
theorem size_set3 (w : World) (g : Nat) (x y z : Value) : (((w.setCell ⟨g, 0, none⟩ x).setCell ⟨g, 1, none⟩ y).setCell ⟨g, 2, none⟩ z).heap.size = w.heap.size := by simp [World.setCell]
theorem Bx.new3 (w : World) (o o' : Obj) (t : TypeId) (x y z : Value) : Bx (((w.alloc o).alloc o').alloc (.cells #[x, y, z] t)) (w.heap.size + 1 + 1) t x y z := by
  have h := Bx.new ((w.alloc o).alloc o') t x y z
  rw [World.size_alloc, World.size_alloc] at h
  exact h
theorem Bx.below {w w' : World} {B0 g : Nat} {t : TypeId} {x y z : Value} (h : Bx w g t x y z) (hb : Below B0 w w') (hg : g < B0) : Bx w' g t x y z := (hb.block g hg).trans h
/-- Pairs that lie below a block. -/
def PrsU (B0 : Nat) (w : World) (A : Option Addr) (n c : Nat) (l : List (Int × Int)) : Prop := Prs w A n c l ∧ (0 < n → ∀ a, A = some a → a.block < B0)
theorem Prs.under {w : World} {A : Option Addr} {n c : Nat} {l : List (Int × Int)} (h : Prs w A n c l) : PrsU w.heap.size w A n c l :=
  ⟨h, fun hn a ha => by obtain ⟨b, o, e, hb, _⟩ := h.at0 hn; rw [ha] at e; cases e; exact hb⟩
theorem PrsU.below {B0 : Nat} {w w' : World} {A : Option Addr} {n c : Nat} {l : List (Int × Int)} (h : PrsU B0 w A n c l) (hb : Below B0 w w') : PrsU B0 w' A n c l := by
  refine ⟨⟨h.1.1, h.1.2.1, fun hn => ?_, h.1.2.2.2⟩, h.2⟩
  obtain ⟨b, o, e, hlt, hc⟩ := h.1.at0 hn
  have hu := h.2 hn _ e
  exact ⟨b, o, e, Nat.lt_of_lt_of_le hlt hb.size, fun j hj => by rw [World.cell?_of_block (w := w) (a := ⟨b, _, none⟩) (hb.block b hu), World.cell?_of_block (w := w) (a := ⟨b, _, none⟩) (hb.block b hu)]; exact hc j hj⟩
theorem PrsU.set_ {B0 : Nat} {w : World} {A A1 A2 A3 : Option Addr} {n c n1 c1 n2 c2 n3 c3 g : Nat} {t : TypeId} {l : List (Int × Int)} (h : PrsU B0 w A n c l) (X : Bx w g t (.slice A1 n1 c1) (.slice A2 n2 c2) (.slice A3 n3 c3)) (i : Nat) (v : Value) : PrsU B0 (w.setCell ⟨g, i, none⟩ v) A n c l := ⟨h.1.set_ X i v, h.2⟩
theorem row_set {w : World} {B0 : Nat} {E : TypeId} {s : Nat} {v : Value} {n : Nat} {xs : List Value} (h : w.ownsRow B0 E s v n xs) {p : Addr} (hp : p.block < B0) (u : Value) : (w.setCell p u).ownsRow B0 E s v n xs :=
  row_keep h fun g hg => Below.heap_setCell w p u g (by have := (h.lt g hg).1; omega)
theorem take_next (l : List (Int × Int)) (j : Nat) (hj : j < l.length) : l.take (j + 1) = l.take j ++ [l.getD j (0, 0)] := by
  rw [List.take_succ_eq_append_getElem hj]
  simp [List.getD, hj]

set_option maxHeartbeats 2000000 in
theorem ours_any (A B C : Option Addr) (n c m d k f : Nat) (b : Bd) (w : World) (hF : Few 50000 b) (h : Bl w A n c B m d C k f b) :
    Calls Try.prog 12 #[.agg #[.slice A n c, .slice B m d, .slice C k f]] w (BdPost w b) := by
  obtain ⟨hn, hm, hk⟩ := h.ns hF
  have LC := Lib.hid h.1.len
  have LM := Lib.hid h.2.1.len
  have LO := Lib.hid h.2.2.len
  have H := Lib.hid h
  clear h hF
  have X1 := Lib.hid (((Bx.new w 25 (.slice A n c) (.slice B m d) (.slice C k f)).alloc (.cells #[.slice none 0 0, .slice none 0 0, .slice none 0 0] 30)).alloc (.cells #[.slice A n c, .slice none 0 0, .slice none 0 0] 30))
  have X2 := Lib.hid ((Bx.new2 w (.cells #[.slice A n c, .slice B m d, .slice C k f] 25) 30 (.slice none 0 0) (.slice none 0 0) (.slice none 0 0)).alloc (.cells #[.slice A n c, .slice none 0 0, .slice none 0 0] 30))
  have X3 := Lib.hid (Bx.new3 w (.cells #[.slice A n c, .slice B m d, .slice C k f] 25) (.cells #[.slice none 0 0, .slice none 0 0, .slice none 0 0] 30) 30 (.slice A n c) (.slice none 0 0) (.slice none 0 0))
  have HB := Lib.hid ((below_two w (.cells #[.slice A n c, .slice B m d, .slice C k f] 25) (.cells #[.slice none 0 0, .slice none 0 0, .slice none 0 0] 30)).alloc (by simp <;> omega) (.cells #[.slice A n c, .slice none 0 0, .slice none 0 0] 30))
  go_enter Try.func12, Try.ntmps12
  go_upto_region 2 with (fail)
  generalize ((w.alloc (.cells #[.slice A n c, .slice B m d, .slice C k f] 25)).alloc (.cells #[.slice none 0 0, .slice none 0 0, .slice none 0 0] 30)).alloc (.cells #[.slice A n c, .slice none 0 0, .slice none 0 0] 30) = W at *
  have hW1 : w.heap.size < W.heap.size := X1.out.lt
  have hW2 : w.heap.size + 1 < W.heap.size := X2.out.lt
  have hW3 : w.heap.size + 1 + 1 < W.heap.size := X3.out.lt
  go_wp2
  go_loopw [4] (fun i wr => ∃ (j : Nat) (P : Option Addr) (cp : Nat), j ≤ m ∧ i = .int .i64 j ∧ Bx wr w.heap.size 25 (.slice A n c) (.slice B m d) (.slice C k f) ∧ Bx wr (w.heap.size + 1) 30 (.slice none 0 0) (.slice none 0 0) (.slice none 0 0) ∧ Bx wr (w.heap.size + 1 + 1) 30 (.slice A n c) (.slice P j cp) (.slice none 0 0) ∧ wr.ownsRow W.heap.size 62 2 (.slice P j cp) j (prsOf (b.marks.take j)) ∧ Below w.heap.size w wr ∧ W.heap.size ≤ wr.heap.size) (fun i _ => ((m : Int) - intOf i).toNat)
  case atStart => exact ⟨0, none, 0, by omega, rfl, X1.out, X2.out, X3.out, (OwnP.nil _ _).1, HB.out, Nat.le_refl _⟩
  case round =>
    obtain ⟨j, P0, cp0, hj, rfl, h1, h2, h3, hO, hb, hs⟩ := hrel
    have R1 := Lib.hid h1
    have R2 := Lib.hid h2
    have R3 := Lib.hid h3
    have RO := Lib.hid hO
    have RB := Lib.hid hb
    clear h1 h2 h3 hO hb
    have hw1 : w.heap.size < wr.heap.size := R1.out.lt
    have hw3 : w.heap.size + 1 + 1 < wr.heap.size := R3.out.lt
    have a1 := R1.out.c1
    have a2 := R1.out.c2
    have z1 := R3.out.c1
    have zf1 := R3.out.f1
    have z2 := R3.out.c2
    have zf2 := R3.out.f2
    by_cases hlt : j < m
    · have hjl : j < b.marks.length := by rw [LM.out]; exact hlt
      obtain ⟨mb, mo, rfl, hbl, e0', e1'⟩ := H.out.pm.at_ j hlt
      have E0 := Lib.hid e0'
      have E1 := Lib.hid e1'
      clear e0' e1'
      have e0 := (RB.out.cell (p := ⟨mb, _, none⟩) hbl).trans E0.out
      have e1 := (RB.out.cell (p := ⟨mb, _, none⟩) hbl).trans E1.out
      have HN := Lib.hid (take_next b.marks j hjl)
      generalize (b.marks.getD j (0, 0)) = p at *
      obtain ⟨x, y⟩ := p
      have hmr : mb < wr.heap.size := by omega
      go_upto_region 5 with (fail)
      have hHeld' : (fun w' => w'.cell? ⟨w.heap.size, 1, none⟩ = some (.slice (some ⟨mb, mo, none⟩) m d) ∧ w'.cell? ⟨mb, mo + j * 2, none⟩ = some (.int .i64 x) ∧ w'.cell? ⟨mb, mo + j * 2 + 1, none⟩ = some (.int .i64 y)) wr.drew := ⟨a1, e0, e1⟩
      refine wp_region_held_drew (S := (fun w' => w'.cell? ⟨w.heap.size, 1, none⟩ = some (.slice (some ⟨mb, mo, none⟩) m d) ∧ w'.cell? ⟨mb, mo + j * 2, none⟩ = some (.int .i64 x) ∧ w'.cell? ⟨mb, mo + j * 2 + 1, none⟩ = some (.int .i64 y))) (by kernel_rfl) hHeld' (fun hHeld => ?_)
      clear hHeld'
      refine wpAnyH_take (i := 0) (oi := { dst := some 16, op := Op.fieldAddr 30 (Operand.tmp 3) 1, type := 0, pos := "law.go:15", after := #[], guard := none }) (v := ?_) rfl (by kernel_rfl) (by kernel_rfl) (by kernel_rfl) (fun _ _ _ h => h) (Or.inl ⟨by kernel_rfl, ?_⟩) hHeld ?_
      rotate_left
      · intro w9 hSw; (try dsimp only at hSw); go_simp; try with_reducible rfl
      simp only [Act.put, List.setIfInBounds_toArray, List.set_cons_zero, List.set_cons_succ]
      refine wpAnyH_take (i := 2) (oi := { dst := some 18, op := Op.fieldAddr 25 (Operand.tmp 1) 1, type := 0, pos := "law.go:15", after := #[], guard := none }) (v := ?_) rfl (by kernel_rfl) (by kernel_rfl) (by kernel_rfl) (fun _ _ _ h => h) (Or.inl ⟨by kernel_rfl, ?_⟩) hHeld ?_
      rotate_left
      · intro w9 hSw; (try dsimp only at hSw); go_simp; try with_reducible rfl
      simp only [Act.put, List.setIfInBounds_toArray, List.set_cons_zero, List.set_cons_succ]
      refine wpAnyH_take (i := 3) (oi := { dst := some 19, op := Op.load 23 (Operand.tmp 18), type := 23, pos := "law.go:15", after := #[{ on := 2, ground := Ground.data }], guard := none }) (v := ?_) rfl (by kernel_rfl) (by kernel_rfl) (by kernel_rfl) (fun _ _ _ h => h) (Or.inl ⟨by kernel_rfl, ?_⟩) hHeld ?_
      rotate_left
      · intro w9 hSw; (try dsimp only at hSw); go_simp; try with_reducible rfl
      simp only [Act.put, List.setIfInBounds_toArray, List.set_cons_zero, List.set_cons_succ]
      refine wpAnyH_take (i := 4) (oi := { dst := some 20, op := Op.move (Operand.tmp 4), type := 3, pos := "law.go:15", after := #[], guard := none }) (v := ?_) rfl (by kernel_rfl) (by kernel_rfl) (by kernel_rfl) (fun _ _ _ h => h) (Or.inl ⟨by kernel_rfl, ?_⟩) hHeld ?_
      rotate_left
      · intro w9 hSw; (try dsimp only at hSw); go_simp; try with_reducible rfl
      simp only [Act.put, List.setIfInBounds_toArray, List.set_cons_zero, List.set_cons_succ]
      refine wpAnyH_take (i := 5) (oi := { dst := some 21, op := Op.indexAddr 23 (Operand.tmp 19) (Operand.tmp 20), type := 0, pos := "law.go:15", after := #[{ on := 3, ground := Ground.data }, { on := 4, ground := Ground.data }], guard := none }) (v := ?_) rfl (by kernel_rfl) (by kernel_rfl) (by kernel_rfl) (fun _ _ _ h => h) (Or.inl ⟨by kernel_rfl, ?_⟩) hHeld ?_
      rotate_left
      · intro w9 hSw; (try dsimp only at hSw); go_simp; try with_reducible rfl
      simp only [Act.put, List.setIfInBounds_toArray, List.set_cons_zero, List.set_cons_succ]
      refine wpAnyH_take (i := 6) (oi := { dst := some 22, op := Op.fieldAddr 57 (Operand.tmp 21) 0, type := 0, pos := "law.go:15", after := #[{ on := 5, ground := Ground.data }], guard := none }) (v := ?_) rfl (by kernel_rfl) (by kernel_rfl) (by kernel_rfl) (fun _ _ _ h => h) (Or.inl ⟨by kernel_rfl, ?_⟩) hHeld ?_
      rotate_left
      · intro w9 hSw; (try dsimp only at hSw); go_simp; try with_reducible rfl
      simp only [Act.put, List.setIfInBounds_toArray, List.set_cons_zero, List.set_cons_succ]
      refine wpAnyH_take (i := 7) (oi := { dst := some 23, op := Op.load 3 (Operand.tmp 22), type := 3, pos := "law.go:15", after := #[{ on := 6, ground := Ground.data }], guard := none }) (v := ?_) rfl (by kernel_rfl) (by kernel_rfl) (by kernel_rfl) (fun _ _ _ h => h) (Or.inl ⟨by kernel_rfl, ?_⟩) hHeld ?_
      rotate_left
      · intro w9 hSw; (try dsimp only at hSw); go_simp; try with_reducible rfl
      simp only [Act.put, List.setIfInBounds_toArray, List.set_cons_zero, List.set_cons_succ]
      refine wpAnyH_take (i := 8) (oi := { dst := some 24, op := Op.fieldAddr 25 (Operand.tmp 1) 1, type := 0, pos := "law.go:15", after := #[], guard := none }) (v := ?_) rfl (by kernel_rfl) (by kernel_rfl) (by kernel_rfl) (fun _ _ _ h => h) (Or.inl ⟨by kernel_rfl, ?_⟩) hHeld ?_
      rotate_left
      · intro w9 hSw; (try dsimp only at hSw); go_simp; try with_reducible rfl
      simp only [Act.put, List.setIfInBounds_toArray, List.set_cons_zero, List.set_cons_succ]
      refine wpAnyH_take (i := 9) (oi := { dst := some 25, op := Op.load 23 (Operand.tmp 24), type := 23, pos := "law.go:15", after := #[{ on := 8, ground := Ground.data }], guard := none }) (v := ?_) rfl (by kernel_rfl) (by kernel_rfl) (by kernel_rfl) (fun _ _ _ h => h) (Or.inl ⟨by kernel_rfl, ?_⟩) hHeld ?_
      rotate_left
      · intro w9 hSw; (try dsimp only at hSw); go_simp; try with_reducible rfl
      simp only [Act.put, List.setIfInBounds_toArray, List.set_cons_zero, List.set_cons_succ]
      refine wpAnyH_take (i := 10) (oi := { dst := some 26, op := Op.move (Operand.tmp 4), type := 3, pos := "law.go:15", after := #[], guard := none }) (v := ?_) rfl (by kernel_rfl) (by kernel_rfl) (by kernel_rfl) (fun _ _ _ h => h) (Or.inl ⟨by kernel_rfl, ?_⟩) hHeld ?_
      rotate_left
      · intro w9 hSw; (try dsimp only at hSw); go_simp; try with_reducible rfl
      simp only [Act.put, List.setIfInBounds_toArray, List.set_cons_zero, List.set_cons_succ]
      refine wpAnyH_take (i := 11) (oi := { dst := some 27, op := Op.indexAddr 23 (Operand.tmp 25) (Operand.tmp 26), type := 0, pos := "law.go:15", after := #[{ on := 9, ground := Ground.data }, { on := 10, ground := Ground.data }], guard := none }) (v := ?_) rfl (by kernel_rfl) (by kernel_rfl) (by kernel_rfl) (fun _ _ _ h => h) (Or.inl ⟨by kernel_rfl, ?_⟩) hHeld ?_
      rotate_left
      · intro w9 hSw; (try dsimp only at hSw); go_simp; try with_reducible rfl
      simp only [Act.put, List.setIfInBounds_toArray, List.set_cons_zero, List.set_cons_succ]
      refine wpAnyH_take (i := 12) (oi := { dst := some 28, op := Op.fieldAddr 57 (Operand.tmp 27) 1, type := 0, pos := "law.go:15", after := #[{ on := 11, ground := Ground.data }], guard := none }) (v := ?_) rfl (by kernel_rfl) (by kernel_rfl) (by kernel_rfl) (fun _ _ _ h => h) (Or.inl ⟨by kernel_rfl, ?_⟩) hHeld ?_
      rotate_left
      · intro w9 hSw; (try dsimp only at hSw); go_simp; try with_reducible rfl
      simp only [Act.put, List.setIfInBounds_toArray, List.set_cons_zero, List.set_cons_succ]
      refine wpAnyH_take (i := 13) (oi := { dst := some 29, op := Op.load 3 (Operand.tmp 28), type := 3, pos := "law.go:15", after := #[{ on := 12, ground := Ground.data }], guard := none }) (v := ?_) rfl (by kernel_rfl) (by kernel_rfl) (by kernel_rfl) (fun _ _ _ h => h) (Or.inl ⟨by kernel_rfl, ?_⟩) hHeld ?_
      rotate_left
      · intro w9 hSw; (try dsimp only at hSw); go_simp; try with_reducible rfl
      simp only [Act.put, List.setIfInBounds_toArray, List.set_cons_zero, List.set_cons_succ]
      refine wpAnyH_take (i := 14) (oi := { dst := some 30, op := Op.build 62 #[(0, Operand.tmp 23), (1, Operand.tmp 29)], type := 62, pos := "law.go:15", after := #[{ on := 7, ground := Ground.data }, { on := 13, ground := Ground.data }], guard := none }) (v := ?_) rfl (by kernel_rfl) (by kernel_rfl) (by kernel_rfl) (fun _ _ _ h => h) (Or.inl ⟨by kernel_rfl, ?_⟩) hHeld ?_
      rotate_left
      · intro w9 hSw; (try dsimp only at hSw); go_simp; try with_reducible rfl
      simp only [Act.put, List.setIfInBounds_toArray, List.set_cons_zero, List.set_cons_succ]
      have hS2 : (fun w' => w'.cell? ⟨w.heap.size, 1, none⟩ = some (.slice (some ⟨mb, mo, none⟩) m d) ∧ w'.cell? ⟨mb, mo + j * 2, none⟩ = some (.int .i64 x) ∧ w'.cell? ⟨mb, mo + j * 2 + 1, none⟩ = some (.int .i64 y)) (wr.drew.alloc (.cells #[.int .i64 x, .int .i64 y] 62)) := ⟨(R1.out.drew.alloc _).c1, (Below.cell (below_one wr.drew (.cells #[.int .i64 x, .int .i64 y] 62)) (p := ⟨mb, _, none⟩) hmr).trans e0, (Below.cell (below_one wr.drew (.cells #[.int .i64 x, .int .i64 y] 62)) (p := ⟨mb, _, none⟩) hmr).trans e1⟩
      refine wpAnyH_ready (rs := [1, 15]) (by kernel_rfl) (by simp) ?_
      refine AllReadyH.cons (o := { dst := some 17, op := Op.load 28 (Operand.tmp 16), type := 28, pos := "law.go:15", after := #[{ on := 0, ground := Ground.data }], guard := none }) rfl (fun K hK => ?_) (AllReadyH.cons (o := { dst := some 31, op := Op.buildSlice 28 1 #[(0, Operand.tmp 30)], type := 28, pos := "law.go:15", after := #[{ on := 14, ground := Ground.data }], guard := none }) rfl (fun K hK => ?_) AllReadyH.nil)
      · go_simp
        refine hK.out _ _ hHeld (fun hHeld => ?_)
        clear hK K
        try simp only [Act.put, List.setIfInBounds_toArray, List.set_cons_zero, List.set_cons_succ]
        refine wpAnyH_ready (rs := [15]) (by kernel_rfl) (by simp) ?_
        refine AllReadyH.cons (o := { dst := some 31, op := Op.buildSlice 28 1 #[(0, Operand.tmp 30)], type := 28, pos := "law.go:15", after := #[{ on := 14, ground := Ground.data }], guard := none }) rfl (fun K hK => ?_) AllReadyH.nil
        go_simp
        refine hK.out _ _ hS2 (fun hHeld => ?_)
        clear hK K
        try simp only [Act.put, List.setIfInBounds_toArray, List.set_cons_zero, List.set_cons_succ]
        refine wpAnyH_ready (rs := [16]) (by kernel_rfl) (by simp) ?_
        refine AllReadyH.cons (o := { dst := some 32, op := Op.call { callee := Callee.builtin Builtin.append, args := #[Operand.tmp 17, Operand.tmp 31], argTypes := #[28, 28] }, type := 28, pos := "law.go:15", after := #[{ on := 1, ground := Ground.data }, { on := 15, ground := Ground.data }], guard := none }) rfl (fun K hK => ?_) AllReadyH.nil
        refine step_appR ptF (B0 := W.heap.size) rfl (.tmp 17) (.tmp 31) rfl rfl rfl (row_alloc RO.out _) (by simp <;> omega) (Prs.new1 _ _ x y) (by omega) ?_
        intro A5 c5 w5 hw5 hb5
        have HW := Lib.hid hw5; have HG := Lib.hid hb5; have Z3 := Lib.hid (Bx.below (Bx.alloc R3.out.drew _) hb5 (by omega)); have GB := Lib.hid (Below.trans (Below.alloc RB.out.drew RB.out.size _) (hb5.mono (by omega))); have v1 := Z3.out.c1; have vf1 := Z3.out.f1; have hv3 := Z3.out.lt; clear hw5 hb5
        refine hK.out _ _ ⟨(Bx.below (Bx.alloc R1.out.drew _) HG.out (by omega)).c1, (GB.out.cell (p := ⟨mb, _, none⟩) hbl).trans E0.out, (GB.out.cell (p := ⟨mb, _, none⟩) hbl).trans E1.out⟩ (fun hHeld => ?_)
        clear hK K
        try simp only [Act.put, List.setIfInBounds_toArray, List.set_cons_zero, List.set_cons_succ]
        refine wpAnyH_take (i := 17) (oi := { dst := some 33, op := Op.fieldAddr 30 (Operand.tmp 3) 1, type := 0, pos := "law.go:15", after := #[{ on := 0, ground := Ground.phase }, { on := 1, ground := Ground.phase }, { on := 2, ground := Ground.phase }, { on := 3, ground := Ground.phase }, { on := 4, ground := Ground.phase }, { on := 5, ground := Ground.phase }, { on := 6, ground := Ground.phase }, { on := 7, ground := Ground.phase }, { on := 8, ground := Ground.phase }, { on := 9, ground := Ground.phase }, { on := 10, ground := Ground.phase }, { on := 11, ground := Ground.phase }, { on := 12, ground := Ground.phase }, { on := 13, ground := Ground.phase }, { on := 14, ground := Ground.phase }, { on := 15, ground := Ground.phase }, { on := 16, ground := Ground.phase }], guard := none }) (v := ?_) rfl (by kernel_rfl) (by kernel_rfl) (by kernel_rfl) (fun _ _ _ h => h) (Or.inl ⟨by kernel_rfl, ?_⟩) hHeld ?_
        rotate_left
        · intro w9 hSw; (try dsimp only at hSw); go_simp; try with_reducible rfl
        simp only [Act.put, List.setIfInBounds_toArray, List.set_cons_zero, List.set_cons_succ]
        refine wpAnyH_ready (rs := [18]) (by kernel_rfl) (by simp) ?_
        refine AllReadyH.cons (o := { dst := none, op := Op.store 28 (Operand.tmp 33) (Operand.tmp 32), type := 0, pos := "law.go:15", after := #[{ on := 17, ground := Ground.data }, { on := 16, ground := Ground.data }, { on := 16, ground := Ground.chain }, { on := 0, ground := Ground.phase }, { on := 1, ground := Ground.phase }, { on := 2, ground := Ground.phase }, { on := 3, ground := Ground.phase }, { on := 4, ground := Ground.phase }, { on := 5, ground := Ground.phase }, { on := 6, ground := Ground.phase }, { on := 7, ground := Ground.phase }, { on := 8, ground := Ground.phase }, { on := 9, ground := Ground.phase }, { on := 10, ground := Ground.phase }, { on := 11, ground := Ground.phase }, { on := 12, ground := Ground.phase }, { on := 13, ground := Ground.phase }, { on := 14, ground := Ground.phase }, { on := 15, ground := Ground.phase }, { on := 16, ground := Ground.phase }], guard := none }) rfl (fun K hK => ?_) AllReadyH.nil
        go_simp
        refine hK.out _ _ ⟨((Bx.below (Bx.alloc R1.out.drew _) HG.out (by omega)).other (by simp <;> omega) _).c1, (World.cell?_setCell_other _ ⟨_, _, none⟩ ⟨mb, _, none⟩ _ (by simp <;> omega)).trans hHeld.2.1, (World.cell?_setCell_other _ ⟨_, _, none⟩ ⟨mb, _, none⟩ _ (by simp <;> omega)).trans hHeld.2.2⟩ (fun hHeld => ?_)
        clear hK K
        try simp only [Act.put, List.setIfInBounds_toArray, List.set_cons_zero, List.set_cons_succ]
        refine wpAnyH_done (by kernel_rfl) ?_ _
        go_wp2
        go_roundw
        case rel =>
          refine ⟨j + 1, A5, c5, by omega, by go_num, (Bx.below (Bx.alloc R1.out.drew _) HG.out (by omega)).other (by simp <;> omega) _, (Bx.below (Bx.alloc R2.out.drew _) HG.out (by omega)).other (by simp <;> omega) _, Z3.out.s1 _, ?_, GB.out.setCell (by simp <;> omega) _, ?_⟩
          · rw [HN.out]
            exact row_set HW.out (by simp <;> omega) _
          · have := HG.out.size
            simp [World.setCell] at this ⊢
            omega
        case measure => simp [intOf]; omega
      · go_simp
        refine hK.out _ _ hS2 (fun hHeld => ?_)
        clear hK K
        try simp only [Act.put, List.setIfInBounds_toArray, List.set_cons_zero, List.set_cons_succ]
        refine wpAnyH_ready (rs := [1]) (by kernel_rfl) (by simp) ?_
        refine AllReadyH.cons (o := { dst := some 17, op := Op.load 28 (Operand.tmp 16), type := 28, pos := "law.go:15", after := #[{ on := 0, ground := Ground.data }], guard := none }) rfl (fun K hK => ?_) AllReadyH.nil
        go_simp
        refine hK.out _ _ hHeld (fun hHeld => ?_)
        clear hK K
        try simp only [Act.put, List.setIfInBounds_toArray, List.set_cons_zero, List.set_cons_succ]
        refine wpAnyH_ready (rs := [16]) (by kernel_rfl) (by simp) ?_
        refine AllReadyH.cons (o := { dst := some 32, op := Op.call { callee := Callee.builtin Builtin.append, args := #[Operand.tmp 17, Operand.tmp 31], argTypes := #[28, 28] }, type := 28, pos := "law.go:15", after := #[{ on := 1, ground := Ground.data }, { on := 15, ground := Ground.data }], guard := none }) rfl (fun K hK => ?_) AllReadyH.nil
        refine step_appR ptF (B0 := W.heap.size) rfl (.tmp 17) (.tmp 31) rfl rfl rfl (row_alloc RO.out _) (by simp <;> omega) (Prs.new1 _ _ x y) (by omega) ?_
        intro A5 c5 w5 hw5 hb5
        have HW := Lib.hid hw5; have HG := Lib.hid hb5; have Z3 := Lib.hid (Bx.below (Bx.alloc R3.out.drew _) hb5 (by omega)); have GB := Lib.hid (Below.trans (Below.alloc RB.out.drew RB.out.size _) (hb5.mono (by omega))); have v1 := Z3.out.c1; have vf1 := Z3.out.f1; have hv3 := Z3.out.lt; clear hw5 hb5
        refine hK.out _ _ ⟨(Bx.below (Bx.alloc R1.out.drew _) HG.out (by omega)).c1, (GB.out.cell (p := ⟨mb, _, none⟩) hbl).trans E0.out, (GB.out.cell (p := ⟨mb, _, none⟩) hbl).trans E1.out⟩ (fun hHeld => ?_)
        clear hK K
        try simp only [Act.put, List.setIfInBounds_toArray, List.set_cons_zero, List.set_cons_succ]
        refine wpAnyH_take (i := 17) (oi := { dst := some 33, op := Op.fieldAddr 30 (Operand.tmp 3) 1, type := 0, pos := "law.go:15", after := #[{ on := 0, ground := Ground.phase }, { on := 1, ground := Ground.phase }, { on := 2, ground := Ground.phase }, { on := 3, ground := Ground.phase }, { on := 4, ground := Ground.phase }, { on := 5, ground := Ground.phase }, { on := 6, ground := Ground.phase }, { on := 7, ground := Ground.phase }, { on := 8, ground := Ground.phase }, { on := 9, ground := Ground.phase }, { on := 10, ground := Ground.phase }, { on := 11, ground := Ground.phase }, { on := 12, ground := Ground.phase }, { on := 13, ground := Ground.phase }, { on := 14, ground := Ground.phase }, { on := 15, ground := Ground.phase }, { on := 16, ground := Ground.phase }], guard := none }) (v := ?_) rfl (by kernel_rfl) (by kernel_rfl) (by kernel_rfl) (fun _ _ _ h => h) (Or.inl ⟨by kernel_rfl, ?_⟩) hHeld ?_
        rotate_left
        · intro w9 hSw; (try dsimp only at hSw); go_simp; try with_reducible rfl
        simp only [Act.put, List.setIfInBounds_toArray, List.set_cons_zero, List.set_cons_succ]
        refine wpAnyH_ready (rs := [18]) (by kernel_rfl) (by simp) ?_
        refine AllReadyH.cons (o := { dst := none, op := Op.store 28 (Operand.tmp 33) (Operand.tmp 32), type := 0, pos := "law.go:15", after := #[{ on := 17, ground := Ground.data }, { on := 16, ground := Ground.data }, { on := 16, ground := Ground.chain }, { on := 0, ground := Ground.phase }, { on := 1, ground := Ground.phase }, { on := 2, ground := Ground.phase }, { on := 3, ground := Ground.phase }, { on := 4, ground := Ground.phase }, { on := 5, ground := Ground.phase }, { on := 6, ground := Ground.phase }, { on := 7, ground := Ground.phase }, { on := 8, ground := Ground.phase }, { on := 9, ground := Ground.phase }, { on := 10, ground := Ground.phase }, { on := 11, ground := Ground.phase }, { on := 12, ground := Ground.phase }, { on := 13, ground := Ground.phase }, { on := 14, ground := Ground.phase }, { on := 15, ground := Ground.phase }, { on := 16, ground := Ground.phase }], guard := none }) rfl (fun K hK => ?_) AllReadyH.nil
        go_simp
        refine hK.out _ _ ⟨((Bx.below (Bx.alloc R1.out.drew _) HG.out (by omega)).other (by simp <;> omega) _).c1, (World.cell?_setCell_other _ ⟨_, _, none⟩ ⟨mb, _, none⟩ _ (by simp <;> omega)).trans hHeld.2.1, (World.cell?_setCell_other _ ⟨_, _, none⟩ ⟨mb, _, none⟩ _ (by simp <;> omega)).trans hHeld.2.2⟩ (fun hHeld => ?_)
        clear hK K
        try simp only [Act.put, List.setIfInBounds_toArray, List.set_cons_zero, List.set_cons_succ]
        refine wpAnyH_done (by kernel_rfl) ?_ _
        go_wp2
        go_roundw
        case rel =>
          refine ⟨j + 1, A5, c5, by omega, by go_num, (Bx.below (Bx.alloc R1.out.drew _) HG.out (by omega)).other (by simp <;> omega) _, (Bx.below (Bx.alloc R2.out.drew _) HG.out (by omega)).other (by simp <;> omega) _, Z3.out.s1 _, ?_, GB.out.setCell (by simp <;> omega) _, ?_⟩
          · rw [HN.out]
            exact row_set HW.out (by simp <;> omega) _
          · have := HG.out.size
            simp [World.setCell] at this ⊢
            omega
        case measure => simp [intOf]; omega
    · obtain rfl : m = j := by omega
      have etk : b.marks.take m = b.marks := List.take_of_length_le (by have := LM.out; omega)
      rw [etk] at RO
      have SP0 := Lib.hid (Prs.under (Prs.of_own RO.out))
      clear etk RO X1 X2 X3 HB
      have XB := Lib.hid (And.intro (Nat.le_refl wr.heap.size) RB.out)
      go_upto_region 7 with (fail)
      try (generalize hWw : wr = W2 at *)
      try clear hWw
      go_loopw [5] (fun i wr => ∃ (j' : Nat) (Q : Option Addr) (cq : Nat), j' ≤ k ∧ i = .int .i64 j' ∧ Bx wr w.heap.size 25 (.slice A n c) (.slice B m d) (.slice C k f) ∧ Bx wr (w.heap.size + 1) 30 (.slice none 0 0) (.slice none 0 0) (.slice none 0 0) ∧ Bx wr (w.heap.size + 1 + 1) 30 (.slice A n c) (.slice P0 m cp0) (.slice Q j' cq) ∧ wr.ownsRow W2.heap.size 62 2 (.slice Q j' cq) j' (prsOf (b.outs.take j')) ∧ PrsU W2.heap.size wr P0 m cp0 b.marks ∧ Below w.heap.size w wr ∧ W2.heap.size ≤ wr.heap.size) (fun i _ => ((k : Int) - intOf i).toNat)
      case atStart => exact ⟨0, none, 0, by omega, rfl, R1.out, R2.out, R3.out, (OwnP.nil _ _).1, SP0.out, RB.out, Nat.le_refl _⟩
      case round =>
        clear R1 R2 R3 RB a1 a2 z1 zf1 z2 zf2 hw1 hw3 XB SP0
        obtain ⟨j, P, cp, hj, rfl, h1, h2, h3, hO, hP, hb, hs⟩ := hrel
        have SP := Lib.hid hP
        clear hP
        have R1 := Lib.hid h1
        have R2 := Lib.hid h2
        have R3 := Lib.hid h3
        have RO := Lib.hid hO
        have RB := Lib.hid hb
        clear h1 h2 h3 hO hb
        have hw1 : w.heap.size < wr.heap.size := R1.out.lt
        have hw3 : w.heap.size + 1 + 1 < wr.heap.size := R3.out.lt
        have a1 := R1.out.c1
        have a2 := R1.out.c2
        have z1 := R3.out.c1
        have zf1 := R3.out.f1
        have z2 := R3.out.c2
        have zf2 := R3.out.f2
        by_cases hlt : j < k
        · have hjl : j < b.outs.length := by rw [LO.out]; exact hlt
          obtain ⟨mb, mo, rfl, hbl, e0', e1'⟩ := H.out.po.at_ j hlt
          have E0 := Lib.hid e0'
          have E1 := Lib.hid e1'
          clear e0' e1'
          have e0 := (RB.out.cell (p := ⟨mb, _, none⟩) hbl).trans E0.out
          have e1 := (RB.out.cell (p := ⟨mb, _, none⟩) hbl).trans E1.out
          have HN := Lib.hid (take_next b.outs j hjl)
          generalize (b.outs.getD j (0, 0)) = p at *
          obtain ⟨x, y⟩ := p
          have hmr : mb < wr.heap.size := by omega
          go_upto_region 9 with (fail)
          have hHeld' : (fun w' => w'.cell? ⟨w.heap.size, 2, none⟩ = some (.slice (some ⟨mb, mo, none⟩) k f) ∧ w'.cell? ⟨mb, mo + j * 2, none⟩ = some (.int .i64 x) ∧ w'.cell? ⟨mb, mo + j * 2 + 1, none⟩ = some (.int .i64 y)) wr.drew := ⟨a2, e0, e1⟩
          refine wp_region_held_drew (S := (fun w' => w'.cell? ⟨w.heap.size, 2, none⟩ = some (.slice (some ⟨mb, mo, none⟩) k f) ∧ w'.cell? ⟨mb, mo + j * 2, none⟩ = some (.int .i64 x) ∧ w'.cell? ⟨mb, mo + j * 2 + 1, none⟩ = some (.int .i64 y))) (by kernel_rfl) hHeld' (fun hHeld => ?_)
          clear hHeld'
          refine wpAnyH_take (i := 0) (oi := { dst := some 41, op := Op.fieldAddr 30 (Operand.tmp 3) 2, type := 0, pos := "law.go:18", after := #[], guard := none }) (v := ?_) rfl (by kernel_rfl) (by kernel_rfl) (by kernel_rfl) (fun _ _ _ h => h) (Or.inl ⟨by kernel_rfl, ?_⟩) hHeld ?_
          rotate_left
          · intro w9 hSw; (try dsimp only at hSw); go_simp; try with_reducible rfl
          simp only [Act.put, List.setIfInBounds_toArray, List.set_cons_zero, List.set_cons_succ]
          refine wpAnyH_take (i := 2) (oi := { dst := some 43, op := Op.fieldAddr 25 (Operand.tmp 1) 2, type := 0, pos := "law.go:18", after := #[], guard := none }) (v := ?_) rfl (by kernel_rfl) (by kernel_rfl) (by kernel_rfl) (fun _ _ _ h => h) (Or.inl ⟨by kernel_rfl, ?_⟩) hHeld ?_
          rotate_left
          · intro w9 hSw; (try dsimp only at hSw); go_simp; try with_reducible rfl
          simp only [Act.put, List.setIfInBounds_toArray, List.set_cons_zero, List.set_cons_succ]
          refine wpAnyH_take (i := 3) (oi := { dst := some 44, op := Op.load 23 (Operand.tmp 43), type := 23, pos := "law.go:18", after := #[{ on := 2, ground := Ground.data }], guard := none }) (v := ?_) rfl (by kernel_rfl) (by kernel_rfl) (by kernel_rfl) (fun _ _ _ h => h) (Or.inl ⟨by kernel_rfl, ?_⟩) hHeld ?_
          rotate_left
          · intro w9 hSw; (try dsimp only at hSw); go_simp; try with_reducible rfl
          simp only [Act.put, List.setIfInBounds_toArray, List.set_cons_zero, List.set_cons_succ]
          refine wpAnyH_take (i := 4) (oi := { dst := some 45, op := Op.move (Operand.tmp 5), type := 3, pos := "law.go:18", after := #[], guard := none }) (v := ?_) rfl (by kernel_rfl) (by kernel_rfl) (by kernel_rfl) (fun _ _ _ h => h) (Or.inl ⟨by kernel_rfl, ?_⟩) hHeld ?_
          rotate_left
          · intro w9 hSw; (try dsimp only at hSw); go_simp; try with_reducible rfl
          simp only [Act.put, List.setIfInBounds_toArray, List.set_cons_zero, List.set_cons_succ]
          refine wpAnyH_take (i := 5) (oi := { dst := some 46, op := Op.indexAddr 23 (Operand.tmp 44) (Operand.tmp 45), type := 0, pos := "law.go:18", after := #[{ on := 3, ground := Ground.data }, { on := 4, ground := Ground.data }], guard := none }) (v := ?_) rfl (by kernel_rfl) (by kernel_rfl) (by kernel_rfl) (fun _ _ _ h => h) (Or.inl ⟨by kernel_rfl, ?_⟩) hHeld ?_
          rotate_left
          · intro w9 hSw; (try dsimp only at hSw); go_simp; try with_reducible rfl
          simp only [Act.put, List.setIfInBounds_toArray, List.set_cons_zero, List.set_cons_succ]
          refine wpAnyH_take (i := 6) (oi := { dst := some 47, op := Op.fieldAddr 57 (Operand.tmp 46) 0, type := 0, pos := "law.go:18", after := #[{ on := 5, ground := Ground.data }], guard := none }) (v := ?_) rfl (by kernel_rfl) (by kernel_rfl) (by kernel_rfl) (fun _ _ _ h => h) (Or.inl ⟨by kernel_rfl, ?_⟩) hHeld ?_
          rotate_left
          · intro w9 hSw; (try dsimp only at hSw); go_simp; try with_reducible rfl
          simp only [Act.put, List.setIfInBounds_toArray, List.set_cons_zero, List.set_cons_succ]
          refine wpAnyH_take (i := 7) (oi := { dst := some 48, op := Op.load 3 (Operand.tmp 47), type := 3, pos := "law.go:18", after := #[{ on := 6, ground := Ground.data }], guard := none }) (v := ?_) rfl (by kernel_rfl) (by kernel_rfl) (by kernel_rfl) (fun _ _ _ h => h) (Or.inl ⟨by kernel_rfl, ?_⟩) hHeld ?_
          rotate_left
          · intro w9 hSw; (try dsimp only at hSw); go_simp; try with_reducible rfl
          simp only [Act.put, List.setIfInBounds_toArray, List.set_cons_zero, List.set_cons_succ]
          refine wpAnyH_take (i := 8) (oi := { dst := some 49, op := Op.fieldAddr 25 (Operand.tmp 1) 2, type := 0, pos := "law.go:18", after := #[], guard := none }) (v := ?_) rfl (by kernel_rfl) (by kernel_rfl) (by kernel_rfl) (fun _ _ _ h => h) (Or.inl ⟨by kernel_rfl, ?_⟩) hHeld ?_
          rotate_left
          · intro w9 hSw; (try dsimp only at hSw); go_simp; try with_reducible rfl
          simp only [Act.put, List.setIfInBounds_toArray, List.set_cons_zero, List.set_cons_succ]
          refine wpAnyH_take (i := 9) (oi := { dst := some 50, op := Op.load 23 (Operand.tmp 49), type := 23, pos := "law.go:18", after := #[{ on := 8, ground := Ground.data }], guard := none }) (v := ?_) rfl (by kernel_rfl) (by kernel_rfl) (by kernel_rfl) (fun _ _ _ h => h) (Or.inl ⟨by kernel_rfl, ?_⟩) hHeld ?_
          rotate_left
          · intro w9 hSw; (try dsimp only at hSw); go_simp; try with_reducible rfl
          simp only [Act.put, List.setIfInBounds_toArray, List.set_cons_zero, List.set_cons_succ]
          refine wpAnyH_take (i := 10) (oi := { dst := some 51, op := Op.move (Operand.tmp 5), type := 3, pos := "law.go:18", after := #[], guard := none }) (v := ?_) rfl (by kernel_rfl) (by kernel_rfl) (by kernel_rfl) (fun _ _ _ h => h) (Or.inl ⟨by kernel_rfl, ?_⟩) hHeld ?_
          rotate_left
          · intro w9 hSw; (try dsimp only at hSw); go_simp; try with_reducible rfl
          simp only [Act.put, List.setIfInBounds_toArray, List.set_cons_zero, List.set_cons_succ]
          refine wpAnyH_take (i := 11) (oi := { dst := some 52, op := Op.indexAddr 23 (Operand.tmp 50) (Operand.tmp 51), type := 0, pos := "law.go:18", after := #[{ on := 9, ground := Ground.data }, { on := 10, ground := Ground.data }], guard := none }) (v := ?_) rfl (by kernel_rfl) (by kernel_rfl) (by kernel_rfl) (fun _ _ _ h => h) (Or.inl ⟨by kernel_rfl, ?_⟩) hHeld ?_
          rotate_left
          · intro w9 hSw; (try dsimp only at hSw); go_simp; try with_reducible rfl
          simp only [Act.put, List.setIfInBounds_toArray, List.set_cons_zero, List.set_cons_succ]
          refine wpAnyH_take (i := 12) (oi := { dst := some 53, op := Op.fieldAddr 57 (Operand.tmp 52) 1, type := 0, pos := "law.go:18", after := #[{ on := 11, ground := Ground.data }], guard := none }) (v := ?_) rfl (by kernel_rfl) (by kernel_rfl) (by kernel_rfl) (fun _ _ _ h => h) (Or.inl ⟨by kernel_rfl, ?_⟩) hHeld ?_
          rotate_left
          · intro w9 hSw; (try dsimp only at hSw); go_simp; try with_reducible rfl
          simp only [Act.put, List.setIfInBounds_toArray, List.set_cons_zero, List.set_cons_succ]
          refine wpAnyH_take (i := 13) (oi := { dst := some 54, op := Op.load 3 (Operand.tmp 53), type := 3, pos := "law.go:18", after := #[{ on := 12, ground := Ground.data }], guard := none }) (v := ?_) rfl (by kernel_rfl) (by kernel_rfl) (by kernel_rfl) (fun _ _ _ h => h) (Or.inl ⟨by kernel_rfl, ?_⟩) hHeld ?_
          rotate_left
          · intro w9 hSw; (try dsimp only at hSw); go_simp; try with_reducible rfl
          simp only [Act.put, List.setIfInBounds_toArray, List.set_cons_zero, List.set_cons_succ]
          refine wpAnyH_take (i := 14) (oi := { dst := some 55, op := Op.build 62 #[(0, Operand.tmp 48), (1, Operand.tmp 54)], type := 62, pos := "law.go:18", after := #[{ on := 7, ground := Ground.data }, { on := 13, ground := Ground.data }], guard := none }) (v := ?_) rfl (by kernel_rfl) (by kernel_rfl) (by kernel_rfl) (fun _ _ _ h => h) (Or.inl ⟨by kernel_rfl, ?_⟩) hHeld ?_
          rotate_left
          · intro w9 hSw; (try dsimp only at hSw); go_simp; try with_reducible rfl
          simp only [Act.put, List.setIfInBounds_toArray, List.set_cons_zero, List.set_cons_succ]
          have hS2 : (fun w' => w'.cell? ⟨w.heap.size, 2, none⟩ = some (.slice (some ⟨mb, mo, none⟩) k f) ∧ w'.cell? ⟨mb, mo + j * 2, none⟩ = some (.int .i64 x) ∧ w'.cell? ⟨mb, mo + j * 2 + 1, none⟩ = some (.int .i64 y)) (wr.drew.alloc (.cells #[.int .i64 x, .int .i64 y] 62)) := ⟨(R1.out.drew.alloc _).c2, (Below.cell (below_one wr.drew (.cells #[.int .i64 x, .int .i64 y] 62)) (p := ⟨mb, _, none⟩) hmr).trans e0, (Below.cell (below_one wr.drew (.cells #[.int .i64 x, .int .i64 y] 62)) (p := ⟨mb, _, none⟩) hmr).trans e1⟩
          refine wpAnyH_ready (rs := [1, 15]) (by kernel_rfl) (by simp) ?_
          refine AllReadyH.cons (o := { dst := some 42, op := Op.load 28 (Operand.tmp 41), type := 28, pos := "law.go:18", after := #[{ on := 0, ground := Ground.data }], guard := none }) rfl (fun K hK => ?_) (AllReadyH.cons (o := { dst := some 56, op := Op.buildSlice 28 1 #[(0, Operand.tmp 55)], type := 28, pos := "law.go:18", after := #[{ on := 14, ground := Ground.data }], guard := none }) rfl (fun K hK => ?_) AllReadyH.nil)
          · go_simp
            refine hK.out _ _ hHeld (fun hHeld => ?_)
            clear hK K
            try simp only [Act.put, List.setIfInBounds_toArray, List.set_cons_zero, List.set_cons_succ]
            refine wpAnyH_ready (rs := [15]) (by kernel_rfl) (by simp) ?_
            refine AllReadyH.cons (o := { dst := some 56, op := Op.buildSlice 28 1 #[(0, Operand.tmp 55)], type := 28, pos := "law.go:18", after := #[{ on := 14, ground := Ground.data }], guard := none }) rfl (fun K hK => ?_) AllReadyH.nil
            go_simp
            refine hK.out _ _ hS2 (fun hHeld => ?_)
            clear hK K
            try simp only [Act.put, List.setIfInBounds_toArray, List.set_cons_zero, List.set_cons_succ]
            refine wpAnyH_ready (rs := [16]) (by kernel_rfl) (by simp) ?_
            refine AllReadyH.cons (o := { dst := some 57, op := Op.call { callee := Callee.builtin Builtin.append, args := #[Operand.tmp 42, Operand.tmp 56], argTypes := #[28, 28] }, type := 28, pos := "law.go:18", after := #[{ on := 1, ground := Ground.data }, { on := 15, ground := Ground.data }], guard := none }) rfl (fun K hK => ?_) AllReadyH.nil
            refine step_appR ptF (B0 := W2.heap.size) rfl (.tmp 42) (.tmp 56) rfl rfl rfl (row_alloc RO.out _) (by simp <;> omega) (Prs.new1 _ _ x y) (by omega) ?_
            intro A5 c5 w5 hw5 hb5
            have HW := Lib.hid hw5; have HG := Lib.hid hb5; have Z3 := Lib.hid (Bx.below (Bx.alloc R3.out.drew _) hb5 (by omega)); have GB := Lib.hid (Below.trans (Below.alloc RB.out.drew RB.out.size _) (hb5.mono (by omega))); have TP := Lib.hid (PrsU.below (B0 := W2.heap.size) ⟨(SP.out.1.drew.alloc _), SP.out.2⟩ hb5); have v1 := Z3.out.c2; have vf1 := Z3.out.f2; have hv3 := Z3.out.lt; clear hw5 hb5
            refine hK.out _ _ ⟨(Bx.below (Bx.alloc R1.out.drew _) HG.out (by omega)).c2, (GB.out.cell (p := ⟨mb, _, none⟩) hbl).trans E0.out, (GB.out.cell (p := ⟨mb, _, none⟩) hbl).trans E1.out⟩ (fun hHeld => ?_)
            clear hK K
            try simp only [Act.put, List.setIfInBounds_toArray, List.set_cons_zero, List.set_cons_succ]
            refine wpAnyH_take (i := 17) (oi := { dst := some 58, op := Op.fieldAddr 30 (Operand.tmp 3) 2, type := 0, pos := "law.go:18", after := #[{ on := 0, ground := Ground.phase }, { on := 1, ground := Ground.phase }, { on := 2, ground := Ground.phase }, { on := 3, ground := Ground.phase }, { on := 4, ground := Ground.phase }, { on := 5, ground := Ground.phase }, { on := 6, ground := Ground.phase }, { on := 7, ground := Ground.phase }, { on := 8, ground := Ground.phase }, { on := 9, ground := Ground.phase }, { on := 10, ground := Ground.phase }, { on := 11, ground := Ground.phase }, { on := 12, ground := Ground.phase }, { on := 13, ground := Ground.phase }, { on := 14, ground := Ground.phase }, { on := 15, ground := Ground.phase }, { on := 16, ground := Ground.phase }], guard := none }) (v := ?_) rfl (by kernel_rfl) (by kernel_rfl) (by kernel_rfl) (fun _ _ _ h => h) (Or.inl ⟨by kernel_rfl, ?_⟩) hHeld ?_
            rotate_left
            · intro w9 hSw; (try dsimp only at hSw); go_simp; try with_reducible rfl
            simp only [Act.put, List.setIfInBounds_toArray, List.set_cons_zero, List.set_cons_succ]
            refine wpAnyH_ready (rs := [18]) (by kernel_rfl) (by simp) ?_
            refine AllReadyH.cons (o := { dst := none, op := Op.store 28 (Operand.tmp 58) (Operand.tmp 57), type := 0, pos := "law.go:18", after := #[{ on := 17, ground := Ground.data }, { on := 16, ground := Ground.data }, { on := 16, ground := Ground.chain }, { on := 0, ground := Ground.phase }, { on := 1, ground := Ground.phase }, { on := 2, ground := Ground.phase }, { on := 3, ground := Ground.phase }, { on := 4, ground := Ground.phase }, { on := 5, ground := Ground.phase }, { on := 6, ground := Ground.phase }, { on := 7, ground := Ground.phase }, { on := 8, ground := Ground.phase }, { on := 9, ground := Ground.phase }, { on := 10, ground := Ground.phase }, { on := 11, ground := Ground.phase }, { on := 12, ground := Ground.phase }, { on := 13, ground := Ground.phase }, { on := 14, ground := Ground.phase }, { on := 15, ground := Ground.phase }, { on := 16, ground := Ground.phase }], guard := none }) rfl (fun K hK => ?_) AllReadyH.nil
            go_simp
            refine hK.out _ _ ⟨((Bx.below (Bx.alloc R1.out.drew _) HG.out (by omega)).other (by simp <;> omega) _).c2, (World.cell?_setCell_other _ ⟨_, _, none⟩ ⟨mb, _, none⟩ _ (by simp <;> omega)).trans hHeld.2.1, (World.cell?_setCell_other _ ⟨_, _, none⟩ ⟨mb, _, none⟩ _ (by simp <;> omega)).trans hHeld.2.2⟩ (fun hHeld => ?_)
            clear hK K
            try simp only [Act.put, List.setIfInBounds_toArray, List.set_cons_zero, List.set_cons_succ]
            refine wpAnyH_done (by kernel_rfl) ?_ _
            go_wp2
            go_roundw
            case rel =>
              refine ⟨j + 1, A5, c5, by omega, by go_num, (Bx.below (Bx.alloc R1.out.drew _) HG.out (by omega)).other (by simp <;> omega) _, (Bx.below (Bx.alloc R2.out.drew _) HG.out (by omega)).other (by simp <;> omega) _, Z3.out.s2 _, ?_, TP.out.set_ Z3.out _ _, GB.out.setCell (by simp <;> omega) _, ?_⟩
              · rw [HN.out]
                exact row_set HW.out (by simp <;> omega) _
              · have := HG.out.size
                simp [World.setCell] at this ⊢
                omega
            case measure => simp [intOf]; omega
          · go_simp
            refine hK.out _ _ hS2 (fun hHeld => ?_)
            clear hK K
            try simp only [Act.put, List.setIfInBounds_toArray, List.set_cons_zero, List.set_cons_succ]
            refine wpAnyH_ready (rs := [1]) (by kernel_rfl) (by simp) ?_
            refine AllReadyH.cons (o := { dst := some 42, op := Op.load 28 (Operand.tmp 41), type := 28, pos := "law.go:18", after := #[{ on := 0, ground := Ground.data }], guard := none }) rfl (fun K hK => ?_) AllReadyH.nil
            go_simp
            refine hK.out _ _ hHeld (fun hHeld => ?_)
            clear hK K
            try simp only [Act.put, List.setIfInBounds_toArray, List.set_cons_zero, List.set_cons_succ]
            refine wpAnyH_ready (rs := [16]) (by kernel_rfl) (by simp) ?_
            refine AllReadyH.cons (o := { dst := some 57, op := Op.call { callee := Callee.builtin Builtin.append, args := #[Operand.tmp 42, Operand.tmp 56], argTypes := #[28, 28] }, type := 28, pos := "law.go:18", after := #[{ on := 1, ground := Ground.data }, { on := 15, ground := Ground.data }], guard := none }) rfl (fun K hK => ?_) AllReadyH.nil
            refine step_appR ptF (B0 := W2.heap.size) rfl (.tmp 42) (.tmp 56) rfl rfl rfl (row_alloc RO.out _) (by simp <;> omega) (Prs.new1 _ _ x y) (by omega) ?_
            intro A5 c5 w5 hw5 hb5
            have HW := Lib.hid hw5; have HG := Lib.hid hb5; have Z3 := Lib.hid (Bx.below (Bx.alloc R3.out.drew _) hb5 (by omega)); have GB := Lib.hid (Below.trans (Below.alloc RB.out.drew RB.out.size _) (hb5.mono (by omega))); have TP := Lib.hid (PrsU.below (B0 := W2.heap.size) ⟨(SP.out.1.drew.alloc _), SP.out.2⟩ hb5); have v1 := Z3.out.c2; have vf1 := Z3.out.f2; have hv3 := Z3.out.lt; clear hw5 hb5
            refine hK.out _ _ ⟨(Bx.below (Bx.alloc R1.out.drew _) HG.out (by omega)).c2, (GB.out.cell (p := ⟨mb, _, none⟩) hbl).trans E0.out, (GB.out.cell (p := ⟨mb, _, none⟩) hbl).trans E1.out⟩ (fun hHeld => ?_)
            clear hK K
            try simp only [Act.put, List.setIfInBounds_toArray, List.set_cons_zero, List.set_cons_succ]
            refine wpAnyH_take (i := 17) (oi := { dst := some 58, op := Op.fieldAddr 30 (Operand.tmp 3) 2, type := 0, pos := "law.go:18", after := #[{ on := 0, ground := Ground.phase }, { on := 1, ground := Ground.phase }, { on := 2, ground := Ground.phase }, { on := 3, ground := Ground.phase }, { on := 4, ground := Ground.phase }, { on := 5, ground := Ground.phase }, { on := 6, ground := Ground.phase }, { on := 7, ground := Ground.phase }, { on := 8, ground := Ground.phase }, { on := 9, ground := Ground.phase }, { on := 10, ground := Ground.phase }, { on := 11, ground := Ground.phase }, { on := 12, ground := Ground.phase }, { on := 13, ground := Ground.phase }, { on := 14, ground := Ground.phase }, { on := 15, ground := Ground.phase }, { on := 16, ground := Ground.phase }], guard := none }) (v := ?_) rfl (by kernel_rfl) (by kernel_rfl) (by kernel_rfl) (fun _ _ _ h => h) (Or.inl ⟨by kernel_rfl, ?_⟩) hHeld ?_
            rotate_left
            · intro w9 hSw; (try dsimp only at hSw); go_simp; try with_reducible rfl
            simp only [Act.put, List.setIfInBounds_toArray, List.set_cons_zero, List.set_cons_succ]
            refine wpAnyH_ready (rs := [18]) (by kernel_rfl) (by simp) ?_
            refine AllReadyH.cons (o := { dst := none, op := Op.store 28 (Operand.tmp 58) (Operand.tmp 57), type := 0, pos := "law.go:18", after := #[{ on := 17, ground := Ground.data }, { on := 16, ground := Ground.data }, { on := 16, ground := Ground.chain }, { on := 0, ground := Ground.phase }, { on := 1, ground := Ground.phase }, { on := 2, ground := Ground.phase }, { on := 3, ground := Ground.phase }, { on := 4, ground := Ground.phase }, { on := 5, ground := Ground.phase }, { on := 6, ground := Ground.phase }, { on := 7, ground := Ground.phase }, { on := 8, ground := Ground.phase }, { on := 9, ground := Ground.phase }, { on := 10, ground := Ground.phase }, { on := 11, ground := Ground.phase }, { on := 12, ground := Ground.phase }, { on := 13, ground := Ground.phase }, { on := 14, ground := Ground.phase }, { on := 15, ground := Ground.phase }, { on := 16, ground := Ground.phase }], guard := none }) rfl (fun K hK => ?_) AllReadyH.nil
            go_simp
            refine hK.out _ _ ⟨((Bx.below (Bx.alloc R1.out.drew _) HG.out (by omega)).other (by simp <;> omega) _).c2, (World.cell?_setCell_other _ ⟨_, _, none⟩ ⟨mb, _, none⟩ _ (by simp <;> omega)).trans hHeld.2.1, (World.cell?_setCell_other _ ⟨_, _, none⟩ ⟨mb, _, none⟩ _ (by simp <;> omega)).trans hHeld.2.2⟩ (fun hHeld => ?_)
            clear hK K
            try simp only [Act.put, List.setIfInBounds_toArray, List.set_cons_zero, List.set_cons_succ]
            refine wpAnyH_done (by kernel_rfl) ?_ _
            go_wp2
            go_roundw
            case rel =>
              refine ⟨j + 1, A5, c5, by omega, by go_num, (Bx.below (Bx.alloc R1.out.drew _) HG.out (by omega)).other (by simp <;> omega) _, (Bx.below (Bx.alloc R2.out.drew _) HG.out (by omega)).other (by simp <;> omega) _, Z3.out.s2 _, ?_, TP.out.set_ Z3.out _ _, GB.out.setCell (by simp <;> omega) _, ?_⟩
              · rw [HN.out]
                exact row_set HW.out (by simp <;> omega) _
              · have := HG.out.size
                simp [World.setCell] at this ⊢
                omega
            case measure => simp [intOf]; omega
        · obtain rfl : k = j := by omega
          have etk : b.outs.take k = b.outs := List.take_of_length_le (by have := LO.out; omega)
          rw [etk] at RO
          have z0 := R3.out.c0
          have y0 := R2.out.c0
          have y1 := R2.out.c1
          have y2 := R2.out.c2
          have yf0 := R2.out.f0
          have yf1 := R2.out.f1
          have yf2 := R2.out.f2
          go_wp2
          refine bodyPost_ret (v := .agg #[.slice A n c, .slice P0 m cp0, .slice P k cp]) (by simp [results, Try.results12, go_sem, y0, y1, y2] <;> rfl) rfl (bd_fin (b' := b) (Bl.set3 ⟨H.out.pc.below RB.out, SP.out.1, Prs.of_own RO.out⟩ R2.out) (below_set3 RB.out (by simp) _ _ _) rfl)

set_option maxHeartbeats 2000000 in
theorem theirs_any (A B C : Option Addr) (n c m d k f : Nat) (b : Bd) (w : World) (hF : Few 50000 b) (h : Bl w A n c B m d C k f b) :
    Calls Try.prog 19 #[.agg #[.slice A n c, .slice B m d, .slice C k f]] w (BdPost w b) := by
  obtain ⟨hn, hm, hk⟩ := h.ns hF
  have LC := Lib.hid h.1.len
  have LM := Lib.hid h.2.1.len
  have LO := Lib.hid h.2.2.len
  have H := Lib.hid h
  clear h hF
  have X1 := Lib.hid (((Bx.new w 30 (.slice A n c) (.slice B m d) (.slice C k f)).alloc (.cells #[.slice none 0 0, .slice none 0 0, .slice none 0 0] 25)).alloc (.cells #[.slice A n c, .slice none 0 0, .slice none 0 0] 25))
  have X2 := Lib.hid ((Bx.new2 w (.cells #[.slice A n c, .slice B m d, .slice C k f] 30) 25 (.slice none 0 0) (.slice none 0 0) (.slice none 0 0)).alloc (.cells #[.slice A n c, .slice none 0 0, .slice none 0 0] 25))
  have X3 := Lib.hid (Bx.new3 w (.cells #[.slice A n c, .slice B m d, .slice C k f] 30) (.cells #[.slice none 0 0, .slice none 0 0, .slice none 0 0] 25) 25 (.slice A n c) (.slice none 0 0) (.slice none 0 0))
  have HB := Lib.hid ((below_two w (.cells #[.slice A n c, .slice B m d, .slice C k f] 30) (.cells #[.slice none 0 0, .slice none 0 0, .slice none 0 0] 25)).alloc (by simp <;> omega) (.cells #[.slice A n c, .slice none 0 0, .slice none 0 0] 25))
  go_enter Try.func19, Try.ntmps19
  go_upto_region 2 with (fail)
  generalize ((w.alloc (.cells #[.slice A n c, .slice B m d, .slice C k f] 30)).alloc (.cells #[.slice none 0 0, .slice none 0 0, .slice none 0 0] 25)).alloc (.cells #[.slice A n c, .slice none 0 0, .slice none 0 0] 25) = W at *
  have hW1 : w.heap.size < W.heap.size := X1.out.lt
  have hW2 : w.heap.size + 1 < W.heap.size := X2.out.lt
  have hW3 : w.heap.size + 1 + 1 < W.heap.size := X3.out.lt
  go_wp2
  go_loopw [4] (fun i wr => ∃ (j : Nat) (P : Option Addr) (cp : Nat), j ≤ m ∧ i = .int .i64 j ∧ Bx wr w.heap.size 30 (.slice A n c) (.slice B m d) (.slice C k f) ∧ Bx wr (w.heap.size + 1) 25 (.slice none 0 0) (.slice none 0 0) (.slice none 0 0) ∧ Bx wr (w.heap.size + 1 + 1) 25 (.slice A n c) (.slice P j cp) (.slice none 0 0) ∧ wr.ownsRow W.heap.size 57 2 (.slice P j cp) j (prsOf (b.marks.take j)) ∧ Below w.heap.size w wr ∧ W.heap.size ≤ wr.heap.size) (fun i _ => ((m : Int) - intOf i).toNat)
  case atStart => exact ⟨0, none, 0, by omega, rfl, X1.out, X2.out, X3.out, (OwnP.nil _ _).1, HB.out, Nat.le_refl _⟩
  case round =>
    obtain ⟨j, P0, cp0, hj, rfl, h1, h2, h3, hO, hb, hs⟩ := hrel
    have R1 := Lib.hid h1
    have R2 := Lib.hid h2
    have R3 := Lib.hid h3
    have RO := Lib.hid hO
    have RB := Lib.hid hb
    clear h1 h2 h3 hO hb
    have hw1 : w.heap.size < wr.heap.size := R1.out.lt
    have hw3 : w.heap.size + 1 + 1 < wr.heap.size := R3.out.lt
    have a1 := R1.out.c1
    have a2 := R1.out.c2
    have z1 := R3.out.c1
    have zf1 := R3.out.f1
    have z2 := R3.out.c2
    have zf2 := R3.out.f2
    by_cases hlt : j < m
    · have hjl : j < b.marks.length := by rw [LM.out]; exact hlt
      obtain ⟨mb, mo, rfl, hbl, e0', e1'⟩ := H.out.pm.at_ j hlt
      have E0 := Lib.hid e0'
      have E1 := Lib.hid e1'
      clear e0' e1'
      have e0 := (RB.out.cell (p := ⟨mb, _, none⟩) hbl).trans E0.out
      have e1 := (RB.out.cell (p := ⟨mb, _, none⟩) hbl).trans E1.out
      have HN := Lib.hid (take_next b.marks j hjl)
      generalize (b.marks.getD j (0, 0)) = p at *
      obtain ⟨x, y⟩ := p
      have hmr : mb < wr.heap.size := by omega
      go_upto_region 5 with (fail)
      have hHeld' : (fun w' => w'.cell? ⟨w.heap.size, 1, none⟩ = some (.slice (some ⟨mb, mo, none⟩) m d) ∧ w'.cell? ⟨mb, mo + j * 2, none⟩ = some (.int .i64 x) ∧ w'.cell? ⟨mb, mo + j * 2 + 1, none⟩ = some (.int .i64 y)) wr.drew := ⟨a1, e0, e1⟩
      refine wp_region_held_drew (S := (fun w' => w'.cell? ⟨w.heap.size, 1, none⟩ = some (.slice (some ⟨mb, mo, none⟩) m d) ∧ w'.cell? ⟨mb, mo + j * 2, none⟩ = some (.int .i64 x) ∧ w'.cell? ⟨mb, mo + j * 2 + 1, none⟩ = some (.int .i64 y))) (by kernel_rfl) hHeld' (fun hHeld => ?_)
      clear hHeld'
      refine wpAnyH_take (i := 0) (oi := { dst := some 16, op := Op.fieldAddr 25 (Operand.tmp 3) 1, type := 0, pos := "law.go:26", after := #[], guard := none }) (v := ?_) rfl (by kernel_rfl) (by kernel_rfl) (by kernel_rfl) (fun _ _ _ h => h) (Or.inl ⟨by kernel_rfl, ?_⟩) hHeld ?_
      rotate_left
      · intro w9 hSw; (try dsimp only at hSw); go_simp; try with_reducible rfl
      simp only [Act.put, List.setIfInBounds_toArray, List.set_cons_zero, List.set_cons_succ]
      refine wpAnyH_take (i := 2) (oi := { dst := some 18, op := Op.fieldAddr 30 (Operand.tmp 1) 1, type := 0, pos := "law.go:26", after := #[], guard := none }) (v := ?_) rfl (by kernel_rfl) (by kernel_rfl) (by kernel_rfl) (fun _ _ _ h => h) (Or.inl ⟨by kernel_rfl, ?_⟩) hHeld ?_
      rotate_left
      · intro w9 hSw; (try dsimp only at hSw); go_simp; try with_reducible rfl
      simp only [Act.put, List.setIfInBounds_toArray, List.set_cons_zero, List.set_cons_succ]
      refine wpAnyH_take (i := 3) (oi := { dst := some 19, op := Op.load 28 (Operand.tmp 18), type := 28, pos := "law.go:26", after := #[{ on := 2, ground := Ground.data }], guard := none }) (v := ?_) rfl (by kernel_rfl) (by kernel_rfl) (by kernel_rfl) (fun _ _ _ h => h) (Or.inl ⟨by kernel_rfl, ?_⟩) hHeld ?_
      rotate_left
      · intro w9 hSw; (try dsimp only at hSw); go_simp; try with_reducible rfl
      simp only [Act.put, List.setIfInBounds_toArray, List.set_cons_zero, List.set_cons_succ]
      refine wpAnyH_take (i := 4) (oi := { dst := some 20, op := Op.move (Operand.tmp 4), type := 3, pos := "law.go:26", after := #[], guard := none }) (v := ?_) rfl (by kernel_rfl) (by kernel_rfl) (by kernel_rfl) (fun _ _ _ h => h) (Or.inl ⟨by kernel_rfl, ?_⟩) hHeld ?_
      rotate_left
      · intro w9 hSw; (try dsimp only at hSw); go_simp; try with_reducible rfl
      simp only [Act.put, List.setIfInBounds_toArray, List.set_cons_zero, List.set_cons_succ]
      refine wpAnyH_take (i := 5) (oi := { dst := some 21, op := Op.indexAddr 28 (Operand.tmp 19) (Operand.tmp 20), type := 0, pos := "law.go:26", after := #[{ on := 3, ground := Ground.data }, { on := 4, ground := Ground.data }], guard := none }) (v := ?_) rfl (by kernel_rfl) (by kernel_rfl) (by kernel_rfl) (fun _ _ _ h => h) (Or.inl ⟨by kernel_rfl, ?_⟩) hHeld ?_
      rotate_left
      · intro w9 hSw; (try dsimp only at hSw); go_simp; try with_reducible rfl
      simp only [Act.put, List.setIfInBounds_toArray, List.set_cons_zero, List.set_cons_succ]
      refine wpAnyH_take (i := 6) (oi := { dst := some 22, op := Op.fieldAddr 62 (Operand.tmp 21) 0, type := 0, pos := "law.go:26", after := #[{ on := 5, ground := Ground.data }], guard := none }) (v := ?_) rfl (by kernel_rfl) (by kernel_rfl) (by kernel_rfl) (fun _ _ _ h => h) (Or.inl ⟨by kernel_rfl, ?_⟩) hHeld ?_
      rotate_left
      · intro w9 hSw; (try dsimp only at hSw); go_simp; try with_reducible rfl
      simp only [Act.put, List.setIfInBounds_toArray, List.set_cons_zero, List.set_cons_succ]
      refine wpAnyH_take (i := 7) (oi := { dst := some 23, op := Op.load 3 (Operand.tmp 22), type := 3, pos := "law.go:26", after := #[{ on := 6, ground := Ground.data }], guard := none }) (v := ?_) rfl (by kernel_rfl) (by kernel_rfl) (by kernel_rfl) (fun _ _ _ h => h) (Or.inl ⟨by kernel_rfl, ?_⟩) hHeld ?_
      rotate_left
      · intro w9 hSw; (try dsimp only at hSw); go_simp; try with_reducible rfl
      simp only [Act.put, List.setIfInBounds_toArray, List.set_cons_zero, List.set_cons_succ]
      refine wpAnyH_take (i := 8) (oi := { dst := some 24, op := Op.fieldAddr 30 (Operand.tmp 1) 1, type := 0, pos := "law.go:26", after := #[], guard := none }) (v := ?_) rfl (by kernel_rfl) (by kernel_rfl) (by kernel_rfl) (fun _ _ _ h => h) (Or.inl ⟨by kernel_rfl, ?_⟩) hHeld ?_
      rotate_left
      · intro w9 hSw; (try dsimp only at hSw); go_simp; try with_reducible rfl
      simp only [Act.put, List.setIfInBounds_toArray, List.set_cons_zero, List.set_cons_succ]
      refine wpAnyH_take (i := 9) (oi := { dst := some 25, op := Op.load 28 (Operand.tmp 24), type := 28, pos := "law.go:26", after := #[{ on := 8, ground := Ground.data }], guard := none }) (v := ?_) rfl (by kernel_rfl) (by kernel_rfl) (by kernel_rfl) (fun _ _ _ h => h) (Or.inl ⟨by kernel_rfl, ?_⟩) hHeld ?_
      rotate_left
      · intro w9 hSw; (try dsimp only at hSw); go_simp; try with_reducible rfl
      simp only [Act.put, List.setIfInBounds_toArray, List.set_cons_zero, List.set_cons_succ]
      refine wpAnyH_take (i := 10) (oi := { dst := some 26, op := Op.move (Operand.tmp 4), type := 3, pos := "law.go:26", after := #[], guard := none }) (v := ?_) rfl (by kernel_rfl) (by kernel_rfl) (by kernel_rfl) (fun _ _ _ h => h) (Or.inl ⟨by kernel_rfl, ?_⟩) hHeld ?_
      rotate_left
      · intro w9 hSw; (try dsimp only at hSw); go_simp; try with_reducible rfl
      simp only [Act.put, List.setIfInBounds_toArray, List.set_cons_zero, List.set_cons_succ]
      refine wpAnyH_take (i := 11) (oi := { dst := some 27, op := Op.indexAddr 28 (Operand.tmp 25) (Operand.tmp 26), type := 0, pos := "law.go:26", after := #[{ on := 9, ground := Ground.data }, { on := 10, ground := Ground.data }], guard := none }) (v := ?_) rfl (by kernel_rfl) (by kernel_rfl) (by kernel_rfl) (fun _ _ _ h => h) (Or.inl ⟨by kernel_rfl, ?_⟩) hHeld ?_
      rotate_left
      · intro w9 hSw; (try dsimp only at hSw); go_simp; try with_reducible rfl
      simp only [Act.put, List.setIfInBounds_toArray, List.set_cons_zero, List.set_cons_succ]
      refine wpAnyH_take (i := 12) (oi := { dst := some 28, op := Op.fieldAddr 62 (Operand.tmp 27) 1, type := 0, pos := "law.go:26", after := #[{ on := 11, ground := Ground.data }], guard := none }) (v := ?_) rfl (by kernel_rfl) (by kernel_rfl) (by kernel_rfl) (fun _ _ _ h => h) (Or.inl ⟨by kernel_rfl, ?_⟩) hHeld ?_
      rotate_left
      · intro w9 hSw; (try dsimp only at hSw); go_simp; try with_reducible rfl
      simp only [Act.put, List.setIfInBounds_toArray, List.set_cons_zero, List.set_cons_succ]
      refine wpAnyH_take (i := 13) (oi := { dst := some 29, op := Op.load 3 (Operand.tmp 28), type := 3, pos := "law.go:26", after := #[{ on := 12, ground := Ground.data }], guard := none }) (v := ?_) rfl (by kernel_rfl) (by kernel_rfl) (by kernel_rfl) (fun _ _ _ h => h) (Or.inl ⟨by kernel_rfl, ?_⟩) hHeld ?_
      rotate_left
      · intro w9 hSw; (try dsimp only at hSw); go_simp; try with_reducible rfl
      simp only [Act.put, List.setIfInBounds_toArray, List.set_cons_zero, List.set_cons_succ]
      refine wpAnyH_take (i := 14) (oi := { dst := some 30, op := Op.build 57 #[(0, Operand.tmp 23), (1, Operand.tmp 29)], type := 57, pos := "law.go:26", after := #[{ on := 7, ground := Ground.data }, { on := 13, ground := Ground.data }], guard := none }) (v := ?_) rfl (by kernel_rfl) (by kernel_rfl) (by kernel_rfl) (fun _ _ _ h => h) (Or.inl ⟨by kernel_rfl, ?_⟩) hHeld ?_
      rotate_left
      · intro w9 hSw; (try dsimp only at hSw); go_simp; try with_reducible rfl
      simp only [Act.put, List.setIfInBounds_toArray, List.set_cons_zero, List.set_cons_succ]
      have hS2 : (fun w' => w'.cell? ⟨w.heap.size, 1, none⟩ = some (.slice (some ⟨mb, mo, none⟩) m d) ∧ w'.cell? ⟨mb, mo + j * 2, none⟩ = some (.int .i64 x) ∧ w'.cell? ⟨mb, mo + j * 2 + 1, none⟩ = some (.int .i64 y)) (wr.drew.alloc (.cells #[.int .i64 x, .int .i64 y] 57)) := ⟨(R1.out.drew.alloc _).c1, (Below.cell (below_one wr.drew (.cells #[.int .i64 x, .int .i64 y] 57)) (p := ⟨mb, _, none⟩) hmr).trans e0, (Below.cell (below_one wr.drew (.cells #[.int .i64 x, .int .i64 y] 57)) (p := ⟨mb, _, none⟩) hmr).trans e1⟩
      refine wpAnyH_ready (rs := [1, 15]) (by kernel_rfl) (by simp) ?_
      refine AllReadyH.cons (o := { dst := some 17, op := Op.load 23 (Operand.tmp 16), type := 23, pos := "law.go:26", after := #[{ on := 0, ground := Ground.data }], guard := none }) rfl (fun K hK => ?_) (AllReadyH.cons (o := { dst := some 31, op := Op.buildSlice 23 1 #[(0, Operand.tmp 30)], type := 23, pos := "law.go:26", after := #[{ on := 14, ground := Ground.data }], guard := none }) rfl (fun K hK => ?_) AllReadyH.nil)
      · go_simp
        refine hK.out _ _ hHeld (fun hHeld => ?_)
        clear hK K
        try simp only [Act.put, List.setIfInBounds_toArray, List.set_cons_zero, List.set_cons_succ]
        refine wpAnyH_ready (rs := [15]) (by kernel_rfl) (by simp) ?_
        refine AllReadyH.cons (o := { dst := some 31, op := Op.buildSlice 23 1 #[(0, Operand.tmp 30)], type := 23, pos := "law.go:26", after := #[{ on := 14, ground := Ground.data }], guard := none }) rfl (fun K hK => ?_) AllReadyH.nil
        go_simp
        refine hK.out _ _ hS2 (fun hHeld => ?_)
        clear hK K
        try simp only [Act.put, List.setIfInBounds_toArray, List.set_cons_zero, List.set_cons_succ]
        refine wpAnyH_ready (rs := [16]) (by kernel_rfl) (by simp) ?_
        refine AllReadyH.cons (o := { dst := some 32, op := Op.call { callee := Callee.builtin Builtin.append, args := #[Operand.tmp 17, Operand.tmp 31], argTypes := #[23, 23] }, type := 23, pos := "law.go:26", after := #[{ on := 1, ground := Ground.data }, { on := 15, ground := Ground.data }], guard := none }) rfl (fun K hK => ?_) AllReadyH.nil
        refine step_appR ptM (B0 := W.heap.size) rfl (.tmp 17) (.tmp 31) rfl rfl rfl (row_alloc RO.out _) (by simp <;> omega) (Prs.new1 _ _ x y) (by omega) ?_
        intro A5 c5 w5 hw5 hb5
        have HW := Lib.hid hw5; have HG := Lib.hid hb5; have Z3 := Lib.hid (Bx.below (Bx.alloc R3.out.drew _) hb5 (by omega)); have GB := Lib.hid (Below.trans (Below.alloc RB.out.drew RB.out.size _) (hb5.mono (by omega))); have v1 := Z3.out.c1; have vf1 := Z3.out.f1; have hv3 := Z3.out.lt; clear hw5 hb5
        refine hK.out _ _ ⟨(Bx.below (Bx.alloc R1.out.drew _) HG.out (by omega)).c1, (GB.out.cell (p := ⟨mb, _, none⟩) hbl).trans E0.out, (GB.out.cell (p := ⟨mb, _, none⟩) hbl).trans E1.out⟩ (fun hHeld => ?_)
        clear hK K
        try simp only [Act.put, List.setIfInBounds_toArray, List.set_cons_zero, List.set_cons_succ]
        refine wpAnyH_take (i := 17) (oi := { dst := some 33, op := Op.fieldAddr 25 (Operand.tmp 3) 1, type := 0, pos := "law.go:26", after := #[{ on := 0, ground := Ground.phase }, { on := 1, ground := Ground.phase }, { on := 2, ground := Ground.phase }, { on := 3, ground := Ground.phase }, { on := 4, ground := Ground.phase }, { on := 5, ground := Ground.phase }, { on := 6, ground := Ground.phase }, { on := 7, ground := Ground.phase }, { on := 8, ground := Ground.phase }, { on := 9, ground := Ground.phase }, { on := 10, ground := Ground.phase }, { on := 11, ground := Ground.phase }, { on := 12, ground := Ground.phase }, { on := 13, ground := Ground.phase }, { on := 14, ground := Ground.phase }, { on := 15, ground := Ground.phase }, { on := 16, ground := Ground.phase }], guard := none }) (v := ?_) rfl (by kernel_rfl) (by kernel_rfl) (by kernel_rfl) (fun _ _ _ h => h) (Or.inl ⟨by kernel_rfl, ?_⟩) hHeld ?_
        rotate_left
        · intro w9 hSw; (try dsimp only at hSw); go_simp; try with_reducible rfl
        simp only [Act.put, List.setIfInBounds_toArray, List.set_cons_zero, List.set_cons_succ]
        refine wpAnyH_ready (rs := [18]) (by kernel_rfl) (by simp) ?_
        refine AllReadyH.cons (o := { dst := none, op := Op.store 23 (Operand.tmp 33) (Operand.tmp 32), type := 0, pos := "law.go:26", after := #[{ on := 17, ground := Ground.data }, { on := 16, ground := Ground.data }, { on := 16, ground := Ground.chain }, { on := 0, ground := Ground.phase }, { on := 1, ground := Ground.phase }, { on := 2, ground := Ground.phase }, { on := 3, ground := Ground.phase }, { on := 4, ground := Ground.phase }, { on := 5, ground := Ground.phase }, { on := 6, ground := Ground.phase }, { on := 7, ground := Ground.phase }, { on := 8, ground := Ground.phase }, { on := 9, ground := Ground.phase }, { on := 10, ground := Ground.phase }, { on := 11, ground := Ground.phase }, { on := 12, ground := Ground.phase }, { on := 13, ground := Ground.phase }, { on := 14, ground := Ground.phase }, { on := 15, ground := Ground.phase }, { on := 16, ground := Ground.phase }], guard := none }) rfl (fun K hK => ?_) AllReadyH.nil
        go_simp
        refine hK.out _ _ ⟨((Bx.below (Bx.alloc R1.out.drew _) HG.out (by omega)).other (by simp <;> omega) _).c1, (World.cell?_setCell_other _ ⟨_, _, none⟩ ⟨mb, _, none⟩ _ (by simp <;> omega)).trans hHeld.2.1, (World.cell?_setCell_other _ ⟨_, _, none⟩ ⟨mb, _, none⟩ _ (by simp <;> omega)).trans hHeld.2.2⟩ (fun hHeld => ?_)
        clear hK K
        try simp only [Act.put, List.setIfInBounds_toArray, List.set_cons_zero, List.set_cons_succ]
        refine wpAnyH_done (by kernel_rfl) ?_ _
        go_wp2
        go_roundw
        case rel =>
          refine ⟨j + 1, A5, c5, by omega, by go_num, (Bx.below (Bx.alloc R1.out.drew _) HG.out (by omega)).other (by simp <;> omega) _, (Bx.below (Bx.alloc R2.out.drew _) HG.out (by omega)).other (by simp <;> omega) _, Z3.out.s1 _, ?_, GB.out.setCell (by simp <;> omega) _, ?_⟩
          · rw [HN.out]
            exact row_set HW.out (by simp <;> omega) _
          · have := HG.out.size
            simp [World.setCell] at this ⊢
            omega
        case measure => simp [intOf]; omega
      · go_simp
        refine hK.out _ _ hS2 (fun hHeld => ?_)
        clear hK K
        try simp only [Act.put, List.setIfInBounds_toArray, List.set_cons_zero, List.set_cons_succ]
        refine wpAnyH_ready (rs := [1]) (by kernel_rfl) (by simp) ?_
        refine AllReadyH.cons (o := { dst := some 17, op := Op.load 23 (Operand.tmp 16), type := 23, pos := "law.go:26", after := #[{ on := 0, ground := Ground.data }], guard := none }) rfl (fun K hK => ?_) AllReadyH.nil
        go_simp
        refine hK.out _ _ hHeld (fun hHeld => ?_)
        clear hK K
        try simp only [Act.put, List.setIfInBounds_toArray, List.set_cons_zero, List.set_cons_succ]
        refine wpAnyH_ready (rs := [16]) (by kernel_rfl) (by simp) ?_
        refine AllReadyH.cons (o := { dst := some 32, op := Op.call { callee := Callee.builtin Builtin.append, args := #[Operand.tmp 17, Operand.tmp 31], argTypes := #[23, 23] }, type := 23, pos := "law.go:26", after := #[{ on := 1, ground := Ground.data }, { on := 15, ground := Ground.data }], guard := none }) rfl (fun K hK => ?_) AllReadyH.nil
        refine step_appR ptM (B0 := W.heap.size) rfl (.tmp 17) (.tmp 31) rfl rfl rfl (row_alloc RO.out _) (by simp <;> omega) (Prs.new1 _ _ x y) (by omega) ?_
        intro A5 c5 w5 hw5 hb5
        have HW := Lib.hid hw5; have HG := Lib.hid hb5; have Z3 := Lib.hid (Bx.below (Bx.alloc R3.out.drew _) hb5 (by omega)); have GB := Lib.hid (Below.trans (Below.alloc RB.out.drew RB.out.size _) (hb5.mono (by omega))); have v1 := Z3.out.c1; have vf1 := Z3.out.f1; have hv3 := Z3.out.lt; clear hw5 hb5
        refine hK.out _ _ ⟨(Bx.below (Bx.alloc R1.out.drew _) HG.out (by omega)).c1, (GB.out.cell (p := ⟨mb, _, none⟩) hbl).trans E0.out, (GB.out.cell (p := ⟨mb, _, none⟩) hbl).trans E1.out⟩ (fun hHeld => ?_)
        clear hK K
        try simp only [Act.put, List.setIfInBounds_toArray, List.set_cons_zero, List.set_cons_succ]
        refine wpAnyH_take (i := 17) (oi := { dst := some 33, op := Op.fieldAddr 25 (Operand.tmp 3) 1, type := 0, pos := "law.go:26", after := #[{ on := 0, ground := Ground.phase }, { on := 1, ground := Ground.phase }, { on := 2, ground := Ground.phase }, { on := 3, ground := Ground.phase }, { on := 4, ground := Ground.phase }, { on := 5, ground := Ground.phase }, { on := 6, ground := Ground.phase }, { on := 7, ground := Ground.phase }, { on := 8, ground := Ground.phase }, { on := 9, ground := Ground.phase }, { on := 10, ground := Ground.phase }, { on := 11, ground := Ground.phase }, { on := 12, ground := Ground.phase }, { on := 13, ground := Ground.phase }, { on := 14, ground := Ground.phase }, { on := 15, ground := Ground.phase }, { on := 16, ground := Ground.phase }], guard := none }) (v := ?_) rfl (by kernel_rfl) (by kernel_rfl) (by kernel_rfl) (fun _ _ _ h => h) (Or.inl ⟨by kernel_rfl, ?_⟩) hHeld ?_
        rotate_left
        · intro w9 hSw; (try dsimp only at hSw); go_simp; try with_reducible rfl
        simp only [Act.put, List.setIfInBounds_toArray, List.set_cons_zero, List.set_cons_succ]
        refine wpAnyH_ready (rs := [18]) (by kernel_rfl) (by simp) ?_
        refine AllReadyH.cons (o := { dst := none, op := Op.store 23 (Operand.tmp 33) (Operand.tmp 32), type := 0, pos := "law.go:26", after := #[{ on := 17, ground := Ground.data }, { on := 16, ground := Ground.data }, { on := 16, ground := Ground.chain }, { on := 0, ground := Ground.phase }, { on := 1, ground := Ground.phase }, { on := 2, ground := Ground.phase }, { on := 3, ground := Ground.phase }, { on := 4, ground := Ground.phase }, { on := 5, ground := Ground.phase }, { on := 6, ground := Ground.phase }, { on := 7, ground := Ground.phase }, { on := 8, ground := Ground.phase }, { on := 9, ground := Ground.phase }, { on := 10, ground := Ground.phase }, { on := 11, ground := Ground.phase }, { on := 12, ground := Ground.phase }, { on := 13, ground := Ground.phase }, { on := 14, ground := Ground.phase }, { on := 15, ground := Ground.phase }, { on := 16, ground := Ground.phase }], guard := none }) rfl (fun K hK => ?_) AllReadyH.nil
        go_simp
        refine hK.out _ _ ⟨((Bx.below (Bx.alloc R1.out.drew _) HG.out (by omega)).other (by simp <;> omega) _).c1, (World.cell?_setCell_other _ ⟨_, _, none⟩ ⟨mb, _, none⟩ _ (by simp <;> omega)).trans hHeld.2.1, (World.cell?_setCell_other _ ⟨_, _, none⟩ ⟨mb, _, none⟩ _ (by simp <;> omega)).trans hHeld.2.2⟩ (fun hHeld => ?_)
        clear hK K
        try simp only [Act.put, List.setIfInBounds_toArray, List.set_cons_zero, List.set_cons_succ]
        refine wpAnyH_done (by kernel_rfl) ?_ _
        go_wp2
        go_roundw
        case rel =>
          refine ⟨j + 1, A5, c5, by omega, by go_num, (Bx.below (Bx.alloc R1.out.drew _) HG.out (by omega)).other (by simp <;> omega) _, (Bx.below (Bx.alloc R2.out.drew _) HG.out (by omega)).other (by simp <;> omega) _, Z3.out.s1 _, ?_, GB.out.setCell (by simp <;> omega) _, ?_⟩
          · rw [HN.out]
            exact row_set HW.out (by simp <;> omega) _
          · have := HG.out.size
            simp [World.setCell] at this ⊢
            omega
        case measure => simp [intOf]; omega
    · obtain rfl : m = j := by omega
      have etk : b.marks.take m = b.marks := List.take_of_length_le (by have := LM.out; omega)
      rw [etk] at RO
      have SP0 := Lib.hid (Prs.under (Prs.of_own RO.out))
      clear etk RO X1 X2 X3 HB
      have XB := Lib.hid (And.intro (Nat.le_refl wr.heap.size) RB.out)
      go_upto_region 7 with (fail)
      try (generalize hWw : wr = W2 at *)
      try clear hWw
      go_loopw [5] (fun i wr => ∃ (j' : Nat) (Q : Option Addr) (cq : Nat), j' ≤ k ∧ i = .int .i64 j' ∧ Bx wr w.heap.size 30 (.slice A n c) (.slice B m d) (.slice C k f) ∧ Bx wr (w.heap.size + 1) 25 (.slice none 0 0) (.slice none 0 0) (.slice none 0 0) ∧ Bx wr (w.heap.size + 1 + 1) 25 (.slice A n c) (.slice P0 m cp0) (.slice Q j' cq) ∧ wr.ownsRow W2.heap.size 57 2 (.slice Q j' cq) j' (prsOf (b.outs.take j')) ∧ PrsU W2.heap.size wr P0 m cp0 b.marks ∧ Below w.heap.size w wr ∧ W2.heap.size ≤ wr.heap.size) (fun i _ => ((k : Int) - intOf i).toNat)
      case atStart => exact ⟨0, none, 0, by omega, rfl, R1.out, R2.out, R3.out, (OwnP.nil _ _).1, SP0.out, RB.out, Nat.le_refl _⟩
      case round =>
        clear R1 R2 R3 RB a1 a2 z1 zf1 z2 zf2 hw1 hw3 XB SP0
        obtain ⟨j, P, cp, hj, rfl, h1, h2, h3, hO, hP, hb, hs⟩ := hrel
        have SP := Lib.hid hP
        clear hP
        have R1 := Lib.hid h1
        have R2 := Lib.hid h2
        have R3 := Lib.hid h3
        have RO := Lib.hid hO
        have RB := Lib.hid hb
        clear h1 h2 h3 hO hb
        have hw1 : w.heap.size < wr.heap.size := R1.out.lt
        have hw3 : w.heap.size + 1 + 1 < wr.heap.size := R3.out.lt
        have a1 := R1.out.c1
        have a2 := R1.out.c2
        have z1 := R3.out.c1
        have zf1 := R3.out.f1
        have z2 := R3.out.c2
        have zf2 := R3.out.f2
        by_cases hlt : j < k
        · have hjl : j < b.outs.length := by rw [LO.out]; exact hlt
          obtain ⟨mb, mo, rfl, hbl, e0', e1'⟩ := H.out.po.at_ j hlt
          have E0 := Lib.hid e0'
          have E1 := Lib.hid e1'
          clear e0' e1'
          have e0 := (RB.out.cell (p := ⟨mb, _, none⟩) hbl).trans E0.out
          have e1 := (RB.out.cell (p := ⟨mb, _, none⟩) hbl).trans E1.out
          have HN := Lib.hid (take_next b.outs j hjl)
          generalize (b.outs.getD j (0, 0)) = p at *
          obtain ⟨x, y⟩ := p
          have hmr : mb < wr.heap.size := by omega
          go_upto_region 9 with (fail)
          have hHeld' : (fun w' => w'.cell? ⟨w.heap.size, 2, none⟩ = some (.slice (some ⟨mb, mo, none⟩) k f) ∧ w'.cell? ⟨mb, mo + j * 2, none⟩ = some (.int .i64 x) ∧ w'.cell? ⟨mb, mo + j * 2 + 1, none⟩ = some (.int .i64 y)) wr.drew := ⟨a2, e0, e1⟩
          refine wp_region_held_drew (S := (fun w' => w'.cell? ⟨w.heap.size, 2, none⟩ = some (.slice (some ⟨mb, mo, none⟩) k f) ∧ w'.cell? ⟨mb, mo + j * 2, none⟩ = some (.int .i64 x) ∧ w'.cell? ⟨mb, mo + j * 2 + 1, none⟩ = some (.int .i64 y))) (by kernel_rfl) hHeld' (fun hHeld => ?_)
          clear hHeld'
          refine wpAnyH_take (i := 0) (oi := { dst := some 41, op := Op.fieldAddr 25 (Operand.tmp 3) 2, type := 0, pos := "law.go:29", after := #[], guard := none }) (v := ?_) rfl (by kernel_rfl) (by kernel_rfl) (by kernel_rfl) (fun _ _ _ h => h) (Or.inl ⟨by kernel_rfl, ?_⟩) hHeld ?_
          rotate_left
          · intro w9 hSw; (try dsimp only at hSw); go_simp; try with_reducible rfl
          simp only [Act.put, List.setIfInBounds_toArray, List.set_cons_zero, List.set_cons_succ]
          refine wpAnyH_take (i := 2) (oi := { dst := some 43, op := Op.fieldAddr 30 (Operand.tmp 1) 2, type := 0, pos := "law.go:29", after := #[], guard := none }) (v := ?_) rfl (by kernel_rfl) (by kernel_rfl) (by kernel_rfl) (fun _ _ _ h => h) (Or.inl ⟨by kernel_rfl, ?_⟩) hHeld ?_
          rotate_left
          · intro w9 hSw; (try dsimp only at hSw); go_simp; try with_reducible rfl
          simp only [Act.put, List.setIfInBounds_toArray, List.set_cons_zero, List.set_cons_succ]
          refine wpAnyH_take (i := 3) (oi := { dst := some 44, op := Op.load 28 (Operand.tmp 43), type := 28, pos := "law.go:29", after := #[{ on := 2, ground := Ground.data }], guard := none }) (v := ?_) rfl (by kernel_rfl) (by kernel_rfl) (by kernel_rfl) (fun _ _ _ h => h) (Or.inl ⟨by kernel_rfl, ?_⟩) hHeld ?_
          rotate_left
          · intro w9 hSw; (try dsimp only at hSw); go_simp; try with_reducible rfl
          simp only [Act.put, List.setIfInBounds_toArray, List.set_cons_zero, List.set_cons_succ]
          refine wpAnyH_take (i := 4) (oi := { dst := some 45, op := Op.move (Operand.tmp 5), type := 3, pos := "law.go:29", after := #[], guard := none }) (v := ?_) rfl (by kernel_rfl) (by kernel_rfl) (by kernel_rfl) (fun _ _ _ h => h) (Or.inl ⟨by kernel_rfl, ?_⟩) hHeld ?_
          rotate_left
          · intro w9 hSw; (try dsimp only at hSw); go_simp; try with_reducible rfl
          simp only [Act.put, List.setIfInBounds_toArray, List.set_cons_zero, List.set_cons_succ]
          refine wpAnyH_take (i := 5) (oi := { dst := some 46, op := Op.indexAddr 28 (Operand.tmp 44) (Operand.tmp 45), type := 0, pos := "law.go:29", after := #[{ on := 3, ground := Ground.data }, { on := 4, ground := Ground.data }], guard := none }) (v := ?_) rfl (by kernel_rfl) (by kernel_rfl) (by kernel_rfl) (fun _ _ _ h => h) (Or.inl ⟨by kernel_rfl, ?_⟩) hHeld ?_
          rotate_left
          · intro w9 hSw; (try dsimp only at hSw); go_simp; try with_reducible rfl
          simp only [Act.put, List.setIfInBounds_toArray, List.set_cons_zero, List.set_cons_succ]
          refine wpAnyH_take (i := 6) (oi := { dst := some 47, op := Op.fieldAddr 62 (Operand.tmp 46) 0, type := 0, pos := "law.go:29", after := #[{ on := 5, ground := Ground.data }], guard := none }) (v := ?_) rfl (by kernel_rfl) (by kernel_rfl) (by kernel_rfl) (fun _ _ _ h => h) (Or.inl ⟨by kernel_rfl, ?_⟩) hHeld ?_
          rotate_left
          · intro w9 hSw; (try dsimp only at hSw); go_simp; try with_reducible rfl
          simp only [Act.put, List.setIfInBounds_toArray, List.set_cons_zero, List.set_cons_succ]
          refine wpAnyH_take (i := 7) (oi := { dst := some 48, op := Op.load 3 (Operand.tmp 47), type := 3, pos := "law.go:29", after := #[{ on := 6, ground := Ground.data }], guard := none }) (v := ?_) rfl (by kernel_rfl) (by kernel_rfl) (by kernel_rfl) (fun _ _ _ h => h) (Or.inl ⟨by kernel_rfl, ?_⟩) hHeld ?_
          rotate_left
          · intro w9 hSw; (try dsimp only at hSw); go_simp; try with_reducible rfl
          simp only [Act.put, List.setIfInBounds_toArray, List.set_cons_zero, List.set_cons_succ]
          refine wpAnyH_take (i := 8) (oi := { dst := some 49, op := Op.fieldAddr 30 (Operand.tmp 1) 2, type := 0, pos := "law.go:29", after := #[], guard := none }) (v := ?_) rfl (by kernel_rfl) (by kernel_rfl) (by kernel_rfl) (fun _ _ _ h => h) (Or.inl ⟨by kernel_rfl, ?_⟩) hHeld ?_
          rotate_left
          · intro w9 hSw; (try dsimp only at hSw); go_simp; try with_reducible rfl
          simp only [Act.put, List.setIfInBounds_toArray, List.set_cons_zero, List.set_cons_succ]
          refine wpAnyH_take (i := 9) (oi := { dst := some 50, op := Op.load 28 (Operand.tmp 49), type := 28, pos := "law.go:29", after := #[{ on := 8, ground := Ground.data }], guard := none }) (v := ?_) rfl (by kernel_rfl) (by kernel_rfl) (by kernel_rfl) (fun _ _ _ h => h) (Or.inl ⟨by kernel_rfl, ?_⟩) hHeld ?_
          rotate_left
          · intro w9 hSw; (try dsimp only at hSw); go_simp; try with_reducible rfl
          simp only [Act.put, List.setIfInBounds_toArray, List.set_cons_zero, List.set_cons_succ]
          refine wpAnyH_take (i := 10) (oi := { dst := some 51, op := Op.move (Operand.tmp 5), type := 3, pos := "law.go:29", after := #[], guard := none }) (v := ?_) rfl (by kernel_rfl) (by kernel_rfl) (by kernel_rfl) (fun _ _ _ h => h) (Or.inl ⟨by kernel_rfl, ?_⟩) hHeld ?_
          rotate_left
          · intro w9 hSw; (try dsimp only at hSw); go_simp; try with_reducible rfl
          simp only [Act.put, List.setIfInBounds_toArray, List.set_cons_zero, List.set_cons_succ]
          refine wpAnyH_take (i := 11) (oi := { dst := some 52, op := Op.indexAddr 28 (Operand.tmp 50) (Operand.tmp 51), type := 0, pos := "law.go:29", after := #[{ on := 9, ground := Ground.data }, { on := 10, ground := Ground.data }], guard := none }) (v := ?_) rfl (by kernel_rfl) (by kernel_rfl) (by kernel_rfl) (fun _ _ _ h => h) (Or.inl ⟨by kernel_rfl, ?_⟩) hHeld ?_
          rotate_left
          · intro w9 hSw; (try dsimp only at hSw); go_simp; try with_reducible rfl
          simp only [Act.put, List.setIfInBounds_toArray, List.set_cons_zero, List.set_cons_succ]
          refine wpAnyH_take (i := 12) (oi := { dst := some 53, op := Op.fieldAddr 62 (Operand.tmp 52) 1, type := 0, pos := "law.go:29", after := #[{ on := 11, ground := Ground.data }], guard := none }) (v := ?_) rfl (by kernel_rfl) (by kernel_rfl) (by kernel_rfl) (fun _ _ _ h => h) (Or.inl ⟨by kernel_rfl, ?_⟩) hHeld ?_
          rotate_left
          · intro w9 hSw; (try dsimp only at hSw); go_simp; try with_reducible rfl
          simp only [Act.put, List.setIfInBounds_toArray, List.set_cons_zero, List.set_cons_succ]
          refine wpAnyH_take (i := 13) (oi := { dst := some 54, op := Op.load 3 (Operand.tmp 53), type := 3, pos := "law.go:29", after := #[{ on := 12, ground := Ground.data }], guard := none }) (v := ?_) rfl (by kernel_rfl) (by kernel_rfl) (by kernel_rfl) (fun _ _ _ h => h) (Or.inl ⟨by kernel_rfl, ?_⟩) hHeld ?_
          rotate_left
          · intro w9 hSw; (try dsimp only at hSw); go_simp; try with_reducible rfl
          simp only [Act.put, List.setIfInBounds_toArray, List.set_cons_zero, List.set_cons_succ]
          refine wpAnyH_take (i := 14) (oi := { dst := some 55, op := Op.build 57 #[(0, Operand.tmp 48), (1, Operand.tmp 54)], type := 57, pos := "law.go:29", after := #[{ on := 7, ground := Ground.data }, { on := 13, ground := Ground.data }], guard := none }) (v := ?_) rfl (by kernel_rfl) (by kernel_rfl) (by kernel_rfl) (fun _ _ _ h => h) (Or.inl ⟨by kernel_rfl, ?_⟩) hHeld ?_
          rotate_left
          · intro w9 hSw; (try dsimp only at hSw); go_simp; try with_reducible rfl
          simp only [Act.put, List.setIfInBounds_toArray, List.set_cons_zero, List.set_cons_succ]
          have hS2 : (fun w' => w'.cell? ⟨w.heap.size, 2, none⟩ = some (.slice (some ⟨mb, mo, none⟩) k f) ∧ w'.cell? ⟨mb, mo + j * 2, none⟩ = some (.int .i64 x) ∧ w'.cell? ⟨mb, mo + j * 2 + 1, none⟩ = some (.int .i64 y)) (wr.drew.alloc (.cells #[.int .i64 x, .int .i64 y] 57)) := ⟨(R1.out.drew.alloc _).c2, (Below.cell (below_one wr.drew (.cells #[.int .i64 x, .int .i64 y] 57)) (p := ⟨mb, _, none⟩) hmr).trans e0, (Below.cell (below_one wr.drew (.cells #[.int .i64 x, .int .i64 y] 57)) (p := ⟨mb, _, none⟩) hmr).trans e1⟩
          refine wpAnyH_ready (rs := [1, 15]) (by kernel_rfl) (by simp) ?_
          refine AllReadyH.cons (o := { dst := some 42, op := Op.load 23 (Operand.tmp 41), type := 23, pos := "law.go:29", after := #[{ on := 0, ground := Ground.data }], guard := none }) rfl (fun K hK => ?_) (AllReadyH.cons (o := { dst := some 56, op := Op.buildSlice 23 1 #[(0, Operand.tmp 55)], type := 23, pos := "law.go:29", after := #[{ on := 14, ground := Ground.data }], guard := none }) rfl (fun K hK => ?_) AllReadyH.nil)
          · go_simp
            refine hK.out _ _ hHeld (fun hHeld => ?_)
            clear hK K
            try simp only [Act.put, List.setIfInBounds_toArray, List.set_cons_zero, List.set_cons_succ]
            refine wpAnyH_ready (rs := [15]) (by kernel_rfl) (by simp) ?_
            refine AllReadyH.cons (o := { dst := some 56, op := Op.buildSlice 23 1 #[(0, Operand.tmp 55)], type := 23, pos := "law.go:29", after := #[{ on := 14, ground := Ground.data }], guard := none }) rfl (fun K hK => ?_) AllReadyH.nil
            go_simp
            refine hK.out _ _ hS2 (fun hHeld => ?_)
            clear hK K
            try simp only [Act.put, List.setIfInBounds_toArray, List.set_cons_zero, List.set_cons_succ]
            refine wpAnyH_ready (rs := [16]) (by kernel_rfl) (by simp) ?_
            refine AllReadyH.cons (o := { dst := some 57, op := Op.call { callee := Callee.builtin Builtin.append, args := #[Operand.tmp 42, Operand.tmp 56], argTypes := #[23, 23] }, type := 23, pos := "law.go:29", after := #[{ on := 1, ground := Ground.data }, { on := 15, ground := Ground.data }], guard := none }) rfl (fun K hK => ?_) AllReadyH.nil
            refine step_appR ptM (B0 := W2.heap.size) rfl (.tmp 42) (.tmp 56) rfl rfl rfl (row_alloc RO.out _) (by simp <;> omega) (Prs.new1 _ _ x y) (by omega) ?_
            intro A5 c5 w5 hw5 hb5
            have HW := Lib.hid hw5; have HG := Lib.hid hb5; have Z3 := Lib.hid (Bx.below (Bx.alloc R3.out.drew _) hb5 (by omega)); have GB := Lib.hid (Below.trans (Below.alloc RB.out.drew RB.out.size _) (hb5.mono (by omega))); have TP := Lib.hid (PrsU.below (B0 := W2.heap.size) ⟨(SP.out.1.drew.alloc _), SP.out.2⟩ hb5); have v1 := Z3.out.c2; have vf1 := Z3.out.f2; have hv3 := Z3.out.lt; clear hw5 hb5
            refine hK.out _ _ ⟨(Bx.below (Bx.alloc R1.out.drew _) HG.out (by omega)).c2, (GB.out.cell (p := ⟨mb, _, none⟩) hbl).trans E0.out, (GB.out.cell (p := ⟨mb, _, none⟩) hbl).trans E1.out⟩ (fun hHeld => ?_)
            clear hK K
            try simp only [Act.put, List.setIfInBounds_toArray, List.set_cons_zero, List.set_cons_succ]
            refine wpAnyH_take (i := 17) (oi := { dst := some 58, op := Op.fieldAddr 25 (Operand.tmp 3) 2, type := 0, pos := "law.go:29", after := #[{ on := 0, ground := Ground.phase }, { on := 1, ground := Ground.phase }, { on := 2, ground := Ground.phase }, { on := 3, ground := Ground.phase }, { on := 4, ground := Ground.phase }, { on := 5, ground := Ground.phase }, { on := 6, ground := Ground.phase }, { on := 7, ground := Ground.phase }, { on := 8, ground := Ground.phase }, { on := 9, ground := Ground.phase }, { on := 10, ground := Ground.phase }, { on := 11, ground := Ground.phase }, { on := 12, ground := Ground.phase }, { on := 13, ground := Ground.phase }, { on := 14, ground := Ground.phase }, { on := 15, ground := Ground.phase }, { on := 16, ground := Ground.phase }], guard := none }) (v := ?_) rfl (by kernel_rfl) (by kernel_rfl) (by kernel_rfl) (fun _ _ _ h => h) (Or.inl ⟨by kernel_rfl, ?_⟩) hHeld ?_
            rotate_left
            · intro w9 hSw; (try dsimp only at hSw); go_simp; try with_reducible rfl
            simp only [Act.put, List.setIfInBounds_toArray, List.set_cons_zero, List.set_cons_succ]
            refine wpAnyH_ready (rs := [18]) (by kernel_rfl) (by simp) ?_
            refine AllReadyH.cons (o := { dst := none, op := Op.store 23 (Operand.tmp 58) (Operand.tmp 57), type := 0, pos := "law.go:29", after := #[{ on := 17, ground := Ground.data }, { on := 16, ground := Ground.data }, { on := 16, ground := Ground.chain }, { on := 0, ground := Ground.phase }, { on := 1, ground := Ground.phase }, { on := 2, ground := Ground.phase }, { on := 3, ground := Ground.phase }, { on := 4, ground := Ground.phase }, { on := 5, ground := Ground.phase }, { on := 6, ground := Ground.phase }, { on := 7, ground := Ground.phase }, { on := 8, ground := Ground.phase }, { on := 9, ground := Ground.phase }, { on := 10, ground := Ground.phase }, { on := 11, ground := Ground.phase }, { on := 12, ground := Ground.phase }, { on := 13, ground := Ground.phase }, { on := 14, ground := Ground.phase }, { on := 15, ground := Ground.phase }, { on := 16, ground := Ground.phase }], guard := none }) rfl (fun K hK => ?_) AllReadyH.nil
            go_simp
            refine hK.out _ _ ⟨((Bx.below (Bx.alloc R1.out.drew _) HG.out (by omega)).other (by simp <;> omega) _).c2, (World.cell?_setCell_other _ ⟨_, _, none⟩ ⟨mb, _, none⟩ _ (by simp <;> omega)).trans hHeld.2.1, (World.cell?_setCell_other _ ⟨_, _, none⟩ ⟨mb, _, none⟩ _ (by simp <;> omega)).trans hHeld.2.2⟩ (fun hHeld => ?_)
            clear hK K
            try simp only [Act.put, List.setIfInBounds_toArray, List.set_cons_zero, List.set_cons_succ]
            refine wpAnyH_done (by kernel_rfl) ?_ _
            go_wp2
            go_roundw
            case rel =>
              refine ⟨j + 1, A5, c5, by omega, by go_num, (Bx.below (Bx.alloc R1.out.drew _) HG.out (by omega)).other (by simp <;> omega) _, (Bx.below (Bx.alloc R2.out.drew _) HG.out (by omega)).other (by simp <;> omega) _, Z3.out.s2 _, ?_, TP.out.set_ Z3.out _ _, GB.out.setCell (by simp <;> omega) _, ?_⟩
              · rw [HN.out]
                exact row_set HW.out (by simp <;> omega) _
              · have := HG.out.size
                simp [World.setCell] at this ⊢
                omega
            case measure => simp [intOf]; omega
          · go_simp
            refine hK.out _ _ hS2 (fun hHeld => ?_)
            clear hK K
            try simp only [Act.put, List.setIfInBounds_toArray, List.set_cons_zero, List.set_cons_succ]
            refine wpAnyH_ready (rs := [1]) (by kernel_rfl) (by simp) ?_
            refine AllReadyH.cons (o := { dst := some 42, op := Op.load 23 (Operand.tmp 41), type := 23, pos := "law.go:29", after := #[{ on := 0, ground := Ground.data }], guard := none }) rfl (fun K hK => ?_) AllReadyH.nil
            go_simp
            refine hK.out _ _ hHeld (fun hHeld => ?_)
            clear hK K
            try simp only [Act.put, List.setIfInBounds_toArray, List.set_cons_zero, List.set_cons_succ]
            refine wpAnyH_ready (rs := [16]) (by kernel_rfl) (by simp) ?_
            refine AllReadyH.cons (o := { dst := some 57, op := Op.call { callee := Callee.builtin Builtin.append, args := #[Operand.tmp 42, Operand.tmp 56], argTypes := #[23, 23] }, type := 23, pos := "law.go:29", after := #[{ on := 1, ground := Ground.data }, { on := 15, ground := Ground.data }], guard := none }) rfl (fun K hK => ?_) AllReadyH.nil
            refine step_appR ptM (B0 := W2.heap.size) rfl (.tmp 42) (.tmp 56) rfl rfl rfl (row_alloc RO.out _) (by simp <;> omega) (Prs.new1 _ _ x y) (by omega) ?_
            intro A5 c5 w5 hw5 hb5
            have HW := Lib.hid hw5; have HG := Lib.hid hb5; have Z3 := Lib.hid (Bx.below (Bx.alloc R3.out.drew _) hb5 (by omega)); have GB := Lib.hid (Below.trans (Below.alloc RB.out.drew RB.out.size _) (hb5.mono (by omega))); have TP := Lib.hid (PrsU.below (B0 := W2.heap.size) ⟨(SP.out.1.drew.alloc _), SP.out.2⟩ hb5); have v1 := Z3.out.c2; have vf1 := Z3.out.f2; have hv3 := Z3.out.lt; clear hw5 hb5
            refine hK.out _ _ ⟨(Bx.below (Bx.alloc R1.out.drew _) HG.out (by omega)).c2, (GB.out.cell (p := ⟨mb, _, none⟩) hbl).trans E0.out, (GB.out.cell (p := ⟨mb, _, none⟩) hbl).trans E1.out⟩ (fun hHeld => ?_)
            clear hK K
            try simp only [Act.put, List.setIfInBounds_toArray, List.set_cons_zero, List.set_cons_succ]
            refine wpAnyH_take (i := 17) (oi := { dst := some 58, op := Op.fieldAddr 25 (Operand.tmp 3) 2, type := 0, pos := "law.go:29", after := #[{ on := 0, ground := Ground.phase }, { on := 1, ground := Ground.phase }, { on := 2, ground := Ground.phase }, { on := 3, ground := Ground.phase }, { on := 4, ground := Ground.phase }, { on := 5, ground := Ground.phase }, { on := 6, ground := Ground.phase }, { on := 7, ground := Ground.phase }, { on := 8, ground := Ground.phase }, { on := 9, ground := Ground.phase }, { on := 10, ground := Ground.phase }, { on := 11, ground := Ground.phase }, { on := 12, ground := Ground.phase }, { on := 13, ground := Ground.phase }, { on := 14, ground := Ground.phase }, { on := 15, ground := Ground.phase }, { on := 16, ground := Ground.phase }], guard := none }) (v := ?_) rfl (by kernel_rfl) (by kernel_rfl) (by kernel_rfl) (fun _ _ _ h => h) (Or.inl ⟨by kernel_rfl, ?_⟩) hHeld ?_
            rotate_left
            · intro w9 hSw; (try dsimp only at hSw); go_simp; try with_reducible rfl
            simp only [Act.put, List.setIfInBounds_toArray, List.set_cons_zero, List.set_cons_succ]
            refine wpAnyH_ready (rs := [18]) (by kernel_rfl) (by simp) ?_
            refine AllReadyH.cons (o := { dst := none, op := Op.store 23 (Operand.tmp 58) (Operand.tmp 57), type := 0, pos := "law.go:29", after := #[{ on := 17, ground := Ground.data }, { on := 16, ground := Ground.data }, { on := 16, ground := Ground.chain }, { on := 0, ground := Ground.phase }, { on := 1, ground := Ground.phase }, { on := 2, ground := Ground.phase }, { on := 3, ground := Ground.phase }, { on := 4, ground := Ground.phase }, { on := 5, ground := Ground.phase }, { on := 6, ground := Ground.phase }, { on := 7, ground := Ground.phase }, { on := 8, ground := Ground.phase }, { on := 9, ground := Ground.phase }, { on := 10, ground := Ground.phase }, { on := 11, ground := Ground.phase }, { on := 12, ground := Ground.phase }, { on := 13, ground := Ground.phase }, { on := 14, ground := Ground.phase }, { on := 15, ground := Ground.phase }, { on := 16, ground := Ground.phase }], guard := none }) rfl (fun K hK => ?_) AllReadyH.nil
            go_simp
            refine hK.out _ _ ⟨((Bx.below (Bx.alloc R1.out.drew _) HG.out (by omega)).other (by simp <;> omega) _).c2, (World.cell?_setCell_other _ ⟨_, _, none⟩ ⟨mb, _, none⟩ _ (by simp <;> omega)).trans hHeld.2.1, (World.cell?_setCell_other _ ⟨_, _, none⟩ ⟨mb, _, none⟩ _ (by simp <;> omega)).trans hHeld.2.2⟩ (fun hHeld => ?_)
            clear hK K
            try simp only [Act.put, List.setIfInBounds_toArray, List.set_cons_zero, List.set_cons_succ]
            refine wpAnyH_done (by kernel_rfl) ?_ _
            go_wp2
            go_roundw
            case rel =>
              refine ⟨j + 1, A5, c5, by omega, by go_num, (Bx.below (Bx.alloc R1.out.drew _) HG.out (by omega)).other (by simp <;> omega) _, (Bx.below (Bx.alloc R2.out.drew _) HG.out (by omega)).other (by simp <;> omega) _, Z3.out.s2 _, ?_, TP.out.set_ Z3.out _ _, GB.out.setCell (by simp <;> omega) _, ?_⟩
              · rw [HN.out]
                exact row_set HW.out (by simp <;> omega) _
              · have := HG.out.size
                simp [World.setCell] at this ⊢
                omega
            case measure => simp [intOf]; omega
        · obtain rfl : k = j := by omega
          have etk : b.outs.take k = b.outs := List.take_of_length_le (by have := LO.out; omega)
          rw [etk] at RO
          have z0 := R3.out.c0
          have y0 := R2.out.c0
          have y1 := R2.out.c1
          have y2 := R2.out.c2
          have yf0 := R2.out.f0
          have yf1 := R2.out.f1
          have yf2 := R2.out.f2
          go_wp2
          refine bodyPost_ret (v := .agg #[.slice A n c, .slice P0 m cp0, .slice P k cp]) (by simp [results, Try.results19, go_sem, y0, y1, y2] <;> rfl) rfl (bd_fin (b' := b) (Bl.set3 ⟨H.out.pc.below RB.out, SP.out.1, Prs.of_own RO.out⟩ R2.out) (below_set3 RB.out (by simp) _ _ _) rfl)
end Go.Proofs.Ytkcpmjccggfpiaa
