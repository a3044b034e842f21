/-
  What package queue answers of taken, without, Put, Nth, Take, Drop and Ids.
-/
import Derived.Test.YtoklocbdifefcaaQueueSane
namespace Go.Proofs.Ytoklocbdifefcaa
open Go.RowKit

/-- A slice lies in another block than g. What a call hands back lies apart of whatever was there, where what it was given did. -/
def Apt (A : Option Addr) (n g : Nat) : Prop := 0 < n → ∀ b o, A = some ⟨b, o, none⟩ → b ≠ g
def Born (w : World) (A : Option Addr) (n : Nat) (A' : Option Addr) (n' : Nat) : Prop := ∀ g, g < w.heap.size → Apt A n g → Apt A' n' g
theorem Born.same {w : World} {A : Option Addr} {n : Nat} : Born w A n A n := fun _ _ h => h
theorem Born.none_ {w : World} {A A' : Option Addr} {n : Nat} : Born w A n A' 0 := fun _ _ _ h => absurd h (Nat.lt_irrefl _)
theorem Born.trans {w w1 : World} {A A' A2 : Option Addr} {n n' n2 : Nat} (h : Born w A n A' n') (hs : w.heap.size ≤ w1.heap.size) (h' : Born w1 A' n' A2 n2) : Born w A n A2 n2 := fun g hg a => h' g (by omega) (h g hg a)
/-- What a call has made lies in blocks from B on. -/
def Fre (B : Nat) (A : Option Addr) (n : Nat) : Prop := 0 < n → ∀ b o, A = some ⟨b, o, none⟩ → B ≤ b
theorem OwnI.fre {E : TypeId} {W w : World} {A : Option Addr} {n c : Nat} {l : List It} (h : OwnI E W w A n c l) : Fre W.heap.size A n := by
  intro h0 b o e
  obtain ⟨g, cap, hv, hb, _⟩ := h.1.form h0
  injection hv with h1 _ _
  rw [h1] at e
  injection e with e
  injection e with e1 _
  omega
theorem Fre.ne {B g : Nat} {A : Option Addr} {n : Nat} (h : Fre B A n) (hg : g < B) : Apt A n g := fun h0 b o e => by have := h h0 b o e; omega
theorem Fre.born {B : Nat} {w : World} {A A' : Option Addr} {n n' : Nat} (h : Fre B A' n') (hB : w.heap.size ≤ B) : Born w A n A' n' := fun g hg _ => h.ne (by omega)
/-- A queue that a call hands back. -/
def QPost (A : Option Addr) (n : Nat) (N : Int) (l : List It) (w : World) (e : Ending) (w' : World) : Prop :=
  ∃ A' n' c', e = .returned (.agg #[.int .i64 N, .slice A' n' c']) ∧ Its w' A' n' c' l ∧ Below w.heap.size w w' ∧ Born w A n A' n'
theorem below_set {W w : World} (h : Below W.heap.size W w) {p : Addr} (hp : W.heap.size ≤ p.block) (v : Value) : Below W.heap.size W (w.setCell p v) := h.setCell hp v
theorem Its.set_ {w : World} {A : Option Addr} {n c : Nat} {l : List It} (h : Its w A n c l) {g : Nat} (hg : Apt A n g) (k : Nat) (v : Value) : Its (w.setCell ⟨g, k, none⟩ v) A n c l := by
  refine ⟨h.1, h.2.1, fun h0 => ?_, h.2.2.2⟩
  obtain ⟨b, o, e, hb, hc⟩ := h.at0 h0
  refine ⟨b, o, e, by simpa [World.setCell] using hb, fun j hj => ?_⟩
  rw [← hc j hj]
  exact World.cell?_of_block (w := w) (Below.heap_setCell w ⟨g, k, none⟩ v b (hg h0 b o e))
/-- A slice that was there ahead lies in no block that came behind. -/
theorem its_old {w : World} {A : Option Addr} {n c : Nat} {l : List It} (h : Its w A n c l) {g : Nat} (hg : w.heap.size ≤ g) : Apt A n g := by
  intro h0 b o e
  obtain ⟨b', o', e', hb, _⟩ := h.at0 h0
  rw [e] at e'
  injection e' with e'
  injection e' with e1 e2
  omega
theorem Its.set2 {w0 w : World} {A : Option Addr} {n c : Nat} {l : List It} (h0 : Its w0 A n c l) (h : Its w A n c l) {g : Nat} (hg : w0.heap.size ≤ g) (v v' : Value) : Its ((w.setCell ⟨g, 0, none⟩ v).setCell ⟨g, 1, none⟩ v') A n c l :=
  (h.set_ (its_old h0 hg) 0 v).set_ (its_old h0 hg) 1 v'
set_option maxHeartbeats 1000000 in
theorem taken_is (N : Int) (A : Option Addr) (n c : Nat) (l : List It) (w : World) (hn : n ≤ 4611686018427387904) (h : Its w A n c l) :
    Calls Try.prog 25 #[.agg #[.int .i64 N, .slice A n c]] w (QPost A n (tkN N l) (tkL N l) w) := by
  have X0 := Lib.hid ((Qv.new w 28 N A n c).alloc (.cells #[.int .i64 0, .slice none 0 0] 28))
  have X1 := Lib.hid (Qv.at_ (w.alloc (.cells #[.int .i64 N, .slice A n c] 28)) 28 0 none 0 0 (w.heap.size + 1) (by simp))
  have HB := Lib.hid (two_new w (.cells #[.int .i64 N, .slice A n c] 28) (.cells #[.int .i64 0, .slice none 0 0] 28))
  have H0 := Lib.hid h
  have H := Lib.hid (h.below HB.out)
  have HL := Lib.hid h.len
  clear h
  unfold QPost tkN tkL
  by_cases hs : Sq N l
  · have hd : decide (Sq N l) = true := decide_eq_true hs
    have HD := Lib.hid hd
    rw [if_pos hs, if_pos hs]
    clear hs hd
    go_enter Try.func25, Try.ntmps25
    go_upto_region 1 with (fail)
    generalize (w.alloc (.cells #[.int .i64 N, .slice A n c] 28)).alloc (.cells #[.int .i64 0, .slice none 0 0] 28) = W at *
    have gs := HB.out.size
    have gl := X1.out.lt
    have qa := X0.out.c0; have qb := X0.out.c1; have qfa := X0.out.f 0; have qfb := X0.out.f 1; have ql := X0.out.lt; have y0 := X1.out.c0; have y1 := X1.out.c1; have yf0 := X1.out.f 0; have yf1 := X1.out.f 1; have yl := X1.out.lt
    go_wp2_with (go_at_call 23; refine (sane_is N A n c l true _ hn H.out HD.out).mono ?_; rintro e w1 ⟨rfl, hb⟩; have HB := Lib.hid (below_then HB.out hb); have H := Lib.hid (H.out.below hb); have X0 := Lib.hid (X0.out.keep hb); have X1 := Lib.hid (X1.out.keep hb); clear hb; clear qa qb qfa qfb ql y0 y1 yf0 yf1 yl; have qa := X0.out.c0; have qb := X0.out.c1; have qfa := X0.out.f 0; have qfb := X0.out.f 1; have ql := X0.out.lt; have y0 := X1.out.c0; have y1 := X1.out.c1; have yf0 := X1.out.f 0; have yf1 := X1.out.f 1; have yl := X1.out.lt; have Z := Lib.hid (X1.out.set N A n c); have z0 := Z.out.c0; have z1 := Z.out.c1)
    refine bodyPost_ret (v := .agg #[.int .i64 N, .slice A n c]) (by simp [results, Try.results25, go_sem, z0, z1]) rfl ⟨A, n, c, rfl, H0.out.set2 H.out (Nat.le_succ _) _ _, below_set (below_set HB.out (Nat.le_succ _) _) (Nat.le_succ _) _, Born.same⟩
  · have hd : decide (Sq N l) = false := decide_eq_false hs
    have HD := Lib.hid hd
    rw [if_neg hs, if_neg hs]
    clear hs hd
    go_enter Try.func25, Try.ntmps25
    go_upto_region 1 with (fail)
    generalize (w.alloc (.cells #[.int .i64 N, .slice A n c] 28)).alloc (.cells #[.int .i64 0, .slice none 0 0] 28) = W at *
    have gs := HB.out.size
    have gl := X1.out.lt
    have qa := X0.out.c0; have qb := X0.out.c1; have qfa := X0.out.f 0; have qfb := X0.out.f 1; have ql := X0.out.lt; have y0 := X1.out.c0; have y1 := X1.out.c1; have yf0 := X1.out.f 0; have yf1 := X1.out.f 1; have yl := X1.out.lt
    go_wp2_with (go_at_call 23; refine (sane_is N A n c l false _ hn H.out HD.out).mono ?_; rintro e w1 ⟨rfl, hb⟩; have HB := Lib.hid (below_then HB.out hb); have H := Lib.hid (H.out.below hb); have X0 := Lib.hid (X0.out.keep hb); have X1 := Lib.hid (X1.out.keep hb); clear hb; clear qa qb qfa qfb ql y0 y1 yf0 yf1 yl; have qa := X0.out.c0; have qb := X0.out.c1; have qfa := X0.out.f 0; have qfb := X0.out.f 1; have ql := X0.out.lt; have y0 := X1.out.c0; have y1 := X1.out.c1; have yf0 := X1.out.f 0; have yf1 := X1.out.f 1; have yl := X1.out.lt; have Z := Lib.hid (X1.out.set 0 none 0 0); have z0 := Z.out.c0; have z1 := Z.out.c1)
    refine bodyPost_ret (v := .agg #[.int .i64 0, .slice none 0 0]) (by simp [results, Try.results25, go_sem, z0, z1]) rfl ⟨none, 0, 0, rfl, Its.nil, below_set (below_set HB.out (Nat.le_succ _) _) (Nat.le_succ _) _, Born.none_⟩

/-- Two slices, or three, one behind the other. -/
theorem concat2_is (g : Nat) (A : Option Addr) (k c : Nat) (l : List It) (B : Option Addr) (m d : Nat) (l' : List It) (V : World) (hg : V.heap[g]? = some (.cells #[.slice A k c, .slice B m d] 26 (0, 0))) (h : Its V A k c l) (h' : Its V B m d l') (hk : k + m ≤ 1000) :
    Calls Try.prog 30 #[.slice (some ⟨g, 0, none⟩) 2 2] V fun e w' => ∃ A' c', e = .returned (.slice A' (k + m) c') ∧ Its w' A' (k + m) c' (l ++ l') ∧ Below V.heap.size V w' ∧ Fre V.heap.size A' (k + m) := by
  refine (concatI_any g [⟨A, k, c, l⟩, ⟨B, m, d, l'⟩] 2 _ rfl hg ?_ (by simp [tot]; omega) (by omega)).mono ?_
  · intro j hj
    match j, hj with
    | 0, _ => exact h
    | 1, _ => exact h'
  · rintro x w' ⟨A', c', rfl, ho⟩
    have e1 : tot [⟨A, k, c, l⟩, ⟨B, m, d, l'⟩] = k + m := by simp [tot]
    have e2 : allL [⟨A, k, c, l⟩, ⟨B, m, d, l'⟩] = l ++ l' := by simp [allL]
    rw [e1, e2] at ho
    exact ⟨A', c', by rw [e1], ho.its, ho.below, ho.fre⟩
theorem concat3_is (g : Nat) (A : Option Addr) (k c : Nat) (l : List It) (B : Option Addr) (m d : Nat) (l' : List It) (C : Option Addr) (q f : Nat) (l3 : List It) (V : World) (hg : V.heap[g]? = some (.cells #[.slice A k c, .slice B m d, .slice C q f] 26 (0, 0))) (h : Its V A k c l) (h' : Its V B m d l') (h3 : Its V C q f l3) (hk : k + m + q ≤ 1000) :
    Calls Try.prog 30 #[.slice (some ⟨g, 0, none⟩) 3 3] V fun e w' => ∃ A' c', e = .returned (.slice A' (k + m + q) c') ∧ Its w' A' (k + m + q) c' (l ++ (l' ++ l3)) ∧ Below V.heap.size V w' ∧ Fre V.heap.size A' (k + m + q) := by
  refine (concatI_any g [⟨A, k, c, l⟩, ⟨B, m, d, l'⟩, ⟨C, q, f, l3⟩] 3 _ rfl hg ?_ (by simp [tot]; omega) (by omega)).mono ?_
  · intro j hj
    match j, hj with
    | 0, _ => exact h
    | 1, _ => exact h'
    | 2, _ => exact h3
  · rintro x w' ⟨A', c', rfl, ho⟩
    have e1 : tot [⟨A, k, c, l⟩, ⟨B, m, d, l'⟩, ⟨C, q, f, l3⟩] = k + m + q := by simp [tot]; omega
    have e2 : allL [⟨A, k, c, l⟩, ⟨B, m, d, l'⟩, ⟨C, q, f, l3⟩] = l ++ (l' ++ l3) := by simp [allL]
    rw [e1, e2] at ho
    exact ⟨A', c', by rw [e1], ho.its, ho.below, ho.fre⟩
theorem skW {w w9 : World} {g : Nat} {T : TypeId} {N : Int} {A : Option Addr} {n c : Nat} (h : Below w.heap.size w w9) (Q : Qv w9 g T N A n c) : Below w.heap.size w w9 ∧ (w9.cell? ⟨g, 0, none⟩ = some (.int .i64 N) ∧ w9.cell? ⟨g, 1, none⟩ = some (.slice A n c)) := ⟨h, Q.c0, Q.c1⟩
theorem new_block (w : World) (o : Obj) (g : Nat) (hg : w.heap.size = g) : (w.alloc o).heap[g]? = some o := by
  subst hg
  show (w.heap.push _)[w.heap.size]? = _
  rw [Array.getElem?_push, if_pos rfl]

set_option maxHeartbeats 1000000 in
theorem without_is (N : Int) (A : Option Addr) (n c : Nat) (l : List It) (k : Nat) (w : World) (hk : k < n) (hn : n ≤ 1000) (h : Its w A n c l) :
    Calls Try.prog 33 #[.agg #[.int .i64 N, .slice A n c], .int .i64 (k : Int)] w (QPost A n N (ouL k l) w) := by
  have X0 := Lib.hid ((Qv.new w 28 N A n c).alloc (.cells #[.int .i64 0, .slice none 0 0] 28))
  have X1 := Lib.hid (Qv.at_ (w.alloc (.cells #[.int .i64 N, .slice A n c] 28)) 28 0 none 0 0 (w.heap.size + 1) (by simp))
  have HB := Lib.hid (two_new w (.cells #[.int .i64 N, .slice A n c] 28) (.cells #[.int .i64 0, .slice none 0 0] 28))
  have H0 := Lib.hid h
  have H := Lib.hid (h.below HB.out)
  have HL := Lib.hid h.len
  clear h
  obtain ⟨m, hm⟩ : ∃ m, m = k + 1 := ⟨_, rfl⟩
  have hw : IntKind.i64.wrap ((k : Int) + 1) = (m : Int) := by rw [IntKind.wrap_i64]; omega
  have HM := Lib.hid hm
  go_enter Try.func33, Try.ntmps33
  go_upto_region 1 with (fail)
  generalize (w.alloc (.cells #[.int .i64 N, .slice A n c] 28)).alloc (.cells #[.int .i64 0, .slice none 0 0] 28) = W at *
  have gs := HB.out.size
  have gl := X1.out.lt
  have qa := X0.out.c0; have qb := X0.out.c1; have qfa := X0.out.f 0; have qfb := X0.out.f 1; have ql := X0.out.lt; have y0 := X1.out.c0; have y1 := X1.out.c1; have yf0 := X1.out.f 0; have yf1 := X1.out.f 1; have yl := X1.out.lt
  have h1 := H.out.head etQ k (by omega)
  have s1 := h1.1
  have HA := Lib.hid h1.2
  obtain ⟨A2, c2, s2, h2⟩ := H.out.tail etQ m (by omega)
  have HC := Lib.hid h2
  clear h1 h2 hm

  have hHeld0 : (fun w9 => Below w.heap.size w w9 ∧ (w9.cell? ⟨w.heap.size, 0, none⟩ = some (.int .i64 N) ∧ w9.cell? ⟨w.heap.size, 1, none⟩ = some (.slice A n c))) W.drew := skW HB.out.drew X0.out
  refine wp_region_held_drew (S := fun w9 => Below w.heap.size w w9 ∧ (w9.cell? ⟨w.heap.size, 0, none⟩ = some (.int .i64 N) ∧ w9.cell? ⟨w.heap.size, 1, none⟩ = some (.slice A n c))) (by kernel_rfl) hHeld0 (fun hHeld => ?_)
  clear hHeld0
  refine wpAnyH_take (i := 0) (oi := { dst := some 5, op := Op.fieldAddr 28 (Operand.tmp 2) 0, type := 0, pos := "queue.go:123", after := #[], guard := none }) (v := ?_) rfl (by kernel_rfl) (by kernel_rfl) (by kernel_rfl) (fun _ _ _ h => h) (Or.inl ⟨by kernel_rfl, ?_⟩) hHeld ?_
  rotate_left
  · intro w9 hSw; (try dsimp only at hSw); go_simp; try with_reducible rfl
  simp only [Act.put, List.setIfInBounds_toArray, List.set_cons_zero, List.set_cons_succ]
  refine wpAnyH_take (i := 1) (oi := { dst := some 6, op := Op.load 3 (Operand.tmp 5), type := 3, pos := "queue.go:123", after := #[{ on := 0, ground := Ground.data }], guard := none }) (v := ?_) rfl (by kernel_rfl) (by kernel_rfl) (by kernel_rfl) (fun _ _ _ h => h) (Or.inl ⟨by kernel_rfl, ?_⟩) hHeld ?_
  rotate_left
  · intro w9 hSw; (try dsimp only at hSw); go_simp; try with_reducible rfl
  simp only [Act.put, List.setIfInBounds_toArray, List.set_cons_zero, List.set_cons_succ]
  refine wpAnyH_take (i := 2) (oi := { dst := some 7, op := Op.fieldAddr 28 (Operand.tmp 2) 1, type := 0, pos := "queue.go:123", after := #[], guard := none }) (v := ?_) rfl (by kernel_rfl) (by kernel_rfl) (by kernel_rfl) (fun _ _ _ h => h) (Or.inl ⟨by kernel_rfl, ?_⟩) hHeld ?_
  rotate_left
  · intro w9 hSw; (try dsimp only at hSw); go_simp; try with_reducible rfl
  simp only [Act.put, List.setIfInBounds_toArray, List.set_cons_zero, List.set_cons_succ]
  refine wpAnyH_take (i := 3) (oi := { dst := some 8, op := Op.load 26 (Operand.tmp 7), type := 26, pos := "queue.go:123", after := #[{ on := 2, ground := Ground.data }], guard := none }) (v := ?_) rfl (by kernel_rfl) (by kernel_rfl) (by kernel_rfl) (fun _ _ _ h => h) (Or.inl ⟨by kernel_rfl, ?_⟩) hHeld ?_
  rotate_left
  · intro w9 hSw; (try dsimp only at hSw); go_simp; try with_reducible rfl
  simp only [Act.put, List.setIfInBounds_toArray, List.set_cons_zero, List.set_cons_succ]
  refine wpAnyH_take (i := 4) (oi := { dst := some 9, op := Op.move (Operand.tmp 1), type := 3, pos := "queue.go:123", after := #[], guard := none }) (v := ?_) rfl (by kernel_rfl) (by kernel_rfl) (by kernel_rfl) (fun _ _ _ h => h) (Or.inl ⟨by kernel_rfl, ?_⟩) hHeld ?_
  rotate_left
  · intro w9 hSw; (try dsimp only at hSw); go_simp; try with_reducible rfl
  simp only [Act.put, List.setIfInBounds_toArray, List.set_cons_zero, List.set_cons_succ]
  refine wpAnyH_take (i := 5) (oi := { dst := some 10, op := Op.slice 26 (Operand.tmp 8) none (some (Operand.tmp 9)) none, type := 26, pos := "queue.go:123", after := #[{ on := 3, ground := Ground.data }, { on := 4, ground := Ground.data }], guard := none }) (v := ?_) rfl (by kernel_rfl) (by kernel_rfl) (by kernel_rfl) (fun _ _ _ h => h) (Or.inl ⟨by kernel_rfl, ?_⟩) hHeld ?_
  rotate_left
  · intro w9 hSw; (try dsimp only at hSw); go_simp; try with_reducible rfl
  simp only [Act.put, List.setIfInBounds_toArray, List.set_cons_zero, List.set_cons_succ]
  refine wpAnyH_take (i := 6) (oi := { dst := some 11, op := Op.fieldAddr 28 (Operand.tmp 2) 1, type := 0, pos := "queue.go:123", after := #[], guard := none }) (v := ?_) rfl (by kernel_rfl) (by kernel_rfl) (by kernel_rfl) (fun _ _ _ h => h) (Or.inl ⟨by kernel_rfl, ?_⟩) hHeld ?_
  rotate_left
  · intro w9 hSw; (try dsimp only at hSw); go_simp; try with_reducible rfl
  simp only [Act.put, List.setIfInBounds_toArray, List.set_cons_zero, List.set_cons_succ]
  refine wpAnyH_take (i := 7) (oi := { dst := some 12, op := Op.load 26 (Operand.tmp 11), type := 26, pos := "queue.go:123", after := #[{ on := 6, ground := Ground.data }], guard := none }) (v := ?_) rfl (by kernel_rfl) (by kernel_rfl) (by kernel_rfl) (fun _ _ _ h => h) (Or.inl ⟨by kernel_rfl, ?_⟩) hHeld ?_
  rotate_left
  · intro w9 hSw; (try dsimp only at hSw); go_simp; try with_reducible rfl
  simp only [Act.put, List.setIfInBounds_toArray, List.set_cons_zero, List.set_cons_succ]
  refine wpAnyH_take (i := 8) (oi := { dst := some 13, op := Op.move (Operand.tmp 1), type := 3, pos := "queue.go:123", after := #[], guard := none }) (v := ?_) rfl (by kernel_rfl) (by kernel_rfl) (by kernel_rfl) (fun _ _ _ h => h) (Or.inl ⟨by kernel_rfl, ?_⟩) hHeld ?_
  rotate_left
  · intro w9 hSw; (try dsimp only at hSw); go_simp; try with_reducible rfl
  simp only [Act.put, List.setIfInBounds_toArray, List.set_cons_zero, List.set_cons_succ]
  refine wpAnyH_take (i := 9) (oi := { dst := some 14, op := Op.binOp BinOp.add 3 (Operand.tmp 13) (Operand.const (Value.int IntKind.i64 1)) 3, type := 3, pos := "queue.go:123", after := #[{ on := 8, ground := Ground.data }], guard := none }) (v := ?_) rfl (by kernel_rfl) (by kernel_rfl) (by kernel_rfl) (fun _ _ _ h => h) (Or.inl ⟨by kernel_rfl, ?_⟩) hHeld ?_
  rotate_left
  · intro w9 hSw; (try dsimp only at hSw); go_simp; try with_reducible rfl
  simp only [Act.put, List.setIfInBounds_toArray, List.set_cons_zero, List.set_cons_succ]
  refine wpAnyH_take (i := 10) (oi := { dst := some 15, op := Op.slice 26 (Operand.tmp 12) (some (Operand.tmp 14)) none none, type := 26, pos := "queue.go:123", after := #[{ on := 7, ground := Ground.data }, { on := 9, ground := Ground.data }], guard := none }) (v := ?_) rfl (by kernel_rfl) (by kernel_rfl) (by kernel_rfl) (fun _ _ _ h => h) (Or.inl ⟨by kernel_rfl, ?_⟩) hHeld ?_
  rotate_left
  · intro w9 hSw; (try dsimp only at hSw); go_simp; try with_reducible rfl
  simp only [Act.put, List.setIfInBounds_toArray, List.set_cons_zero, List.set_cons_succ]
  refine wpAnyH_ready (rs := [11]) (by kernel_rfl) (by simp) ?_
  refine AllReadyH.cons (o := { dst := some 16, op := Op.buildSlice 75 2 #[(0, Operand.tmp 10), (1, Operand.tmp 15)], type := 75, pos := "queue.go:123", after := #[{ on := 5, ground := Ground.data }, { on := 10, ground := Ground.data }], guard := none }) rfl (fun K hK => ?_) AllReadyH.nil
  go_simp
  skip
  refine hK.out _ _ (skW ((HB.out.alloc HB.out.size _).drew) (X0.out.alloc _).drew) (fun hHeld => ?_)
  clear hK K
  try simp only [Act.put, List.setIfInBounds_toArray, List.set_cons_zero, List.set_cons_succ]
  refine wpAnyH_ready (rs := [12]) (by kernel_rfl) (by simp) ?_
  refine AllReadyH.cons (o := { dst := some 17, op := Op.call { callee := Callee.value (Operand.func 30), args := #[Operand.tmp 16], argTypes := #[75] }, type := 26, pos := "queue.go:123", after := #[{ on := 11, ground := Ground.data }], guard := none }) rfl (fun K hK => ?_) AllReadyH.nil
  go_simp
  refine (concat2_is W.heap.size A k c (l.take k) A2 (n - m) c2 (l.drop m) (W.alloc (.cells #[.slice A k c, .slice A2 (n - m) c2] 26)).drew (new_block W _ _ rfl) (HA.out.alloc _).drew (HC.out.alloc _).drew (by have := HM.out; omega)).mono ?_; rintro e w3 ⟨A3, c3, rfl, hi3, hb3, hf3⟩; have HB3 := Lib.hid (below_then ((HB.out.alloc HB.out.size _).drew) hb3); have HI3 := Lib.hid hi3; have HF3 := Lib.hid hf3; have X0 := Lib.hid ((X0.out.alloc _).drew.keep hb3); have X1 := Lib.hid ((X1.out.alloc _).drew.keep hb3); clear hb3 hi3 hf3 qa qb qfa qfb ql y0 y1 yf0 yf1 yl; have qa := X0.out.c0; have qb := X0.out.c1; have qfa := X0.out.f 0; have qfb := X0.out.f 1; have ql := X0.out.lt; have y0 := X1.out.c0; have y1 := X1.out.c1; have yf0 := X1.out.f 0; have yf1 := X1.out.f 1; have yl := X1.out.lt; have Z := Lib.hid (X1.out.set N A3 (k + (n - m)) c3); have z0 := Z.out.c0; have z1 := Z.out.c1
  refine hK.out _ _ (skW HB3.out X0.out) (fun hHeld => ?_)
  clear hK K
  try simp only [Act.put, List.setIfInBounds_toArray, List.set_cons_zero, List.set_cons_succ]
  refine wpAnyH_take (i := 13) (oi := { dst := some 18, op := Op.build 28 #[(0, Operand.tmp 6), (1, Operand.tmp 17)], type := 28, pos := "queue.go:123", after := #[{ on := 1, ground := Ground.data }, { on := 12, ground := Ground.data }], guard := none }) (v := ?_) rfl (by kernel_rfl) (by kernel_rfl) (by kernel_rfl) (fun _ _ _ h => h) (Or.inl ⟨by kernel_rfl, ?_⟩) hHeld ?_
  rotate_left
  · intro w9 hSw; (try dsimp only at hSw); go_simp; try with_reducible rfl
  simp only [Act.put, List.setIfInBounds_toArray, List.set_cons_zero, List.set_cons_succ]
  refine wpAnyH_ready (rs := [14]) (by kernel_rfl) (by simp) ?_
  refine AllReadyH.cons (o := { dst := none, op := Op.store 28 (Operand.tmp 4) (Operand.tmp 18), type := 0, pos := "queue.go:123", after := #[{ on := 13, ground := Ground.data }, { on := 12, ground := Ground.chain }, { on := 0, ground := Ground.phase }, { on := 1, ground := Ground.phase }, { on := 2, ground := Ground.phase }, { on := 3, ground := Ground.phase }, { on := 4, ground := Ground.phase }, { on := 5, ground := Ground.phase }, { on := 6, ground := Ground.phase }, { on := 7, ground := Ground.phase }, { on := 8, ground := Ground.phase }, { on := 9, ground := Ground.phase }, { on := 10, ground := Ground.phase }, { on := 11, ground := Ground.phase }, { on := 12, ground := Ground.phase }, { on := 13, ground := Ground.phase }], guard := none }) rfl (fun K hK => ?_) AllReadyH.nil
  go_simp
  skip
  refine hK.out _ _ (skW (below_set (below_set HB3.out (Nat.le_succ _) _) (Nat.le_succ _) _) ((X0.out.other (by simp) _).other (by simp) _)) (fun hHeld => ?_)
  clear hK K
  try simp only [Act.put, List.setIfInBounds_toArray, List.set_cons_zero, List.set_cons_succ]
  refine wpAnyH_done (by kernel_rfl) ?_ _
  go_wp2
  refine bodyPost_ret (v := .agg #[.int .i64 N, .slice A3 (k + (n - m)) c3]) (by simp [results, Try.results33, go_sem, z0, z1]) rfl ⟨A3, _, c3, rfl, ?_, below_set (below_set HB3.out (Nat.le_succ _) _) (Nat.le_succ _) _, HF3.out.born (by simp; omega)⟩
  have hi := (HI3.out.set_ (g := w.heap.size + 1) (HF3.out.ne (by simp; omega)) 0 (.int .i64 N)).set_ (g := w.heap.size + 1) (HF3.out.ne (by simp; omega)) 1 (.slice A3 (k + (n - m)) c3)
  exact hi.as (by rw [HM.out]; rfl)

theorem taken_at (N : Int) (A : Option Addr) (n c : Nat) (l : List It) (N1 : Int) (l1 : List It) (w : World) (hn : n ≤ 4611686018427387904) (h : Its w A n c l) (hN : tkN N l = N1) (hl : tkL N l = l1) :
    Calls Try.prog 25 #[.agg #[.int .i64 N, .slice A n c]] w (QPost A n N1 l1 w) := by
  subst hN hl
  exact taken_is N A n c l w hn h

end Go.Proofs.Ytoklocbdifefcaa
