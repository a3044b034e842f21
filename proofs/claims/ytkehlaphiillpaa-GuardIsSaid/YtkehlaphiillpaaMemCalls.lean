/-
  What the inner calls of package mem answer: there, fault, with, parts, joined, same; and New.
-/
import Derived.Test.YtkehlaphiillpaaMemHeld
import Derived.Test.YtkehlaphiillpaaCellCalls
import Derived.Lib.Hide
import Derived.WalkMore
namespace Go.Proofs.Ytkehlaphiillpaa
open Go.RowKit

theorem ret_bool {a b : Bool} (h : a = b) : Ending.returned (.bool a) = .returned (.bool b) := by rw [h]
set_option maxHeartbeats 400000 in
theorem there_any (A : Option Addr) (n c : Nat) (a k : Int) (w : World) (hn : n ≤ 1000000) (ha : InC a) :
    Calls Try.prog 37 #[.slice A n c, .int .i64 a, .int .i64 k] w fun e w' => e = .returned (.bool (thB n a k)) ∧ w = w' := by
  unfold InC at ha
  obtain ⟨h1, h2⟩ := ha
  by_cases h0 : 0 ≤ a
  · by_cases h3 : 0 ≤ k
    · have hd : decide (0 ≤ a) = true := decide_eq_true h0
      have hk : decide (0 ≤ k) = true := decide_eq_true h3
      go_enter Try.func37, Try.ntmps37
      go_wp2
      go_ret
      exact ⟨ret_bool (by simp [thB, h0, h3]), rfl⟩
    · have hd : decide (0 ≤ a) = true := decide_eq_true h0
      have hk : decide (0 ≤ k) = false := decide_eq_false h3
      go_enter Try.func37, Try.ntmps37
      go_wp2
      go_ret
      exact ⟨ret_bool (by unfold thB; exact (decide_eq_false (by omega)).symm), rfl⟩
  · have hd : decide (0 ≤ a) = false := decide_eq_false h0
    go_enter Try.func37, Try.ntmps37
    go_wp2
    go_ret
    exact ⟨ret_bool (by unfold thB; exact (decide_eq_false (by omega)).symm), rfl⟩
set_option maxHeartbeats 400000 in
theorem mfault_any (A : Option Addr) (n c : Nat) (a : Int) (w : World) (hn : n ≤ 1000000) (ha : InC a) :
    Calls Try.prog 30 #[.slice A n c, .int .i64 a] w fun e w' => e = .returned (.int .i64 (mE n a)) ∧ w = w' := by
  cases ht : thB n a 8
  · go_enter Try.func30, Try.ntmps30
    go_wp2_with (go_at_call 37; refine (there_any _ _ _ _ _ _ hn ha).mono ?_; rintro e w' ⟨rfl, rfl⟩)
    go_ret
    exact ⟨ret_int (by simp [mE, ht]), rfl⟩
  · have h8 : cAl a = a ↔ a % 8 = 0 := by
      obtain ⟨i, m, rfl, _, _⟩ := thB_yes ht
      exact al_small (by omega)
    by_cases hz : a % 8 = 0
    · have he : (cAl a != a) = false := by rw [h8.2 hz]; simp
      clear h8
      go_enter Try.func30, Try.ntmps30
      go_wp2_with (first | (go_at_call 37; refine (there_any _ _ _ _ _ _ hn ha).mono ?_; rintro e w' ⟨rfl, rfl⟩) | (go_at_call 38; refine (aligned_any _ _).mono ?_; rintro e w' ⟨rfl, rfl⟩))
      go_ret
      exact ⟨ret_int (by simp [mE, ht, hz]), rfl⟩
    · have he : (cAl a != a) = true := by simp only [bne_iff_ne, ne_eq]; exact fun e => hz (h8.1 e)
      clear h8
      go_enter Try.func30, Try.ntmps30
      go_wp2_with (first | (go_at_call 37; refine (there_any _ _ _ _ _ _ hn ha).mono ?_; rintro e w' ⟨rfl, rfl⟩) | (go_at_call 38; refine (aligned_any _ _).mono ?_; rintro e w' ⟨rfl, rfl⟩))
      go_ret
      exact ⟨ret_int (by simp [mE, ht, hz]), rfl⟩

theorem info8 : (Try.prog.info? 5).map (fun i => (i.zero, i.size, i.bytes)) = some (some (.int .u8 0), 1, 1) := by kernel_rfl
theorem one8 : (Try.prog.info? 5).map (·.size) = some 1 := by kernel_rfl
theorem made8 (n : Nat) : madeCells #[Value.int .u8 0] n = (cellsOf (List.replicate n 0)).toArray := by
  apply Array.ext_getElem?
  intro j
  by_cases h : j < n
  · simp [madeCells, cellsOf, h, Nat.mod_one]
  · simp [madeCells, cellsOf, h]
/-- The end of a row from a place on. -/
theorem cutTail (g n i : Nat) (hi : i ≤ n) : ∃ D, (∀ W : World, (Instr.slice 22 (.slice (some ⟨g, 0, none⟩) n n) (some (.int .i64 (i : Int))) none none).run Try.prog W = .ok (.slice D (n - i) (n - i)) W) ∧ (i < n → D = some ⟨g, i, none⟩) := by
  refine ⟨if n = i then some ⟨g, 0, none⟩ else some ⟨g, i, none⟩, fun W => ?_, fun h => if_neg (by omega)⟩
  rw [run_slice_l (P := Try.prog) W 22 _ n n under8 .i64 (i : Int) (by omega) (by omega), elem8, size8]
  show Result.ok (sliced (some ⟨g, 0, none⟩) (i : Int).toNat n n 1) W = _
  unfold sliced
  simp [Addr.add_lit]
theorem splice_all {α : Type} (z l : List α) (h : z.length = l.length) : splice z 0 l = l := by unfold splice; simp [h]
theorem Mem.src {w : World} {A : Option Addr} {n c : Nat} {l : List UInt8} (h : Mem w A n c l) (h0 : 0 < (cellsOf l).length) : ∃ ad, A = some ad ∧ ∀ j v, (cellsOf l)[j]? = some v → w.cell? (ad.add j) = some v := by
  rw [cellsOf_length] at h0
  obtain ⟨b, o, rfl, _, hc⟩ := h.2.2 (by have := h.1; omega)
  refine ⟨_, rfl, fun j v hv => ?_⟩
  obtain ⟨hj, rfl⟩ := cellsOf_get hv
  rw [Addr.add_lit]
  exact hc j hj
theorem copyLen (a b : Nat) (l : List UInt8) (h : l.length = a) (hab : a ≤ b) : (cellsOf l).length = Nat.min a b := by
  rw [cellsOf_length, h]; exact (Nat.min_eq_left hab).symm
set_option maxHeartbeats 1000000 in
theorem with_any (A O : Option Addr) (n c k co i : Nat) (l lo : List UInt8) (w : World) (hm : Mem w A n c l) (ho : Mem w O k co lo) (hi : i + k ≤ n) (hn : n ≤ 1000000) :
    Calls Try.prog 33 #[.slice A n c, .int .i64 (i : Int), .slice O k co] w fun e w' => e = .returned (.slice (some ⟨w.heap.size, 0, none⟩) n n) ∧ Mem w' (some ⟨w.heap.size, 0, none⟩) n n (splice l i lo) ∧ Below w.heap.size w w' := by
  have hmk := fun W => run_make_row' (P := Try.prog) 22 5 (.int .u8 0) 1 Try.underlying22 info8 rfl .i64 .i64 n (by omega) (by omega) W
  obtain ⟨D, hcut, hD⟩ := cutTail w.heap.size n i (by omega)
  have HM := Lib.hid hm
  have HO := Lib.hid ho
  have HD := Lib.hid hD
  clear hm ho hD
  have HZ : Hid ((w.alloc (.cells (madeCells #[Value.int .u8 0] n) 5)).heap[w.heap.size]? = some (.cells (cellsOf (List.replicate n 0)).toArray 5 (0, 0))) := by
    rw [made8]; exact heap_alloc_new w _
  go_enter Try.func33, Try.ntmps33
  go_wp2_with (first
    | ((with_reducible refine wpList_copy_splice (o := ⟨some 13, _, _, _, _, _⟩) rfl (.tmp 11) (.tmp 12) 22 22 rfl 5 Try.underlying22 one8 (some ⟨w.heap.size, 0, none⟩) A n n n c rfl rfl w.heap.size 0 (cellsOf (List.replicate n 0)) 5 HZ.out (cellsOf l) (copyLen n n l HM.out.len (Nat.le_refl _)) (fun h0 => ⟨rfl, (HM.out.alloc _).src h0⟩) (by rw [cellsOf_length, cellsOf_length, HM.out.len]; simp) (cellsOf_one l) w.heap.size w ((Below.refl _ _).alloc (Nat.le_refl _) _) (Nat.le_refl _) ?_); intro w2 HG2 HB2; have HW := Lib.hid HB2; clear HB2)
    | ((with_reducible refine wpList_copy_splice (o := ⟨some 18, _, _, _, _, _⟩) rfl (.tmp 16) (.tmp 17) 22 22 rfl 5 Try.underlying22 one8 D O (n - i) (n - i) k co rfl rfl w.heap.size i (splice (cellsOf (List.replicate n 0)) 0 (cellsOf l)) 5 HG2.out (cellsOf lo) (copyLen k (n - i) lo HO.out.len (by omega)) (fun h0 => ⟨HD.out (by rw [cellsOf_length, HO.out.len] at h0; omega), (HO.out.below HW.out).src h0⟩) (by rw [splice_all _ _ (by rw [cellsOf_length, cellsOf_length, HM.out.len]; simp), cellsOf_length, cellsOf_length, HM.out.len, HO.out.len]; omega) (cellsOf_one lo) w.heap.size w HW.out (Nat.le_refl _) ?_); intro w3 HG3 HB3))
  go_ret
  refine ⟨rfl, ?_, HB3⟩
  have h3 := HG3.out
  rw [splice_all _ _ (by rw [cellsOf_length, cellsOf_length, HM.out.len]; simp), ← cellsOf_splice] at h3
  have h4 := Mem.of_block h3
  rwa [length_splice _ _ _ (by rw [HM.out.len, HO.out.len]; omega), HM.out.len] at h4
end Go.Proofs.Ytkehlaphiillpaa
