/-
  What the calls of package mem that go round answer: parts, same, joined; and New.
-/
import Derived.Test.YtkehlaphiillpaaMemCalls
namespace Go.Proofs.Ytkehlaphiillpaa
open Go.RowKit

/-- A row of bytes that the call has made. -/
def Lay (w : World) (n : Nat) (f : Nat → Int) (wr : World) : Prop := wr.rowIs w.heap.size 5 n (fun j => .int .u8 (f j)) ∧ Below w.heap.size w wr
theorem lay_new (w : World) (n : Nat) : Lay w n (fun _ => 0) (w.alloc (.cells (madeCells #[Value.int .u8 0] n) 5)) :=
  ⟨World.rowIs_made w (.int .u8 0) n 5, (Below.refl _ _).alloc (Nat.le_refl _) _⟩
theorem Lay.congr {w wr : World} {n : Nat} {f g : Nat → Int} (h : Lay w n f wr) (e : ∀ j, j < n → f j = g j) : Lay w n g wr :=
  ⟨h.1.congr fun j hj => by rw [e j hj], h.2⟩
theorem Lay.set {w wr : World} {n : Nat} {f : Nat → Int} (h : Lay w n f wr) (k : Nat) (v : Int) : Lay w n (fun j => if j = k then v else f j) (wr.setCell ⟨w.heap.size, k, none⟩ (.int .u8 v)) :=
  ⟨(h.1.set k (.int .u8 v)).congr fun j _ => by by_cases hj : j = k <;> simp [hj], h.2.setCell (Nat.le_refl _) _⟩
theorem Lay.mem {w wr : World} {n : Nat} {f : Nat → Int} {l : List UInt8} (h : Lay w n f wr) (hl : l.length = n) (e : ∀ j (hj : j < l.length), f j = (l[j].toNat : Int)) : Mem wr (some ⟨w.heap.size, 0, none⟩) n n l :=
  ⟨hl, Nat.le_refl _, fun _ => ⟨_, 0, rfl, h.1.lt, fun j hj => by rw [Nat.zero_add, h.1.cell (by omega), e j hj]⟩⟩

theorem mN_none (l : List UInt8) : wrap64 (mN l 0) = 0 := by unfold mN wrap64; omega
set_option maxHeartbeats 400000 in
theorem joined_any (A : Option Addr) (c : Nat) (l : List UInt8) (w : World) (hm : Mem w A 8 c l) :
    Calls Try.prog 31 #[.slice A 8 c] w fun e w' => e = .returned (.int .i64 (mC l)) ∧ w = w' := by
  obtain ⟨b, o, rfl, hb, hcell⟩ := hm.2.2 (by decide)
  have HL := Lib.hid hm.1
  have HC := Lib.hid hcell
  clear hm hcell
  go_enter Try.func31, Try.ntmps31
  go_wp2
  go_loop [3, 8] (fun x i => ∃ k : Nat, k ≤ 8 ∧ i = .int .i64 k ∧ x = .int .i64 (wrap64 (mN l k))) (fun _ i => (8 - intOf i).toNat)
  case atStart => exact ⟨0, by omega, rfl, by rw [mN_none]⟩
  case round =>
    obtain ⟨k, hk, rfl, rfl⟩ := hrel
    by_cases h8 : k = 8
    · subst h8
      go_wp2
      go_ret
      exact ⟨rfl, rfl⟩
    · have hlt : k < 8 := by omega
      have hc := HC.out k (by rw [HL.out]; exact hlt)
      have HO := Lib.hid (or_byte l k hlt _ (show ((l[k]'(by rw [HL.out]; exact hlt)).toNat : Int) = ((l.getD k 0).toNat : Int) by simp [List.getD, show k < l.length by rw [HL.out]; exact hlt]))
      have hv := u8_lt (l[k]'(by rw [HL.out]; exact hlt))
      generalize hV : ((l[k]'(by rw [HL.out]; exact hlt)).toNat : Int) = V at hc HO
      have h0 : 0 ≤ V := by omega
      have h1 : V ≤ 255 := by omega
      clear hV hv h8
      go_wp2_with (go_at_call 39; refine (shl_any _ _ _).mono ?_; rintro e w' ⟨rfl, rfl⟩)
      go_round
      case rel => exact ⟨k + 1, by omega, by go_num, by rw [HO.out]⟩
      case measure => simp [intOf]; omega

/-- What is laid so far of a cell's bytes. -/
def ptB (x : Int) (k j : Nat) : Int := if j < k then ((mB x).getD j 0).toNat else 0
set_option maxHeartbeats 400000 in
theorem parts_any (x : Int) (w : World) :
    Calls Try.prog 34 #[.int .i64 x] w fun e w' => e = .returned (.slice (some ⟨w.heap.size, 0, none⟩) 8 8) ∧ Mem w' (some ⟨w.heap.size, 0, none⟩) 8 8 (mB x) ∧ Below w.heap.size w w' := by
  have hmk : ∀ W : World, (Instr.makeSlice 22 (.int .i64 8) (.int .i64 8)).run Try.prog W = .ok (.slice (some ⟨W.heap.size, 0, none⟩) 8 8) (W.alloc (.cells (madeCells #[.int .u8 0] 8) 5)) := fun W => run_make_row' (P := Try.prog) 22 5 (.int .u8 0) 1 Try.underlying22 info8 rfl .i64 .i64 8 (by omega) (by omega) W
  go_enter Try.func34, Try.ntmps34
  go_wp2
  go_loopw [8] (fun i wr => ∃ k : Nat, k ≤ 8 ∧ i = .int .i64 k ∧ Lay w 8 (ptB x k) wr) (fun i _ => (8 - intOf i).toNat)
  case atStart => exact ⟨0, by omega, rfl, (lay_new w 8).congr (fun j _ => by unfold ptB; rw [if_neg (by omega)])⟩
  case round =>
    obtain ⟨k, hk, rfl, HF⟩ := hrel
    by_cases h8 : k = 8
    · subst h8
      go_wp2
      go_ret
      exact ⟨rfl, HF.mem (mB_length x) (fun j hj => by unfold ptB; rw [if_pos (by rw [mB_length] at hj; exact hj)]; simp [List.getD, hj]), HF.2⟩
    · have hlt : k < 8 := by omega
      have hc := HF.1.cell hlt
      have hf := HF.1.frozen k
      have HS := Lib.hid ((IntKind.wrap_u8 _).symm.trans (shr_byte x k hlt))
      have HR := Lib.hid ((HF.set k ((mB x).getD k 0).toNat).congr (g := ptB x (k + 1)) (fun j _ => by
        unfold ptB
        by_cases hj : j = k
        · subst hj; rw [if_pos rfl, if_pos (by omega)]
        · rw [if_neg hj]; by_cases h2 : j < k
          · rw [if_pos h2, if_pos (by omega)]
          · rw [if_neg h2, if_neg (by omega)]))
      clear HF h8
      go_wp2_with (go_at_call 41; refine (shr_any _ _ _).mono ?_; rintro e w' ⟨rfl, rfl⟩)
      go_roundw
      case rel => exact ⟨k + 1, by omega, by go_num, by rw [HS.out]; exact HR.out⟩
      case measure => simp [intOf]; omega

/-- What is laid so far of bytes that are the same. -/
def pS (b : UInt8) (k j : Nat) : Int := if j < k then b.toNat else 0
end Go.Proofs.Ytkehlaphiillpaa
