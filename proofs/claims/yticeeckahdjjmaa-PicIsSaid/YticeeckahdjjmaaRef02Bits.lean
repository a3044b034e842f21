/-
  What the document calls bits of layer 2: the 128 digits of two of a double, the lowest first, in a row of their own. Of what was there nothing changes.
-/
import Derived.Test.YticeeckahdjjmaaRef01Makes
import Derived.Test.YticeeckahdjjmaaKeeps
import Derived.Test.YticeeckahdjjmaaDblCmp
import Derived.OwnWalk
namespace Go.Proofs.Yticeeckahdjjmaa
open Go.RowKit

/-- Digit j of two of a whole number. -/
def dig (x : Int) (j : Nat) : Int := x / 2 ^ j % 2
theorem dig_mod (x p c : Int) (hp : 0 < p) : x % (p * (2 * c)) / p % 2 = x / p % 2 := by
  have h := Int.mul_ediv_add_emod x (p * (2 * c))
  generalize x / (p * (2 * c)) = q at h
  have e : x % (p * (2 * c)) = x + (2 * -(c * q)) * p := by
    have : (2 * -(c * q)) * p = -(p * (2 * c) * q) := by grind
    omega
  rw [e, Int.add_mul_ediv_right _ _ (by omega), Int.add_mul_emod_self_left]
theorem dig_lo (x : Int) (j : Nat) (hj : j < 64) : bitZ (dLo x) j = dig x j := by
  rw [bitZ_in (by omega) (by omega), dLo_mod, Int.toNat_natCast]
  unfold dig
  obtain ⟨c, hc⟩ := pow_dvd (k := j + 1) (by omega)
  rw [hc, Int.pow_succ, Int.mul_assoc]
  exact dig_mod x _ c (pow_pos' j)
theorem dig_hi (x : Int) (j : Nat) (hj : j < 64) : bitZ (dHi x) j = dig x (64 + j) := by
  rw [bitZ_in (by omega) (by omega), dHi_mod, Int.toNat_natCast]
  unfold dig
  obtain ⟨c, hc⟩ := pow_dvd (k := j + 1) (by omega)
  rw [show (2 : Int) ^ (64 + j) = 18446744073709551616 * 2 ^ j by rw [Int.pow_add]; rfl, ← Int.ediv_ediv_of_nonneg (by decide)]
  generalize x / 18446744073709551616 = y
  rw [hc, Int.pow_succ, Int.mul_assoc]
  exact dig_mod y _ c (pow_pos' j)
/-- The n cells of block B are numbers z. -/
def Row (w : World) (B n : Nat) (z : Nat → Int) : Prop := ∀ j, j < n → w.cell? ⟨B, j, none⟩ = some (.int .i64 (z j))
def digs (x : Int) (k : Nat) : List Value := (List.range k).map fun j => .int .i64 (dig x j)
theorem digs_succ (x : Int) (k : Nat) : digs x (k + 1) = digs x k ++ [.int .i64 (dig x k)] := by unfold digs; rw [List.range_succ, List.map_append]; rfl
/-- What bits leaves: 128 digits in a row of its own. -/
def BitsPost (x : Int) (w : World) (e : Ending) (w' : World) : Prop :=
  ∃ g cap, e = .returned (.slice (some ⟨g, 0, none⟩) 128 cap) ∧ w.heap.size ≤ g ∧ g < w'.heap.size ∧ Row w' g 128 (dig x) ∧ Keeps w w'
/-- What holds while bits goes on: k digits are laid. -/
def BitsRel (x : Int) (w : World) (k : Nat) (v : Value) (wr : World) : Prop :=
  wr.ownsRow (w.heap.size + 1) 3 1 v k (digs x k) ∧ Keeps (w.alloc (.cells #[.int .i64 (dLo x), .int .i64 (dHi x)] 24)) wr
theorem bits_own {x : Int} {w wr w1 : World} {k : Nat} {v v' : Value} (h : BitsRel x w k v wr) {o : Obj} (hown : w1.ownsRow (w.heap.size + 1) 3 1 v' (k + 1) (digs x k ++ [.int .i64 (dig x k)])) (hg : (wr.alloc o).grownBy w1 v.ownBlock) : BitsRel x w (k + 1) v' w1 := by
  refine ⟨by rw [digs_succ]; exact hown, (h.2.alloc o).grownBy hg (fun i hi => ?_)⟩
  rcases h.1.2 with ⟨rfl, _⟩ | ⟨g, cap, cur, rfl, hb, _⟩
  · simp [Value.ownBlock] at hi
  · simp [Value.ownBlock] at hi; subst hi; simp; omega
theorem bits_end {x : Int} {w wr : World} {v : Value} (h : BitsRel x w 128 v wr) : BitsPost x w (.returned v) wr := by
  rcases h.1.2 with ⟨_, h0⟩ | ⟨g, cap, cur, rfl, hb, hg, hn, hc, hs, ht⟩
  · exact absurd h0 (by decide)
  · refine ⟨g, cap, rfl, by omega, ?_, ?_, ((Keeps.refl w).alloc _).trans h.2⟩
    · exact (Array.getElem?_eq_some_iff.1 hg).1
    · intro j hj
      have e : cur.toList[j]? = some (.int .i64 (dig x j)) := by
        have h1 : (cur.toList.take (128 * 1))[j]? = cur.toList[j]? := List.getElem?_take_of_lt (by omega)
        rw [← h1, ht]
        unfold digs
        simp [hj]
      have e' : cur[j]? = some (.int .i64 (dig x j)) := by simpa using e
      simp [World.cell?, hg, e']
theorem info_int : (Try.prog.info? 3).map (fun i => (i.zero, i.size, i.bytes)) = some (some (.int .i64 0), 1, 8) := by kernel_rfl
set_option maxHeartbeats 1600000 in
set_option maxRecDepth 100000 in
theorem bits2_any (x : Int) (w : World) : Calls Try.prog 67 #[.agg #[.int .i64 (dLo x), .int .i64 (dHi x)]] w (BitsPost x w) := by
  obtain ⟨i0, hi, hz0, hz1, hz2⟩ := info_parts info_int
  have HI := Lib.hid hi
  have HZ := Lib.hid (And.intro hz0 (And.intro hz1 hz2))
  clear hi hz0 hz1 hz2
  go_enter Try.func67, Try.ntmps67
  go_wp2
  go_loopw [3, 4] (fun v i wr => ∃ k : Nat, k ≤ 64 ∧ i = .int .i64 k ∧ BitsRel x w k v wr) (fun _ i _ => 64 - (intOf i).toNat)
  case atStart => exact ⟨0, by omega, rfl, World.ownsRow_nil _ _ _ _, Keeps.refl _⟩
  case round =>
    obtain ⟨k, hk, rfl, HR⟩ := hrel
    by_cases hlt : k < 64
    · have c0 : wr.cell? ⟨w.heap.size, 0, none⟩ = some (.int .i64 (dLo x)) := HR.2.cell_some (by simp) (by simp [go_sem])
      have hb : bitZ (dLo x) k = dig x k := dig_lo x k hlt
      go_wp2_with (first
        | (at_builtin; refine wpList_append_own _ rfl _ _ 78 rfl (w.heap.size + 1) 3 i0 (.int .i64 0) 1 8 Try.underlying78 HI.out HZ.out.1 HZ.out.2.1 HZ.out.2.2 rfl (by decide) _ _ _ rfl (HR.1.alloc _) ⟨wr.heap.size, 0, none⟩ 1 1 [.int .i64 (dig x k)] rfl rfl ?c1 ?c2 ?c3 ?c4 ?c5 ?_)
        | (go_at_call 76; refine (bit_any _ _ _).mono ?_; rintro e w' ⟨rfl, rfl⟩))
      case c1 =>
        intro j u hj
        match j, hj with
        | 0, hj => simp at hj; subst hj; simp [Addr.add]
      case c2 => intro u hu; simp at hu; subst hu; rfl
      case c3 => unfold maxLen; omega
      case c4 => omega
      case c5 => have := HR.2.size; simp at this; simp; omega
      · intro v' w1 hown' hgrow _
        have R := bits_own HR hown' hgrow
        clear hown' hgrow HR c0
        go_wp2
        go_roundw
        case rel => exact ⟨k + 1, by omega, by go_num, R⟩
        case measure => simp [intOf]; omega
    · obtain rfl : k = 64 := by omega
      rw [show ((64 : Nat) : Int) = (64 : Int) from rfl]
      go_wp2
      go_loopw [3, 5] (fun v i wr => ∃ k : Nat, k ≤ 64 ∧ i = .int .i64 k ∧ BitsRel x w (64 + k) v wr) (fun _ i _ => 64 - (intOf i).toNat)
      case atStart => exact ⟨0, by omega, rfl, HR⟩
      case round =>
        clear HR
        obtain ⟨k, hk, rfl, HR⟩ := hrel
        by_cases hlt : k < 64
        · have c0 : wr.cell? ⟨w.heap.size, 1, none⟩ = some (.int .i64 (dHi x)) := HR.2.cell_some (by simp) (by simp [go_sem])
          have hb : bitZ (dHi x) k = dig x (64 + k) := dig_hi x k hlt
          go_wp2_with (first
            | (at_builtin; refine wpList_append_own _ rfl _ _ 78 rfl (w.heap.size + 1) 3 i0 (.int .i64 0) 1 8 Try.underlying78 HI.out HZ.out.1 HZ.out.2.1 HZ.out.2.2 rfl (by decide) _ _ _ rfl (HR.1.alloc _) ⟨wr.heap.size, 0, none⟩ 1 1 [.int .i64 (dig x (64 + k))] rfl rfl ?d1 ?d2 ?d3 ?d4 ?d5 ?_)
            | (go_at_call 76; refine (bit_any _ _ _).mono ?_; rintro e w' ⟨rfl, rfl⟩))
          case d1 =>
            intro j u hj
            match j, hj with
            | 0, hj => simp at hj; subst hj; simp [Addr.add]
          case d2 => intro u hu; simp at hu; subst hu; rfl
          case d3 => unfold maxLen; omega
          case d4 => omega
          case d5 => have := HR.2.size; simp at this; simp; omega
          · intro v' w1 hown' hgrow _
            have R := bits_own HR hown' hgrow
            clear hown' hgrow HR c0
            go_wp2
            go_roundw
            case rel => exact ⟨k + 1, by omega, by go_num, R⟩
            case measure => simp [intOf]; omega
        · obtain rfl : k = 64 := by omega
          go_wp2
          go_ret
          exact bits_end HR
end Go.Proofs.Yticeeckahdjjmaa
