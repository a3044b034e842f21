/-
  What the call number of package num answers: the number of a text of digits, going round as a double; 0 and false, if one sign is no digit, or there is none.
-/
import Derived.Test.YthifehekhcmldaaDoorNumTimes
import Derived.Lib.OthersKept
namespace Go.Proofs.YthifehekhcmldaaDoor
open Go.RowKit

/-- The result's block, the number's, and how far the text has come. -/
def NumIn (w : World) (S : ByteArray) (x : Int) (k : Nat) (wr : World) : Prop :=
  wr.heap[w.heap.size + 2]? = some (.stringIter S k) ∧ Keeps w wr ∧
    (wr.cell? ⟨w.heap.size, 0, none⟩ = some (.int .i64 0) ∧ wr.cell? ⟨w.heap.size, 1, none⟩ = some (.int .i64 0) ∧ wr.frozen? ⟨w.heap.size, 0, none⟩ = false ∧ wr.frozen? ⟨w.heap.size, 1, none⟩ = false) ∧
    (wr.cell? ⟨w.heap.size + 1, 0, none⟩ = some (.int .i64 (dLo x)) ∧ wr.cell? ⟨w.heap.size + 1, 1, none⟩ = some (.int .i64 (dHi x)) ∧ wr.frozen? ⟨w.heap.size + 1, 0, none⟩ = false ∧ wr.frozen? ⟨w.heap.size + 1, 1, none⟩ = false)
/-- What holds at each round's head: k signs are digits, and their number lies there. -/
def NumSt (w : World) (S : ByteArray) (b : Int) (l : List UInt8) (wr : World) : Prop := ∃ k, k ≤ l.length ∧ dB b (l.take k) = true ∧ NumIn w S (nV b (l.take k)) k wr
theorem keeps_iterAt {w wr : World} (h : Keeps w wr) {k : Nat} (hk : w.heap.size ≤ k) (S : ByteArray) (p : Nat) : Keeps w (wr.iterAt k S p) :=
  ⟨h.os, h.output, by rw [Lib.iterAt_size]; exact h.size, fun i hi => (Lib.iterAt_other wr k i S p (by omega)).trans (h.block i hi)⟩
theorem cell_iterAt {wr : World} {k j o : Nat} (S : ByteArray) (p : Nat) (hj : j ≠ k) : (wr.iterAt k S p).cell? ⟨j, o, none⟩ = wr.cell? ⟨j, o, none⟩ := World.cell?_of_block (w := wr) (Lib.iterAt_other wr k j S p hj)
theorem frozen_iterAt {wr : World} {k j o : Nat} (S : ByteArray) (p : Nat) (hj : j ≠ k) : (wr.iterAt k S p).frozen? ⟨j, o, none⟩ = wr.frozen? ⟨j, o, none⟩ := World.frozen?_of_block (w := wr) (Lib.iterAt_other wr k j S p hj)
theorem NumIn.size {w wr : World} {S : ByteArray} {x : Int} {k : Nat} (h : NumIn w S x k wr) : w.heap.size + 2 < wr.heap.size := (Array.getElem?_eq_some_iff.1 h.1).1
theorem NumIn.next {w wr : World} {S : ByteArray} {x : Int} {k : Nat} (h : NumIn w S x k wr) (q : Nat) : NumIn w S x q (wr.iterAt (w.heap.size + 2) S q) := by
  obtain ⟨hi, hk, hr, hd⟩ := h
  refine ⟨Lib.iterAt_heap wr _ S k q hi, keeps_iterAt hk (by omega) S q, ?_, ?_⟩
  · rw [cell_iterAt S q (by omega), cell_iterAt S q (by omega), frozen_iterAt S q (by omega), frozen_iterAt S q (by omega)]; exact hr
  · rw [cell_iterAt S q (by omega), cell_iterAt S q (by omega), frozen_iterAt S q (by omega), frozen_iterAt S q (by omega)]; exact hd
theorem NumIn.keeps {w wr w' : World} {S : ByteArray} {x : Int} {k : Nat} (h : NumIn w S x k wr) (g : Keeps wr w') : NumIn w S x k w' := by
  have hz := h.size
  obtain ⟨hi, hk, hr, hd⟩ := h
  refine ⟨(g.block _ hz).trans hi, hk.trans g, ?_, ?_⟩
  · rw [g.cell (by omega), g.cell (by omega), g.frozen (by show w.heap.size < _; omega), g.frozen (by show w.heap.size < _; omega)]; exact hr
  · rw [g.cell (by omega), g.cell (by omega), g.frozen (by show w.heap.size + 1 < _; omega), g.frozen (by show w.heap.size + 1 < _; omega)]; exact hd
theorem NumIn.store {w wr : World} {S : ByteArray} {x : Int} {k : Nat} (h : NumIn w S x k wr) (y : Int) : NumIn w S y k ((wr.setCell ⟨w.heap.size + 1, 0, none⟩ (.int .i64 (dLo y))).setCell ⟨w.heap.size + 1, 1, none⟩ (.int .i64 (dHi y))) := by
  obtain ⟨hi, hk, ⟨r0, r1, s0, s1⟩, ⟨d0, d1, f0, f1⟩⟩ := h
  refine ⟨?_, (hk.setCell (by simp) _).setCell (by simp) _, ⟨?_, ?_, ?_, ?_⟩, ⟨?_, ?_, ?_, ?_⟩⟩
  · rw [Below.heap_setCell _ _ _ _ (by simp), Below.heap_setCell _ _ _ _ (by simp)]; exact hi
  all_goals simp [go_sem, r0, r1, s0, s1, d0, d1, f0, f1]
theorem cell_past (w : World) (o : Obj) {j k : Nat} (h : j < w.heap.size) : (w.alloc o).cell? ⟨j, k, none⟩ = w.cell? ⟨j, k, none⟩ := World.cell?_of_block (w := w) (Below.heap_alloc w o j h)
theorem frozen_past (w : World) (o : Obj) {j k : Nat} (h : j < w.heap.size) : (w.alloc o).frozen? ⟨j, k, none⟩ = w.frozen? ⟨j, k, none⟩ := World.frozen?_of_block (w := w) (Below.heap_alloc w o j h)
theorem numSt_start (w : World) (S : ByteArray) (b : Int) (l : List UInt8) (t : TypeId) : NumSt w S b l (((w.alloc (.cells #[.int .i64 0, .int .i64 0] t)).alloc (.cells #[.int .i64 0, .int .i64 0] t)).iter S 0) := by
  refine ⟨0, by omega, rfl, ?_, (((Keeps.refl w).alloc _).alloc _).alloc _, ⟨?_, ?_, ?_, ?_⟩, ?_, ?_, ?_, ?_⟩
  · have := World.iter_heap ((w.alloc (.cells #[.int .i64 0, .int .i64 0] t)).alloc (.cells #[.int .i64 0, .int .i64 0] t)) S 0
    simpa using this
  all_goals unfold World.iter
  · rw [cell_past _ _ (by simp; omega)]; simp [go_sem]
  · rw [cell_past _ _ (by simp; omega)]; simp [go_sem]
  · rw [frozen_past _ _ (by simp; omega)]; simp [go_sem]
  · rw [frozen_past _ _ (by simp; omega)]; simp [go_sem]
  · rw [cell_past _ _ (by simp)]; simp [go_sem, nV]; decide +kernel
  · rw [cell_past _ _ (by simp)]; simp [go_sem, nV]; decide +kernel
  · rw [frozen_past _ _ (by simp)]; simp [go_sem]
  · rw [frozen_past _ _ (by simp)]; simp [go_sem]
theorem ret_db {a b x y : Int} {u v : Bool} (h : a = x) (h' : b = y) (k : u = v) : Ending.returned (.tuple #[.agg #[.int .i64 a, .int .i64 b], .bool u]) = .returned (.tuple #[.agg #[.int .i64 x, .int .i64 y], .bool v]) := by rw [h, h', k]
set_option maxHeartbeats 1000000 in
theorem number_any (l : List UInt8) (b : Int) (w : World) :
    Calls Tryd.prog 22 #[.string ⟨l.toArray⟩, .int .i64 b] w fun e w' => e = .returned (.tuple #[.agg #[.int .i64 (dLo (nX b l)), .int .i64 (dHi (nX b l))], .bool (nB b l)]) ∧ Keeps w w' := by
  obtain ⟨S, hS⟩ : ∃ S : ByteArray, S = ⟨l.toArray⟩ := ⟨_, rfl⟩
  have hz : S.size = l.length := by rw [hS, size_mk]
  have HZ := Lib.hid hz
  have HS := Lib.hid hS
  have HE : Hid ((S.toList == []) = l.isEmpty) := Lib.hid (by rw [hS, ByteArray.toList_mk]; cases l <;> rfl)
  rw [← hS]
  clear hS hz
  go_enter Tryd.func22, Tryd.ntmps22
  go_wp2
  go_loopw [] (fun wr => NumSt w S b l wr) (fun wr => S.size - wr.iterPos (w.heap.size + 2))
  case atStart => exact numSt_start w S b l _
  case round =>
    obtain ⟨k, hk, hd, hin⟩ := hrel
    have hsz := hin.size
    have hit := hin.1
    by_cases hp : k < S.size
    · have hkl : k < l.length := by rw [← HZ.out]; exact hp
      obtain ⟨c, hc⟩ : ∃ c, l[k] = c := ⟨_, rfl⟩
      have hSk : S[k]'hp = c := by rw [← hc]; have := HS.out; subst this; rfl
      have htk : l.take (k + 1) = l.take k ++ [c] := by rw [List.take_succ_eq_append_getElem hkl, hc]
      cases hdg : dgB (c.toNat : Int) b with
      | true =>
        have hc8 : c.toNat < 128 := by have := dgB_byte hdg; omega
        have hbb : baB b = true := by have := dgB_lt hdg; exact baB_iff.2 this.2.2
        have hvc : InC (dgV (c.toNat : Int)) := by have := dgB_lt hdg; unfold InC; omega
        have hst : nV b (l.take (k + 1)) = nV b (l.take k) * b + dgV (c.toNat : Int) := by rw [htk, nV_snoc]
        have hdk : dB b (l.take (k + 1)) = true := by rw [htk, dB_snoc, hd, hdg]; rfl
        have hnx : ∀ ty, (Instr.next (.pointer (some ⟨w.heap.size + 2, 0, none⟩)) true ty).run Tryd.prog wr = .ok (.tuple #[.bool true, .int .i64 k, .int .i32 (c.toNat : Int)]) (wr.iterAt (w.heap.size + 2) S (k + 1)) := fun ty => by rw [Lib.run_next_ascii_at wr (w.heap.size + 2) S k ty hit hp (by rw [hSk]; exact hc8), hSk]
        have hin2 := hin.next (k + 1)
        have HP : Hid (wr.iterPos (w.heap.size + 2) = k) := Lib.hid (by unfold World.iterPos; rw [hit])
        have HD := Lib.hid hdg
        have HX := Lib.hid (dig_yes _ _ hdg)
        have HT := Lib.hid hst
        have HK := Lib.hid hdk
        have HB := Lib.hid hbb
        generalize wr.iterAt (w.heap.size + 2) S (k + 1) = w2 at hnx hin2
        obtain ⟨x, hx⟩ : ∃ x, nV b (l.take k) = x := ⟨_, rfl⟩
        rw [hx] at hin2 HT
        obtain ⟨v, hv⟩ : ∃ v, dgV (c.toNat : Int) = v := ⟨_, rfl⟩
        rw [hv] at HX HT hvc
        clear hdg hbb hst hdk hin hit hd hc hSk htk hx hv
        obtain ⟨_, _, _, d0, d1, f0, f1⟩ := id hin2
        have HI := Lib.hid hin2
        clear hin2
        have hvb : (0 : Int) ≤ (c.toNat : Int) ∧ (c.toNat : Int) ≤ 127 := by omega
        go_wp2_with (first
          | (go_at_call 14; refine (digit_is _ b v true HX.out HD.out _).mono ?_; rintro e w' ⟨rfl, rfl⟩)
          | (go_at_call 32; refine (times_any x b HB.out _).mono ?_; rintro e w3 ⟨rfl, hw3⟩)
          | (go_at_call 16; refine (dof_any v hvc _).mono ?_; rintro e w4 ⟨rfl, hw4⟩)
          | (go_at_call 31; refine (dadd_any (x * b) v _).mono ?_; rintro e w5 ⟨rfl, hw5⟩; have HJ := Lib.hid (((HI.out.keeps (Keeps.of_grown hw3)).keeps (Keeps.of_grown hw4)).keeps (Keeps.of_grown hw5)); obtain ⟨_, _, _, m0, m1, n0, n1⟩ := HJ.out))
        go_roundw
        case rel =>
          have h := HJ.out.store (x * b + v)
          rw [← HT.out] at h
          exact ⟨k + 1, by omega, HK.out, by rw [HT.out] at h ⊢; exact h⟩
        case measure =>
          have h := (HJ.out.store (x * b + v)).1
          have e1 := HP.out
          rw [e1]
          simp only [World.iterPos, h]
          omega
      | false =>
        have hr : dgB ((Utf8.decode S k).1 : Int) b = false := by
          by_cases hc8 : c.toNat < 128
          · rw [decode_ascii S k hp (by rw [hSk]; exact hc8), hSk]; exact hdg
          · exact dgB_far (by have := (decode_high S k hp (by rw [hSk]; omega)).1; omega)
        have hnx : ∀ ty, (Instr.next (.pointer (some ⟨w.heap.size + 2, 0, none⟩)) true ty).run Tryd.prog wr = _ := fun ty => Lib.run_next_any_at wr (w.heap.size + 2) S k ty hit hp
        have hle := decode_le S k
        obtain ⟨r, hr'⟩ : ∃ r : Nat, (Utf8.decode S k).1 = r := ⟨_, rfl⟩
        obtain ⟨q, hq'⟩ : ∃ q : Nat, (Utf8.decode S k).2 = q := ⟨_, rfl⟩
        rw [hr', hq'] at hnx
        rw [hr'] at hle hr
        clear hr' hq'
        have hin2 := hin.next (k + q)
        have HD := Lib.hid hr
        have HX := Lib.hid (dig_no _ _ hr)
        have HN : Hid (nB b l = false) := Lib.hid (by
          have : dB b l = false := by
            rw [← List.take_append_drop (k + 1) l, dB_append, htk, dB_snoc, hdg]; simp
          unfold nB; rw [this]; simp)
        generalize wr.iterAt (w.heap.size + 2) S (k + q) = w2 at hnx hin2
        clear hr hdg hin hit hd hc hSk htk
        obtain ⟨_, hk2, ⟨r0, r1, s0, s1⟩, d0, d1, f0, f1⟩ := id hin2
        have HI := Lib.hid hin2
        clear hin2
        have hvb : (0 : Int) ≤ (r : Int) ∧ (r : Int) ≤ 2147483647 := by omega
        go_wp2_with (go_at_call 14; refine (digit_is _ b _ false HX.out HD.out _).mono ?_; rintro e w' ⟨rfl, rfl⟩)
        refine bodyPost_ret (v := .tuple #[.agg #[.int .i64 0, .int .i64 0], .bool false]) (by simp [results, Tryd.results22, go_sem, r0, r1]) rfl ⟨ret_db ?_ ?_ HN.out.symm, (hk2.setCell (by simp) _).setCell (by simp) _⟩
        · unfold nX; rw [HN.out, if_neg (by decide)]; decide +kernel
        · unfold nX; rw [HN.out, if_neg (by decide)]; decide +kernel
    · have hnx : ∀ ty, (Instr.next (.pointer (some ⟨w.heap.size + 2, 0, none⟩)) true ty).run Tryd.prog wr = _ := fun ty => Lib.run_next_end_at wr (w.heap.size + 2) S k ty hit hp
      have HL : Hid (l.take k = l) := Lib.hid (List.take_of_length_le (by have := HZ.out; omega))
      have HDD := Lib.hid hd
      clear hp hit hd
      obtain ⟨x, hx⟩ : ∃ x, nV b (l.take k) = x := ⟨_, rfl⟩
      have HXX := Lib.hid hx
      rw [hx] at hin
      clear hx
      obtain ⟨_, hk2, ⟨r0, r1, s0, s1⟩, d0, d1, f0, f1⟩ := hin
      go_wp2
      have hnb : nB b l = !l.isEmpty := by
        have h1 := HDD.out
        rw [HL.out] at h1
        unfold nB; rw [h1]; simp
      have hnx : nX b l = x := by
        rw [← HXX.out, HL.out]
        unfold nX; rw [hnb]
        cases l with
        | nil => rfl
        | cons _ _ => rfl
      refine bodyPost_ret (v := .tuple #[.agg #[.int .i64 (dLo x), .int .i64 (dHi x)], .bool (!(S.toList == []))]) (by simp [results, Tryd.results22, go_sem, r0, r1]) rfl ⟨ret_db (by rw [hnx]) (by rw [hnx]) (by rw [hnb, HE.out]), (hk2.setCell (by simp) _).setCell (by simp) _⟩
end Go.Proofs.YthifehekhcmldaaDoor
