/-
  What Upper answers: the text in capitals, byte by byte; the package's and the document's.
-/
import Derived.Test.YtkpomphjicoaeaaScanCalls
import Derived.Laws.IdiomStrings
namespace Go.Proofs.Ytkpomphjicoaeaa
open Go.RowKit

/-- Block b holds the bytes l, and none of them is frozen. -/
def Byt (w : World) (b : Nat) (l : List UInt8) : Prop := b < w.heap.size ∧ ∀ j (hj : j < l.length), w.cell? ⟨b, j, none⟩ = some (.int .u8 (l[j].toNat : Int)) ∧ w.frozen? ⟨b, j, none⟩ = false
theorem Byt.set {w : World} {b : Nat} {l : List UInt8} (h : Byt w b l) (k : Nat) (c : UInt8) (hk : k < l.length) : Byt (w.setCell ⟨b, k, none⟩ (.int .u8 (c.toNat : Int))) b (l.set k c) := by
  refine ⟨by simpa [World.setCell] using h.1, fun j hj => ?_⟩
  rw [List.length_set] at hj
  rw [World.frozen?_setCell]
  refine ⟨?_, (h.2 j hj).2⟩
  by_cases e : j = k
  · have h0 := (h.2 j hj).1
    subst e
    rw [World.cell?_setCell_same' _ _ _ (by rw [h0]; rfl)]
    simp
  · rw [List.getElem_set_ne (by omega), ← (h.2 j hj).1]
    simp [go_sem]
theorem conv_up (l : List UInt8) (S : ByteArray) (hS : S = ⟨l.toArray⟩) (w : World) : ∃ (c : Nat) (w1 : World), (convert 9 70 (.string S)).run Try.prog w = .ok (.slice (some ⟨w.heap.size, 0, none⟩) S.size c) w1 ∧ Byt w1 w.heap.size l ∧ Below w.heap.size w w1 := by
  refine ⟨_, _, run_bytes_of_string w 9 70 5 S Try.underlying9 Try.underlying70 Try.underlying5, ⟨by simp, fun j hj => ?_⟩, (Below.refl _ w).drew.alloc (Nat.le_refl _) _⟩
  have e := World.cell?_alloc_mark w.drew (bytesRow S (grownCap w S.size 0 5)) 5 ((bytesRow S (grownCap w S.size 0 5)).size, (bytesRow S (grownCap w S.size 0 5)).size + 1) j
  have f := World.frozen?_alloc_mark w.drew (bytesRow S (grownCap w S.size 0 5)) 5 (bytesRow S (grownCap w S.size 0 5)).size ((bytesRow S (grownCap w S.size 0 5)).size + 1) j
  have hz : S.data.size = l.length := by rw [hS]; simp
  have g := bytesRow_at S (grownCap w S.size 0 5) j (by omega)
  refine ⟨e.trans (g.trans ?_), f.trans ?_⟩
  · subst hS; rfl
  · have hlt := (Array.getElem?_eq_some_iff.1 g).1
    rw [decide_eq_false (by omega)]
    rfl
theorem conv_back (w : World) (b c : Nat) (l : List UInt8) (h : Byt w b l) (n : Nat) (hn : n = l.length) (T : ByteArray) (hT : T = ⟨l.toArray⟩) : (convert 70 9 (.slice (some ⟨b, 0, none⟩) n c)).run Try.prog w = .ok (.string T) w := by
  subst hn hT
  exact run_convert_bytes_back w 70 9 5 ⟨b, 0, none⟩ c l Try.underlying70 Try.underlying5 Try.underlying9 (fun j hj => by rw [Addr.add_lit, Nat.zero_add]; exact (h.2 j hj).1)
/-- The first k bytes are in capitals. -/
def upTo (l : List UInt8) (k : Nat) : List UInt8 := (l.take k).map scU ++ l.drop k
theorem upTo_length (l : List UInt8) (k : Nat) : (upTo l k).length = l.length := by unfold upTo; simp; omega
theorem upTo_zero (l : List UInt8) : upTo l 0 = l := by unfold upTo; simp
theorem upTo_end (l : List UInt8) (k : Nat) (h : l.length ≤ k) : upTo l k = l.map scU := by
  unfold upTo
  rw [List.drop_eq_nil_of_le h, List.take_of_length_le h]
  simp
theorem upTo_get (l : List UInt8) (k : Nat) (h : k < l.length) : (upTo l k)[k]'(by rw [upTo_length]; exact h) = l[k] := by
  unfold upTo
  rw [List.getElem_append_right (by simp; omega)]
  simp [Nat.min_eq_left (Nat.le_of_lt h)]
theorem upTo_set (l : List UInt8) (k : Nat) (h : k < l.length) (c : UInt8) (hc : scU l[k] = c) : (upTo l k).set k c = upTo l (k + 1) := by
  unfold upTo
  have h1 : ((l.take k).map scU).length = k := by simp; omega
  rw [List.set_append, if_neg (by omega), h1, Nat.sub_self, List.drop_eq_getElem_cons h, List.set_cons_zero, List.take_succ_eq_append_getElem h, List.map_append, List.append_assoc]
  simp [hc]
theorem upTo_same (l : List UInt8) (k : Nat) (h : k < l.length) (hc : scU l[k] = l[k]) : upTo l k = upTo l (k + 1) := by
  unfold upTo
  rw [List.drop_eq_getElem_cons h, List.take_succ_eq_append_getElem h, List.map_append, List.append_assoc]
  simp [hc]
set_option maxHeartbeats 1000000 in
theorem upper_is (l : List UInt8) (S T : ByteArray) (hS : S = ⟨l.toArray⟩) (hl : l.length ≤ 2000) (hT : T = ⟨(l.map scU).toArray⟩) (w : World) :
    Calls Try.prog 31 #[.string S] w fun e w' => e = .returned (.string T) ∧ Below w.heap.size w w' := by
  have hz : S.size = l.length := by rw [hS, size_mk]
  have hsz : S.size ≤ 2000 := by omega
  obtain ⟨c, w1, hcv, hby, hbe⟩ := conv_up l S hS w
  have HY := Lib.hid hby
  have HB := Lib.hid hbe
  have HZ := Lib.hid hz
  have HT := Lib.hid hT
  clear hby hbe hz hS hT
  go_enter Try.func31, Try.ntmps31
  go_wp2
  clear hcv
  go_loopw [10, 4, 5] (fun t _ _ wr => ∃ k : Nat, t = .int .i64 k ∧ k ≤ S.size ∧ Byt wr w.heap.size (upTo l k) ∧ Below w.heap.size w wr) (fun t _ _ _ => S.size - (intOf t).toNat)
  case atStart => exact ⟨0, rfl, Nat.zero_le _, by rw [upTo_zero]; exact HY.out, HB.out⟩
  case round =>
    obtain ⟨k, rfl, hk, hy, hb⟩ := hrel
    by_cases hp : k < S.size
    · have hml : k < l.length := by rw [← HZ.out]; exact hp
      obtain ⟨d, hd⟩ : ∃ d, l[k] = d := ⟨_, rfl⟩
      have hck := (hy.2 k (by rw [upTo_length]; exact hml)).1
      have hfk := (hy.2 k (by rw [upTo_length]; exact hml)).2
      rw [upTo_get l k hml, hd] at hck
      have HYk := Lib.hid hy
      have HBk := Lib.hid hb
      have hc8 : (0 : Int) ≤ (d.toNat : Int) ∧ (d.toNat : Int) ≤ 255 := by have := d.toNat_lt; omega
      by_cases h1 : (97 : Int) ≤ (d.toNat : Int) ∧ (d.toNat : Int) ≤ 122
      · obtain ⟨h1, h2⟩ := h1
        have HU : Hid (((scU d).toNat : Int) = (d.toNat : Int) - 97 + 65) := Lib.hid (by rw [scU_small d (by omega) (by omega)]; omega)
        have HN : Hid ((upTo l k).set k (scU d) = upTo l (k + 1)) := Lib.hid (upTo_set l k hml _ (by rw [hd]))
        clear hd hy hb
        go_wp2
        go_roundw
        case rel =>
          have h := HYk.out.set k (scU d) (by rw [upTo_length]; exact hml)
          rw [HN.out, HU.out] at h
          exact ⟨k + 1, by go_num, by omega, h, HBk.out.setCell (Nat.le_refl _) _⟩
        case measure => simp [intOf]; omega
      · have hno : decide ((97 : Int) ≤ (d.toNat : Int)) = false ∨ ((97 : Int) ≤ (d.toNat : Int) ∧ decide ((d.toNat : Int) ≤ 122) = false) := by
          by_cases h : (97 : Int) ≤ (d.toNat : Int)
          · exact .inr ⟨h, by simp; omega⟩
          · exact .inl (by simpa using h)
        have HN : Hid (upTo l k = upTo l (k + 1)) := Lib.hid (upTo_same l k hml (by rw [hd, scU_other d (by omega)]))
        clear hd hy hb h1
        rcases hno with hno | ⟨h3, hno⟩
        all_goals
          go_wp2
          go_roundw
          case rel => exact ⟨k + 1, by go_num, by omega, by rw [← HN.out]; exact HYk.out, HBk.out⟩
          case measure => simp [intOf]; omega
    · have hcb := conv_back wr w.heap.size c (upTo l k) hy S.size (by rw [upTo_length, HZ.out]) T (by rw [HT.out, upTo_end l k (by have := HZ.out; omega)])
      have HBk := Lib.hid hb
      clear hy hb
      go_wp2
      go_ret
      exact ⟨rfl, HBk.out⟩
set_option maxHeartbeats 1000000 in
theorem rupper_is (l : List UInt8) (S T : ByteArray) (hS : S = ⟨l.toArray⟩) (hl : l.length ≤ 2000) (hT : T = ⟨(l.map scU).toArray⟩) (w : World) :
    Calls Try.prog 32 #[.string S] w fun e w' => e = .returned (.string T) ∧ Below w.heap.size w w' := by
  have hz : S.size = l.length := by rw [hS, size_mk]
  have hsz : S.size ≤ 2000 := by omega
  obtain ⟨c, w1, hcv, hby, hbe⟩ := conv_up l S hS w
  have HY := Lib.hid hby
  have HB := Lib.hid hbe
  have HZ := Lib.hid hz
  have HT := Lib.hid hT
  clear hby hbe hz hS hT
  go_enter Try.func32, Try.ntmps32
  go_wp2
  clear hcv
  go_loopw [4] (fun t wr => ∃ k : Nat, t = .int .i64 k ∧ k ≤ S.size ∧ Byt wr w.heap.size (upTo l k) ∧ Below w.heap.size w wr) (fun t _ => S.size - (intOf t).toNat)
  case atStart => exact ⟨0, rfl, Nat.zero_le _, by rw [upTo_zero]; exact HY.out, HB.out⟩
  case round =>
    obtain ⟨k, rfl, hk, hy, hb⟩ := hrel
    by_cases hp : k < S.size
    · have hml : k < l.length := by rw [← HZ.out]; exact hp
      obtain ⟨d, hd⟩ : ∃ d, l[k] = d := ⟨_, rfl⟩
      have hck := (hy.2 k (by rw [upTo_length]; exact hml)).1
      have hfk := (hy.2 k (by rw [upTo_length]; exact hml)).2
      rw [upTo_get l k hml, hd] at hck
      have HYk := Lib.hid hy
      have HBk := Lib.hid hb
      have hc8 : (0 : Int) ≤ (d.toNat : Int) ∧ (d.toNat : Int) ≤ 255 := by have := d.toNat_lt; omega
      by_cases h1 : (97 : Int) ≤ (d.toNat : Int) ∧ (d.toNat : Int) ≤ 122
      · obtain ⟨h1, h2⟩ := h1
        have HU : Hid (((scU d).toNat : Int) = (d.toNat : Int) - 32) := Lib.hid (by rw [scU_small d (by omega) (by omega)]; omega)
        have HN : Hid ((upTo l k).set k (scU d) = upTo l (k + 1)) := Lib.hid (upTo_set l k hml _ (by rw [hd]))
        clear hd hy hb
        go_wp2
        go_roundw
        case rel =>
          have h := HYk.out.set k (scU d) (by rw [upTo_length]; exact hml)
          rw [HN.out, HU.out] at h
          exact ⟨k + 1, by go_num, by omega, h, HBk.out.setCell (Nat.le_refl _) _⟩
        case measure => simp [intOf]; omega
      · have hno : decide ((97 : Int) ≤ (d.toNat : Int)) = false ∨ ((97 : Int) ≤ (d.toNat : Int) ∧ decide ((d.toNat : Int) ≤ 122) = false) := by
          by_cases h : (97 : Int) ≤ (d.toNat : Int)
          · exact .inr ⟨h, by simp; omega⟩
          · exact .inl (by simpa using h)
        have HN : Hid (upTo l k = upTo l (k + 1)) := Lib.hid (upTo_same l k hml (by rw [hd, scU_other d (by omega)]))
        clear hd hy hb h1
        rcases hno with hno | ⟨h3, hno⟩
        all_goals
          go_wp2
          go_roundw
          case rel => exact ⟨k + 1, by go_num, by omega, by rw [← HN.out]; exact HYk.out, HBk.out⟩
          case measure => simp [intOf]; omega
    · have hcb := conv_back wr w.heap.size c (upTo l k) hy S.size (by rw [upTo_length, HZ.out]) T (by rw [HT.out, upTo_end l k (by have := HZ.out; omega)])
      have HBk := Lib.hid hb
      clear hy hb
      go_wp2
      go_ret
      exact ⟨rfl, HBk.out⟩
end Go.Proofs.Ytkpomphjicoaeaa
