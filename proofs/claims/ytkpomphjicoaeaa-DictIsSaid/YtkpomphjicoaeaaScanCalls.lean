/-
  What the calls of package scan answer on texts of bytes, but Upper and Lines: where a text has come to, behind blanks, what is left, what is parsed, the next word.
-/
import Derived.Test.YtkpomphjicoaeaaProg
import Derived.Test.YtkpomphjicoaeaaBelowThen
import Derived.Test.YtkpomphjicoaeaaScanMath
import Derived.Below
import Derived.Deep.Draws
import Derived.WalkKit
import Derived.WalkMore
import Derived.Lib.Hide
import Derived.IntWalk
namespace Go.Proofs.Ytkpomphjicoaeaa
open Go.RowKit

theorem size_mk (l : List UInt8) : (⟨l.toArray⟩ : ByteArray).size = l.length := by simp [ByteArray.size]
theorem two_new (w : World) (o o' : Obj) : Below w.heap.size w ((w.alloc o).alloc o') := ((Below.refl _ _).alloc (Nat.le_refl _) _).alloc (by simp) _
theorem scA_cases {l : List UInt8} {i : Int} {k : Nat} (h : scA l i = k) : (i < 0 ∧ k = 0) ∨ (i = (k : Int) ∧ k ≤ l.length) ∨ ((l.length : Int) < i ∧ k = l.length) := by
  unfold scA at h
  omega

theorem blank_is (c : UInt8) (b : Bool) (h : scB c = b) (w : World) : Calls Try.prog 54 #[.int .u8 (c.toNat : Int)] w fun e w' => e = .returned (.bool b) ∧ w = w' := by
  have hd := scB_iff h
  clear h
  go_enter Try.func54, Try.ntmps54
  go_wp2
  go_ret
  exact ⟨rfl, rfl⟩
theorem ends_is (c : UInt8) (d : Int) (b : Bool) (h : scE d c = b) (w : World) : Calls Try.prog 53 #[.int .u8 (c.toNat : Int), .int .i64 d] w fun e w' => e = .returned (.bool b) ∧ w = w' := by
  by_cases hd : d = 32
  · subst hd
    rw [scE_blank] at h
    have H := Lib.hid h
    clear h
    go_enter Try.func53, Try.ntmps53
    go_wp2_with (go_at_call 54; refine (blank_is c b H.out _).mono ?_; rintro e w' ⟨rfl, rfl⟩)
    go_ret
    exact ⟨rfl, rfl⟩
  · have h1 : (d == 32) = false := by simpa using hd
    have h2 : ((c.toNat : Int) == d) = b := by
      rw [← h]; unfold scE; rw [if_neg hd, Bool.eq_iff_iff]; simp
    have hc8 : (0 : Int) ≤ (c.toNat : Int) ∧ (c.toNat : Int) ≤ 255 := by have := c.toNat_lt; omega
    clear h hd
    go_enter Try.func53, Try.ntmps53
    go_wp2
    go_ret
    exact ⟨rfl, rfl⟩
set_option maxHeartbeats 400000 in
theorem within_is (S : ByteArray) (i : Int) (k : Nat) (h : (i < 0 ∧ k = 0) ∨ (i = (k : Int) ∧ k ≤ S.size) ∨ ((S.size : Int) < i ∧ k = S.size)) (w : World) :
    Calls Try.prog 52 #[.agg #[.string S, .int .i64 i]] w fun e w' => e = .returned (.agg #[.string S, .int .i64 (k : Int)]) ∧ Below w.heap.size w w' := by
  rcases h with ⟨h1, rfl⟩ | ⟨rfl, h1⟩ | ⟨h1, rfl⟩
  · have h2 : ¬ (S.size : Int) < 0 := by omega
    go_enter Try.func52, Try.ntmps52
    go_wp2
    refine bodyPost_ret (v := .agg #[.string S, .int .i64 0]) (by simp [results, Try.results52, go_sem]) rfl ⟨rfl, ?_⟩
    exact two_new _ _ _
  · have h2 : ¬ (k : Int) < 0 := by omega
    have h3 : ¬ (S.size : Int) < (k : Int) := by omega
    go_enter Try.func52, Try.ntmps52
    go_wp2
    refine bodyPost_ret (v := .agg #[.string S, .int .i64 (k : Int)]) (by simp [results, Try.results52, go_sem]) rfl ⟨rfl, ?_⟩
    exact two_new _ _ _
  · have h2 : ¬ i < 0 := by omega
    go_enter Try.func52, Try.ntmps52
    go_wp2
    refine bodyPost_ret (v := .agg #[.string S, .int .i64 (S.size : Int)]) (by simp [results, Try.results52, go_sem]) rfl ⟨rfl, ?_⟩
    exact two_new _ _ _

/-- Block b holds a text and how far it has come. -/
def Src (w : World) (b : Nat) (t : TypeId) (S : ByteArray) (i : Int) : Prop := w.heap[b]? = some (.cells #[.string S, .int .i64 i] t (0, 0))
section
variable {w w' : World} {b : Nat} {t : TypeId} {S T : ByteArray} {i j : Int}
theorem Src.lt (h : Src w b t S i) : b < w.heap.size := (Array.getElem?_eq_some_iff.1 h).1
theorem Src.s (h : Src w b t S i) : w.cell? ⟨b, 0, none⟩ = some (.string S) := by unfold Src at h; simp [World.cell?, h]
theorem Src.n (h : Src w b t S i) : w.cell? ⟨b, 1, none⟩ = some (.int .i64 i) := by unfold Src at h; simp [World.cell?, h]
theorem Src.fs (h : Src w b t S i) : w.frozen? ⟨b, 0, none⟩ = false := by unfold Src at h; simp [World.frozen?, h]
theorem Src.fn (h : Src w b t S i) : w.frozen? ⟨b, 1, none⟩ = false := by unfold Src at h; simp [World.frozen?, h]
theorem Src.keep (h : Src w b t S i) (hb : Below w.heap.size w w') : Src w' b t S i := (hb.block b h.lt).trans h
theorem Src.new (w : World) (t : TypeId) (S : ByteArray) (i : Int) : Src (w.alloc (.cells #[.string S, .int .i64 i] t)) w.heap.size t S i := by
  show (w.heap.push _)[w.heap.size]? = _
  rw [Array.getElem?_push, if_pos rfl]
theorem Src.alloc (h : Src w b t S i) (o : Obj) : Src (w.alloc o) b t S i := (Below.heap_alloc w o b h.lt).trans h
theorem Src.other (h : Src w b t S i) {p : Addr} (hp : b ≠ p.block) (v : Value) : Src (w.setCell p v) b t S i := (Below.heap_setCell w p v b hp).trans h
theorem Src.setI (h : Src w b t S i) (j : Int) : Src (w.setCell ⟨b, 1, none⟩ (.int .i64 j)) b t S j := by
  unfold Src at h ⊢
  simp [World.setCell, Array.getElem?_modify, h]
theorem Src.setS (h : Src w b t S i) (T : ByteArray) : Src (w.setCell ⟨b, 0, none⟩ (.string T)) b t T i := by
  unfold Src at h ⊢
  simp [World.setCell, Array.getElem?_modify, h]
theorem Src.set (h : Src w b t S i) (T : ByteArray) (j : Int) : Src ((w.setCell ⟨b, 0, none⟩ (.string T)).setCell ⟨b, 1, none⟩ (.int .i64 j)) b t T j := (h.setS T).setI j
end
/-- How far the text in a block has come. -/
def inOf (w : World) (b : Nat) : Nat := match w.cell? ⟨b, 1, none⟩ with | some (.int _ q) => q.toNat | _ => 0
theorem Src.inOf {w : World} {b : Nat} {t : TypeId} {S : ByteArray} {k : Nat} (h : Src w b t S (k : Int)) : inOf w b = k := by unfold Proofs.Ytkpomphjicoaeaa.inOf; rw [h.n]; simp

set_option maxHeartbeats 1000000 in
theorem skip_is (l : List UInt8) (i : Int) (k j : Nat) (S : ByteArray) (hS : S = ⟨l.toArray⟩) (hl : l.length ≤ 2000) (hk : scA l i = k) (hj : scS scB l k = j) (w : World) :
    Calls Try.prog 48 #[.agg #[.string S, .int .i64 i]] w fun e w' => e = .returned (.agg #[.string S, .int .i64 (j : Int)]) ∧ Below w.heap.size w w' := by
  have hz : S.size = l.length := by rw [hS, size_mk]
  have hsz : S.size ≤ 2000 := by omega
  have hA := scA_cases hk
  rw [← hz] at hA
  have HA := Lib.hid hA
  have HJ := Lib.hid hj
  have HS := Lib.hid hS
  have HZ := Lib.hid hz
  have HK : Hid (k ≤ S.size) := Lib.hid (by rw [hz, ← hk]; exact scA_le l i)
  clear hA hk hj hS hz
  go_enter Try.func48, Try.ntmps48
  go_wp2_with (go_at_call 52; refine (within_is S i k HA.out _).mono ?_; rintro e w1 ⟨rfl, hb1⟩; have X1 := Lib.hid (((Src.new w 74 S i).alloc (.cells #[.string ⟨#[]⟩, .int .i64 0] 74)).keep hb1); have X2 := Lib.hid (Src.keep (w' := w1) (by have h := Src.new (w.alloc (.cells #[.string S, .int .i64 i] 74)) 74 ⟨#[]⟩ 0; rw [World.size_alloc] at h; exact h) hb1); have hs := X1.out.s; have hi := X1.out.n; have h1 := X1.out.fs; have h2 := X1.out.fn; have HB := Lib.hid (below_then (two_new w _ _) hb1); clear hb1)
  clear hs hi h1 h2
  go_loopw [] (fun wr => ∃ m : Nat, m ≤ S.size ∧ scS scB l m = scS scB l k ∧ Src wr w.heap.size 74 S (m : Int) ∧ Src wr (w.heap.size + 1) 74 ⟨#[]⟩ 0 ∧ Below w.heap.size w wr) (fun wr => S.size - inOf wr w.heap.size)
  case atStart => exact ⟨k, HK.out, rfl, X1.out.set S k, (X2.out.other (by simp) _).other (by simp) _, (HB.out.setCell (Nat.le_refl _) _).setCell (Nat.le_refl _) _⟩
  case round =>
    obtain ⟨m, hm, hsm, hx, hy, hb⟩ := hrel
    have HM := Lib.hid hsm
    have HX := Lib.hid hx
    have HY := Lib.hid hy
    have HW := Lib.hid hb
    have hs := hx.s
    have hn := hx.n
    have hfn := hx.fn
    have HI := Lib.hid hx.inOf
    clear hsm hx hy hb
    by_cases hp : m < S.size
    · have hml : m < l.length := by rw [← HZ.out]; exact hp
      obtain ⟨c, hc⟩ : ∃ c, l[m] = c := ⟨_, rfl⟩
      have hSk : S[m]'hp = c := by rw [← hc]; have := HS.out; subst this; rfl
      cases hbl : scB c with
      | true =>
        have HT : Hid (scS scB l (m + 1) = scS scB l k) := Lib.hid (by rw [← HM.out, scS_step scB l m hml (by rw [hc]; exact hbl)])
        have HBL := Lib.hid hbl
        clear hbl hc
        go_wp2_with (go_at_call 54; refine (blank_is c true HBL.out _).mono ?_; rintro e w' ⟨rfl, rfl⟩)
        go_roundw
        case rel => exact ⟨m + 1, by omega, HT.out, by have h := HX.out.setI ((m : Int) + 1); exact h, HY.out.other (by simp) _, HW.out.setCell (Nat.le_refl _) _⟩
        case measure =>
          have h := (HX.out.setI (((m + 1 : Nat)) : Int)).inOf
          rw [HI.out]
          simp at h ⊢
          omega
      | false =>
        have HT : Hid (m = j) := Lib.hid (by rw [← HJ.out, ← HM.out, scS_here scB l m hml (by rw [hc]; exact hbl)])
        have HBL := Lib.hid hbl
        clear hbl hc
        have hys := HY.out.s
        have hyn := HY.out.n
        have hyf := HY.out.fs
        have hyg := HY.out.fn
        go_wp2_with (go_at_call 54; refine (blank_is c false HBL.out _).mono ?_; rintro e w' ⟨rfl, rfl⟩)
        refine bodyPost_ret (v := .agg #[.string S, .int .i64 (m : Int)]) (by simp [results, Try.results48, go_sem, hys, hyn]) rfl ⟨by rw [HT.out], ?_⟩
        exact (HW.out.setCell (by simp) _).setCell (by simp) _
    · have HT : Hid (m = j) := Lib.hid (by rw [← HJ.out, ← HM.out, scS_end scB l m (by have := HZ.out; omega)])
      have hys := HY.out.s
      have hyn := HY.out.n
      have hyf := HY.out.fs
      have hyg := HY.out.fn
      go_wp2
      refine bodyPost_ret (v := .agg #[.string S, .int .i64 (m : Int)]) (by simp [results, Try.results48, go_sem, hys, hyn]) rfl ⟨by rw [HT.out], ?_⟩
      exact (HW.out.setCell (by simp) _).setCell (by simp) _

theorem ext_of {l : List UInt8} {S T : ByteArray} (hS : S = ⟨l.toArray⟩) (k j : Nat) (hT : T = ⟨(scT l k j).toArray⟩) : S.extract k j = T := by
  subst hS hT
  exact ByteArray.extract_mk l k j
theorem scA_str {l : List UInt8} {i : Int} {k : Nat} {S : ByteArray} (hS : S = ⟨l.toArray⟩) (hk : scA l i = k) : (i < 0 ∧ k = 0) ∨ (i = (k : Int) ∧ k ≤ S.size) ∨ ((S.size : Int) < i ∧ k = S.size) := by
  have h := scA_cases hk
  rw [hS, size_mk]
  exact h
set_option maxHeartbeats 1000000 in
/-- What is parsed, said of its end j and the next place n. -/
theorem parse_is (l : List UInt8) (i d : Int) (k j n : Nat) (S T : ByteArray) (hS : S = ⟨l.toArray⟩) (hl : l.length ≤ 2000) (hk : scA l i = k) (hj : scS (scN d) l k = j) (hn : min (j + 1) l.length = n) (hT : T = ⟨(scT l k j).toArray⟩) (w : World) :
    Calls Try.prog 47 #[.agg #[.string S, .int .i64 i], .int .i64 d] w fun e w' => e = .returned (.tuple #[.string T, .agg #[.string S, .int .i64 (n : Int)]]) ∧ Below w.heap.size w w' := by
  have hz : S.size = l.length := by rw [hS, size_mk]
  have hsz : S.size ≤ 2000 := by omega
  have HA := Lib.hid (scA_str hS hk)
  have hkz : k ≤ S.size := by rw [hz, ← hk]; exact scA_le l i
  have HJ := Lib.hid hj
  have HS := Lib.hid hS
  have HZ := Lib.hid hz
  have hkj : k ≤ j := by rw [← hj]; exact scS_ge _ _ _
  have hjz : j ≤ S.size := by rw [hz, ← hj]; exact scS_le _ _ _ (by omega)
  have HN : Hid ((j < S.size ∧ n = j + 1) ∨ (j = S.size ∧ n = S.size)) := Lib.hid (by omega)
  have hex : S.extract k j = T := ext_of hS k j hT
  clear hk hj hS hz hT hn
  go_enter Try.func47, Try.ntmps47
  go_wp2_with (go_at_call 52; refine (within_is S i k HA.out _).mono ?_; rintro e w1 ⟨rfl, hb1⟩; have X1 := Lib.hid (((Src.new w 74 S i).alloc (.cells #[.string ⟨#[]⟩, .int .i64 0] 74)).keep hb1); have X2 := Lib.hid (Src.keep (w' := w1) (by have h := Src.new (w.alloc (.cells #[.string S, .int .i64 i] 74)) 74 ⟨#[]⟩ 0; rw [World.size_alloc] at h; exact h) hb1); have hs := X1.out.s; have hi := X1.out.n; have h1 := X1.out.fs; have h2 := X1.out.fn; have HB := Lib.hid (below_then (two_new w _ _) hb1); clear hb1)
  clear hs hi h1 h2
  have Y1 := Lib.hid (X1.out.set S k)
  have Y2 := Lib.hid ((X2.out.other (p := ⟨w.heap.size, 0, none⟩) (by simp) (.string S)).other (p := ⟨w.heap.size, 1, none⟩) (by simp) (.int .i64 k))
  have YB := Lib.hid ((HB.out.setCell (p := ⟨w.heap.size, 0, none⟩) (Nat.le_refl _) (.string S)).setCell (p := ⟨w.heap.size, 1, none⟩) (Nat.le_refl _) (.int .i64 k))
  generalize ((w1.setCell ⟨w.heap.size, 0, none⟩ (.string S)).setCell ⟨w.heap.size, 1, none⟩ (.int .i64 (k : Int))) = wr at Y1 Y2 YB ⊢
  clear X1 X2 HB
  have hs := Y1.out.s
  have hi := Y1.out.n
  have hf := Y1.out.fn
  go_loop [6] (fun t => ∃ m : Nat, t = .int .i64 m ∧ m ≤ S.size ∧ scS (scN d) l m = scS (scN d) l k) (fun t => S.size - (intOf t).toNat)
  case atStart => exact ⟨k, rfl, hkz, rfl⟩
  case round =>
    obtain ⟨m, rfl, hm, hsm⟩ := hrel
    have HM := Lib.hid hsm
    clear hsm
    by_cases hp : m < S.size
    · have hml : m < l.length := by rw [← HZ.out]; exact hp
      obtain ⟨c, hc⟩ : ∃ c, l[m] = c := ⟨_, rfl⟩
      have hSk : S[m]'hp = c := by rw [← hc]; have := HS.out; subst this; rfl
      cases hbl : scE d c with
      | false =>
        have HT : Hid (scS (scN d) l (m + 1) = scS (scN d) l k) := Lib.hid (by rw [← HM.out, scS_step _ l m hml (by rw [hc]; unfold scN; rw [hbl]; rfl)])
        have HBL := Lib.hid hbl
        clear hbl hc
        go_wp2_with (go_at_call 53; refine (ends_is c d false HBL.out _).mono ?_; rintro e w' ⟨rfl, rfl⟩)
        go_round
        case rel => exact ⟨m + 1, by go_num, by omega, HT.out⟩
        case measure => simp [intOf]; omega
      | true =>
        obtain rfl : m = j := by rw [← HJ.out, ← HM.out, scS_here _ l m hml (by rw [hc]; unfold scN; rw [hbl]; rfl)]
        have hnj : n = m + 1 := by have := HN.out; omega
        subst hnj
        have HBL := Lib.hid hbl
        clear hbl hc
        have hys := Y2.out.s
        have hyn := Y2.out.n
        have hyf := Y2.out.fs
        have hyg := Y2.out.fn
        go_wp2_with (go_at_call 53; refine (ends_is c d true HBL.out _).mono ?_; rintro e w' ⟨rfl, rfl⟩)
        go_region
        go_wp2
        refine bodyPost_ret (v := .tuple #[.string T, .agg #[.string S, .int .i64 ((m : Int) + 1)]]) (by simp [results, Try.results47, go_sem, hys, hyn]) rfl ⟨rfl, ?_⟩
        exact (((YB.out.setCell (Nat.le_refl _) _).setCell (by simp) _).setCell (by simp) _).drew
    · obtain rfl : m = j := by rw [← HJ.out, ← HM.out, scS_end _ l m (by have := HZ.out; omega)]
      obtain rfl : n = S.size := by have := HN.out; omega
      have hmin : (S.size : Int) < (m : Int) + 1 := by omega
      have hys := Y2.out.s
      have hyn := Y2.out.n
      have hyf := Y2.out.fs
      have hyg := Y2.out.fn
      go_wp2
      go_region
      go_wp2
      refine bodyPost_ret (v := .tuple #[.string T, .agg #[.string S, .int .i64 (S.size : Int)]]) (by simp [results, Try.results47, go_sem, hys, hyn]) rfl ⟨rfl, ?_⟩
      exact (((YB.out.setCell (Nat.le_refl _) _).setCell (by simp) _).setCell (by simp) _).drew
set_option maxHeartbeats 400000 in
/-- The next word, said of its first place k, its end j and the next place n. -/
theorem word_is (l : List UInt8) (i : Int) (k j n : Nat) (S T : ByteArray) (hS : S = ⟨l.toArray⟩) (hl : l.length ≤ 2000) (hk : scS scB l (scA l i) = k) (hj : scS (scN 32) l k = j) (hn : min (j + 1) l.length = n) (hT : T = ⟨(scT l k j).toArray⟩) (w : World) :
    Calls Try.prog 43 #[.agg #[.string S, .int .i64 i]] w fun e w' => e = .returned (.tuple #[.string T, .agg #[.string S, .int .i64 (n : Int)]]) ∧ Below w.heap.size w w' := by
  have hkl : k ≤ l.length := by rw [← hk]; exact scS_le _ _ _ (scA_le l i)
  have HP := Lib.hid (parse_is l (k : Int) 32 k j n S T hS hl (scA_nat l k hkl) hj hn hT)
  have HK := Lib.hid (skip_is l i _ k S hS hl rfl hk)
  clear hS hl hk hj hn hT hkl
  go_enter Try.func43, Try.ntmps43
  go_wp2_with (first
    | (go_at_call 48; refine (HK.out _).mono ?_; rintro e w1 ⟨rfl, hb1⟩; have X1 := Lib.hid (Src.keep (w' := w1) (by have h := Src.new (w.alloc (.cells #[.string S, .int .i64 i] 74)) 74 ⟨#[]⟩ 0; rw [World.size_alloc] at h; exact h) hb1); have HB1 := Lib.hid (below_then (two_new w _ _) hb1); clear hb1)
    | (go_at_call 47; refine (HP.out _).mono ?_; rintro e w2 ⟨rfl, hb2⟩; have X2 := Lib.hid (X1.out.keep hb2); have hs := X2.out.s; have hi := X2.out.n; have h1 := X2.out.fs; have h2 := X2.out.fn; have HB2 := Lib.hid (below_then HB1.out hb2); clear hb2))
  refine bodyPost_ret (v := .tuple #[.string T, .agg #[.string S, .int .i64 (n : Int)]]) (by simp [results, Try.results43, go_sem, hs, hi]) rfl ⟨rfl, ?_⟩
  exact (HB2.out.setCell (by simp) _).setCell (by simp) _
end Go.Proofs.Ytkpomphjicoaeaa
