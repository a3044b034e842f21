/-
  What the document's own calls of layer 3 answer (tenterhookref03: there, place, own, Get, Put, PutByte): the same as the calls of package mem, but that PutByte answers the memory beside a throw.
-/
import Derived.Test.YtkehlaphiillpaaRef03Math
import Derived.Test.YtkehlaphiillpaaMemPut
import Derived.Laws.AppendOwnNone
import Derived.Maps.AppendAt
import Derived.Laws.OwnMore
namespace Go.Proofs.Ytkehlaphiillpaa
open Go.RowKit

theorem r3there_any (A : Option Addr) (n c : Nat) (a k : Int) (w : World) (hn : n ≤ 1000000) (ha : InC a) :
    Calls Try.prog 40 #[.slice A n c, .int .i64 a, .int .i64 k] w fun e w' => e = .returned (.bool (thB n a k)) ∧ w = w' := by
  have HB : Hid (thB n a k = (decide (0 ≤ a) && (decide (0 ≤ k) && (decide (a ≤ (n : Int)) && decide (k ≤ (n : Int) - a))))) := Lib.hid (by
    unfold thB
    rw [Bool.eq_iff_iff]
    simp
    omega)
  unfold InC at ha
  obtain ⟨z, hz⟩ : ∃ z : Int, (n : Int) - a = z := ⟨_, rfl⟩
  by_cases h1 : 0 ≤ a <;> by_cases h2 : 0 ≤ k <;> by_cases h3 : a ≤ (n : Int)
  all_goals
    first
      | (have hw : wrap64 ((n : Int) - a) = z := by unfold wrap64; omega)
      | skip
    rw [hz] at HB
    by_cases h4 : k ≤ z
    all_goals
      go_enter Try.func40, Try.ntmps40
      go_wp2
      go_ret
      exact ⟨by rw [HB.out]; simp [h1, h2, h3, h4], rfl⟩
theorem r3there_is (A : Option Addr) (n c : Nat) (a k : Int) (v : Bool) (w : World) (hn : n ≤ 1000000) (ha : InC a) (h : thB n a k = v) :
    Calls Try.prog 40 #[.slice A n c, .int .i64 a, .int .i64 k] w fun e w' => e = .returned (.bool v) ∧ w = w' := by subst h; exact r3there_any A n c a k w hn ha
theorem r3place_any (A : Option Addr) (n c : Nat) (a : Int) (w : World) (hn : n ≤ 1000000) (ha : InC a) :
    Calls Try.prog 32 #[.slice A n c, .int .i64 a] w fun e w' => e = .returned (.int .i64 (mE n a)) ∧ w = w' := by
  cases ht : thB n a 8
  · have hE : mE n a = -9 := by unfold mE; rw [ht]; rfl
    rw [hE]
    have HT := Lib.hid ht
    clear hE ht
    go_enter Try.func32, Try.ntmps32
    go_wp2_with (go_at_call 40; refine (r3there_is _ _ _ _ _ false _ hn ha HT.out).mono ?_; rintro e w' ⟨rfl, rfl⟩)
    go_ret
    exact ⟨rfl, rfl⟩
  · have HT := Lib.hid ht
    have htm : a.tmod 8 = a % 8 := by
      obtain ⟨i, m, hi, _, _⟩ := thB_yes ht
      rw [Int.tmod_eq_emod_of_nonneg (by omega)]
    by_cases hz : a % 8 = 0
    · have hE : mE n a = 0 := by unfold mE; rw [if_pos ht, if_pos hz]
      rw [hE]
      have d1 : (a.tmod 8 != 0) = false := by rw [htm, hz]; rfl
      have d2 : (a % 8 != 0) = false := by rw [hz]; rfl
      have d3 : a % 8 = 0 := hz
      clear hE ht hz htm
      go_enter Try.func32, Try.ntmps32
      go_wp2_with (go_at_call 40; refine (r3there_is _ _ _ _ _ true _ hn ha HT.out).mono ?_; rintro e w' ⟨rfl, rfl⟩)
      go_ret
      exact ⟨rfl, rfl⟩
    · have hE : mE n a = -23 := by unfold mE; rw [if_pos ht, if_neg hz]
      rw [hE]
      have d1 : (a.tmod 8 != 0) = true := by rw [htm]; simpa using hz
      have d2 : ¬ a % 8 = 0 := hz
      have d3 : (a % 8 != 0) = true := by simpa using hz
      clear hE ht htm
      go_enter Try.func32, Try.ntmps32
      go_wp2_with (go_at_call 40; refine (r3there_is _ _ _ _ _ true _ hn ha HT.out).mono ?_; rintro e w' ⟨rfl, rfl⟩)
      go_ret
      exact ⟨rfl, rfl⟩
theorem r3place_is (A : Option Addr) (n c : Nat) (a t : Int) (w : World) (hn : n ≤ 1000000) (ha : InC a) (h : mE n a = t) :
    Calls Try.prog 32 #[.slice A n c, .int .i64 a] w fun e w' => e = .returned (.int .i64 t) ∧ w = w' := by subst h; exact r3place_any A n c a w hn ha

/-- A row of bytes that may be written. -/
def RowB (w : World) (g n : Nat) (l : List UInt8) : Prop :=
  l.length = n ∧ g < w.heap.size ∧ (∀ j (hj : j < l.length), w.cell? ⟨g, j, none⟩ = some (.int .u8 (l[j].toNat : Int))) ∧ (∀ j, j < l.length → w.frozen? ⟨g, j, none⟩ = false)
theorem RowB.mem {w : World} {g n c : Nat} {l : List UInt8} (h : RowB w g n l) (hc : n ≤ c) : Mem w (some ⟨g, 0, none⟩) n c l :=
  ⟨h.1, hc, fun _ => ⟨g, 0, rfl, h.2.1, fun j hj => by rw [Nat.zero_add]; exact h.2.2.1 j hj⟩⟩
theorem splice_one (l : List UInt8) (j : Nat) (b : UInt8) (hj : j < l.length) (k : Nat) : (splice l j [b])[k]? = if k = j then some b else l[k]? := by
  rw [splice_get _ _ _ _ (by simp only [List.length_singleton]; omega), List.length_singleton]
  by_cases h : k = j
  · subst h; rw [if_pos (by omega), if_pos rfl, Nat.sub_self]; rfl
  · rw [if_neg (by omega), if_neg h]
theorem RowB.set {w : World} {g n : Nat} {l : List UInt8} (h : RowB w g n l) (j : Nat) (b : UInt8) (hj : j < n) : RowB (w.setCell ⟨g, j, none⟩ (.int .u8 (b.toNat : Int))) g n (splice l j [b]) := by
  obtain ⟨hl, hg, hc, hf⟩ := h
  have hlen : (splice l j [b]).length = l.length := length_splice _ _ _ (by simp only [List.length_singleton]; omega)
  refine ⟨by rw [hlen]; exact hl, by simpa [World.setCell] using hg, fun k hk => ?_, fun k hk => ?_⟩
  · have e := splice_one l j b (by omega) k
    rw [List.getElem?_eq_getElem hk] at e
    by_cases hkj : k = j
    · subst hkj
      rw [if_pos rfl] at e
      rw [World.cell?_setCell_same _ _ _ (hc k (by omega)), Option.some.inj e]
    · rw [if_neg hkj, List.getElem?_eq_getElem (by omega)] at e
      rw [World.cell?_setCell_other _ _ _ _ (by intro h; simp only [Addr.mk.injEq] at h; omega), hc k (by omega), Option.some.inj e]
  · have := hf k (by omega)
    simpa [go_sem] using this
theorem info8_parts : ∃ i, Try.prog.info? 5 = some i ∧ i.zero = some (.int .u8 0) ∧ i.size = 1 ∧ i.bytes = 1 := by
  obtain ⟨i, hi, h⟩ := Option.map_eq_some_iff.1 info8
  simp at h
  exact ⟨i, hi, h.1, h.2.1, h.2.2⟩
/-- Bytes onto a new row of none. -/
theorem run_app8 {W : World} {A : Option Addr} {n c : Nat} {l : List UInt8} (ty : TypeId) (hm : Mem W A n c l) (h1 : 1 ≤ n) (hn : n ≤ 1000000) :
    ∃ g c' w', (Builtin.append_ #[22, 22] ty #[.slice (some ⟨W.heap.size, 0, none⟩) 0 0, .slice A n c]).run Try.prog (W.alloc (.cells #[] 5)) = .ok (.slice (some ⟨g, 0, none⟩) n c') w' ∧ n ≤ c' ∧ RowB w' g n l ∧ W.heap.size ≤ g ∧ Below W.heap.size W w' := by
  obtain ⟨i, hi, hz0, hz1, hz2⟩ := info8_parts
  have hown : (W.alloc (.cells #[] 5)).ownsRow W.heap.size 5 1 (.slice (some ⟨W.heap.size, 0, none⟩) 0 0) 0 [] := World.ownsRow_made W #[] 0 (Nat.le_refl _) (Nat.zero_le _) rfl
  have hb0 : Below W.heap.size W (W.alloc (.cells #[] 5)) := (Below.refl _ _).alloc (Nat.le_refl _) _
  obtain ⟨b, o, rfl, hb, hcell⟩ := (hm.alloc (.cells #[] 5)).2.2 (by omega)
  obtain ⟨v', w', hrun, h2, h3, _, _⟩ := run_append_own_at (P := Try.prog) (W.alloc (.cells #[] 5)) W.heap.size 22 ty 5 i (.int .u8 0) 1 1 Try.underlying22 hi hz0 hz1 hz2 rfl (by decide) _ 0 [] hown ⟨b, o, none⟩ n c (cellsOf l)
    (by rw [cellsOf_length, hm.len, Nat.mul_one]) (fun j u hu => by obtain ⟨hj, rfl⟩ := cellsOf_get hu; rw [Addr.add_lit]; exact hcell j hj) (cellsOf_one l) (by unfold maxLen; omega) (by omega) (by simp)
  rw [Nat.zero_add, List.nil_append] at h2
  rcases h2.2 with ⟨_, e⟩ | ⟨g, cap, cur, rfl, hbg, hg, hnc, hcm, hcs, ht⟩
  · omega
  · refine ⟨g, cap, w', hrun, hnc, ?_, hbg, hb0.grown h3 (by simp) (fun k hk => (hown.lt k hk).1)⟩
    have hlt : g < w'.heap.size := by
      rcases Nat.lt_or_ge g w'.heap.size with k | k
      · exact k
      · rw [Array.getElem?_eq_none k] at hg; cases hg
    refine ⟨hm.len, hlt, fun j hj => ?_, fun j _ => by simp [World.frozen?, hg]⟩
    have := h2.cells (g := g) rfl j (.int .u8 (l[j].toNat : Int)) (by simp [cellsOf, hj])
    simpa [Addr.add_lit] using this
theorem wpList_app8 {W : World} {ops : Array Oper} {rest : List Oper} {o : Oper} {a : Act} {Q : Exit → Act → World → Prop} (hgd : o.guard = none) (s x : Operand)
    (ho : o.op = .call { callee := .builtin .append, args := #[s, x], argTypes := #[22, 22] })
    {A : Option Addr} {n c : Nat} {l : List UInt8} (hs : a.eval s = .slice (some ⟨W.heap.size, 0, none⟩) 0 0) (hx : a.eval x = .slice A n c) (hm : Mem W A n c l) (h1 : 1 ≤ n) (hn : n ≤ 1000000)
    (hk : ∀ g c' w', n ≤ c' → RowB w' g n l → W.heap.size ≤ g → Below W.heap.size W w' → wpList Try.prog ops Q rest (a.put o.dst (.slice (some ⟨g, 0, none⟩) n c')) w') : wpList Try.prog ops Q (o :: rest) a (W.alloc (.cells #[] 5)) := by
  refine wpList_plain hgd fun _ hK => ?_
  obtain ⟨g, c', w', hrun, e1, e2, e3, e4⟩ := run_app8 (W := W) o.type hm h1 hn
  unfold Oper.wp execOp
  simp only [ho, resolve, invoke, builtin, Sem.run_bind, Sem.run_pure, Result.andThen_ok, List.map_toArray, List.map_cons, List.map_nil, hs, hx, hrun]
  exact hK _ _ (hk g c' w' e1 e2 e3 e4)
theorem r3own_any (A : Option Addr) (n c : Nat) (l : List UInt8) (w : World) (h1 : 1 ≤ n) (hn : n ≤ 1000000) (hm : Mem w A n c l) :
    Calls Try.prog 35 #[.slice A n c] w fun e w' => ∃ g c', e = .returned (.slice (some ⟨g, 0, none⟩) n c') ∧ n ≤ c' ∧ RowB w' g n l ∧ w.heap.size ≤ g ∧ Below w.heap.size w w' := by
  have HM := Lib.hid hm
  clear hm
  go_enter Try.func35, Try.ntmps35
  go_wp2_with (at_builtin; refine wpList_app8 (W := w) rfl (.tmp 3) (.tmp 4) rfl rfl rfl HM.out h1 hn ?_; intro g c1 w1 e1 e2 e3 e4; have H2 := Lib.hid e2; have H4 := Lib.hid e4; clear e2 e4)
  go_ret
  exact ⟨g, c1, rfl, e1, H2.out, e3, H4.out⟩
section
variable (A : Option Addr) (n c : Nat) (l : List UInt8) (w : World)
theorem r3get_bad (a t : Int) (hn : n ≤ 1000000) (ha : InC a) (ht : mE n a = t) (h : (t != 0) = true) :
    Calls Try.prog 23 #[.slice A n c, .int .i64 a] w fun e w' => e = .returned (.tuple #[.int .i64 0, .int .i64 t]) ∧ w = w' := by
  have HT := Lib.hid ht
  clear ht
  go_enter Try.func23, Try.ntmps23
  go_wp2_with (go_at_call 32; refine (r3place_is _ _ _ _ t _ hn ha HT.out).mono ?_; rintro e w' ⟨rfl, rfl⟩)
  go_ret2
  exact ⟨rfl, rfl⟩
set_option maxHeartbeats 1000000 in
theorem r3get_good (a : Int) (i : Nat) (x : Int) (hn : n ≤ 1000000) (hm : Mem w A n c l) (ha : a = (i : Int)) (h : mE n (i : Int) = 0) (hx : mC (mT l i 8) = x) :
    Calls Try.prog 23 #[.slice A n c, .int .i64 a] w fun e w' => e = .returned (.tuple #[.int .i64 x, .int .i64 0]) ∧ w = w' := by
  subst hx
  obtain ⟨i', hi', hle, _, _⟩ := mE_ok h
  obtain rfl : i = i' := by omega
  have hlen := hm.len
  obtain ⟨b, o, rfl, hb, hcell⟩ := hm.2.2 (by omega)
  have HT : Hid (mE n a = 0) := Lib.hid (by rw [ha]; exact h)
  have haC : InC a := by unfold InC; omega
  have HA := Lib.hid ha
  have HC := Lib.hid hcell
  have HL := Lib.hid hlen
  have hai : 0 ≤ a := by omega
  have hau : a + 8 ≤ (n : Int) := by omega
  clear hm h hi' hcell ha hlen
  go_enter Try.func23, Try.ntmps23
  go_wp2_with (go_at_call 32; refine (r3place_is _ _ _ _ 0 _ hn haC HT.out).mono ?_; rintro e w' ⟨rfl, rfl⟩)
  go_loop [7, 8] (fun v j => ∃ k : Nat, k ≤ 8 ∧ j = .int .i64 ((k : Int) - 1) ∧ v = .int .u64 (gH l i k : Nat)) (fun _ j => (intOf j + 1).toNat)
  case atStart => exact ⟨8, by omega, rfl, by rw [gH_8]; rfl⟩
  case round =>
    obtain ⟨k, hk, rfl, rfl⟩ := hrel
    match k, hk with
    | 0, _ =>
      have HG := Lib.hid (gH_0 l i (by rw [HL.out]; omega))
      have HG2 := Lib.hid (gH_lt l i (by rw [HL.out]; omega))
      generalize gH l i 0 = G at *
      have hG : IntKind.i64.wrap (G : Int) = mC (mT l i 8) := (wrapi64 _).trans HG.out
      go_wp2
      go_ret2
      exact ⟨rfl, rfl⟩
    | k + 1, hk =>
      obtain ⟨e1, e2⟩ := gH_step l i k (by omega) (by rw [HL.out]; omega)
      have hil : i + k < l.length := by rw [HL.out]; omega
      have hc := HC.out (i + k) hil
      have hv := u8_lt (l[i + k]'hil)
      obtain ⟨V, hV⟩ : ∃ V : Nat, (l[i + k]'hil).toNat = V := ⟨_, rfl⟩
      rw [hV] at hc e1 e2 hv
      obtain ⟨G, hG⟩ : ∃ G : Nat, gH l i (k + 1) = G := ⟨_, rfl⟩
      rw [hG] at e1 e2 ⊢
      have HE := Lib.hid e1
      have hj : ((k + 1 : Nat) : Int) - 1 = (k : Int) := by omega
      rw [hj]
      have f1 : (a + (k : Int)).toNat = i + k := by have := HA.out; omega
      have g1 : IntKind.u64.wrap ((G : Int) * 256) = ((G * 256 : Nat) : Int) := by rw [u64wrap]; omega
      have g2 : IntKind.u64.wrap (((G * 256 : Nat) : Int) + (V : Int)) = ((G * 256 + V : Nat) : Int) := by rw [u64wrap]; omega
      have v0 : (0 : Int) ≤ (V : Int) := by omega
      have v1 : (V : Int) ≤ 255 := by omega
      clear e1 hV hG hj
      go_wp2
      go_round
      case rel => exact ⟨k, by omega, rfl, by rw [HE.out]; first | rfl | (congr 1; omega)⟩
      case measure => simp [intOf]
theorem r3put_bad (a x t : Int) (hn : n ≤ 1000000) (ha : InC a) (ht : mE n a = t) (h : (t != 0) = true) :
    Calls Try.prog 25 #[.slice A n c, .int .i64 a, .int .i64 x] w fun e w' => e = .returned (.tuple #[.slice A n c, .int .i64 t]) ∧ w = w' := by
  have HT := Lib.hid ht
  clear ht
  go_enter Try.func25, Try.ntmps25
  go_wp2_with (go_at_call 32; refine (r3place_is _ _ _ _ t _ hn ha HT.out).mono ?_; rintro e w' ⟨rfl, rfl⟩)
  go_ret2
  exact ⟨rfl, rfl⟩
set_option maxHeartbeats 1000000 in
theorem r3put_good (a : Int) (i : Nat) (x : Int) (l' : List UInt8) (ha : a = (i : Int)) (hl : splice l i (mB x) = l') (hn : n ≤ 1000000) (hm : Mem w A n c l) (h : mE n (i : Int) = 0) :
    Calls Try.prog 25 #[.slice A n c, .int .i64 a, .int .i64 x] w (HoldPost w n l' 0) := by
  subst hl
  obtain ⟨i', hi', hle, _, _⟩ := mE_ok h
  obtain rfl : i = i' := by omega
  have hlen := hm.len
  have HT : Hid (mE n a = 0) := Lib.hid (by rw [ha]; exact h)
  have haC : InC a := by unfold InC; omega
  have HA := Lib.hid ha
  have HL := Lib.hid hlen
  have HM := Lib.hid hm
  have hn1 : 1 ≤ n := by omega
  have hai : 0 ≤ a := by omega
  have hau : a + 8 ≤ (n : Int) := by omega
  have hux : IntKind.u64.wrap x = uS x 0 := u64wrap x
  clear hm h hi' ha hlen
  go_enter Try.func25, Try.ntmps25
  go_wp2_with (first
    | (go_at_call 32; refine (r3place_is _ _ _ _ 0 _ hn haC HT.out).mono ?_; rintro e w' ⟨rfl, rfl⟩)
    | (go_at_call 35; refine (r3own_any A n c l _ hn1 hn HM.out).mono ?_; rintro e w1 ⟨g, c1, rfl, e1, e2, e3, e4⟩; have H2 := Lib.hid e2; have H4 := Lib.hid (keeps_of_below e4); have HE1 := Lib.hid e1; have HE3 := Lib.hid e3; clear e1 e2 e3 e4))
  go_loopw [10, 11] (fun v t wr => ∃ k : Nat, k ≤ 8 ∧ t = .int .i64 k ∧ v = .int .u64 (uS x k) ∧ RowB wr g n (splice l i ((mB x).take k)) ∧ Keeps w wr) (fun _ t _ => (8 - intOf t).toNat)
  case atStart =>
    refine ⟨0, by omega, rfl, ?_, ?_, H4.out⟩
    · first | rfl | exact congrArg (Value.int .u64) hux
    · have e : splice l i ((mB x).take 0) = l := splice_nil l i
      rw [e]; exact H2.out
  case round =>
    obtain ⟨k, hk, rfl, rfl, hrow, hkw⟩ := hrel
    by_cases h8 : k = 8
    · subst h8
      have HR := Lib.hid hrow
      have HK := Lib.hid hkw
      clear hrow hkw
      go_wp2
      go_ret2
      refine ⟨_, _, rfl, ?_, HK.out⟩
      have e : splice l i ((mB x).take 8) = splice l i (mB x) := by rw [List.take_of_length_le (by rw [mB_length]; omega)]
      rw [← e]
      exact HR.out.mem HE1.out
    · have hlt : k < 8 := by omega
      have hb := uS_byte x k hlt
      have hin := uS_in x k
      have hnext := parts_next l i x k hlt (by rw [HL.out]; exact hle)
      have hset := hrow.set (i + k) (b8 (vS x k)) (by omega)
      rw [hnext] at hset
      have HS := Lib.hid hset
      have HK := Lib.hid (hkw.setCell (p := ⟨g, i + k, none⟩) HE3.out (.int .u8 ((b8 (vS x k)).toNat : Int)))
      have hlen2 : (splice l i ((mB x).take k)).length = n := hrow.1
      have hc := hrow.2.2.1 (i + k) (by omega)
      have hf := hrow.2.2.2 (i + k) (by omega)
      have hg := hrow.2.1
      have hbv := u8_lt (b8 (vS x k))
      have hs : uS x (k + 1) = uS x k / 256 := rfl
      have HSS := Lib.hid hs
      generalize ((splice l i ((mB x).take k))[i + k]'(by omega)).toNat = V at hc
      generalize (b8 (vS x k)).toNat = Z at *
      obtain ⟨U, hU⟩ : ∃ U, uS x k = U := ⟨_, rfl⟩
      rw [hU] at hb hin HSS ⊢
      have f1 : (a + (k : Int)).toNat = i + k := by have := HA.out; omega
      have hm1 : U.tmod 256 = (Z : Int) := by rw [Int.tmod_eq_emod_of_nonneg hin.1]; exact hb
      have hd1 : U.tdiv 256 = U / 256 := by rw [Int.tdiv_eq_ediv_of_nonneg hin.1]
      have hw8 : IntKind.u8.wrap (Z : Int) = (Z : Int) := by rw [IntKind.wrap_u8]; omega
      have i0 := hin.1
      have i1 := hin.2
      clear hrow hkw hset hnext hs hU h8 hin
      go_wp2
      go_roundw
      case rel => exact ⟨k + 1, by omega, by go_num, by rw [HSS.out], HS.out, HK.out⟩
      case measure => simp [intOf]; omega
end
end Go.Proofs.Ytkehlaphiillpaa
