/-
  What the calls quoted, byteBetween and marked of package num answer (contracts of the translated functions).
-/
import Derived.Test.YthifehekhcmldaaDoorNumCalls
import Derived.Test.YthifehekhcmldaaDoorKeeps
namespace Go.Proofs.YthifehekhcmldaaDoor
open Go.RowKit

theorem quoted_far (l : List UInt8) (w : World) (h : l.length ≠ 3) :
    Calls Tryd.prog 17 #[.string ⟨l.toArray⟩] w fun e w' => e = .returned (.bool false) ∧ w = w' := by
  obtain ⟨S, hS⟩ : ∃ S : ByteArray, S = ⟨l.toArray⟩ := ⟨_, rfl⟩
  have hz : ((S.size : Int) == 3) = false := by rw [hS, size_mk]; simp; omega
  rw [← hS]
  clear hS
  go_enter Tryd.func17, Tryd.ntmps17
  go_wp2
  go_ret
  exact ⟨rfl, rfl⟩
theorem u8_eq (a : UInt8) : (((a.toNat : Nat) : Int) == 39) = (a == 39) := by
  rw [Bool.eq_iff_iff]; simp only [beq_iff_eq]
  constructor
  · intro h; apply UInt8.toNat_inj.1; simp; omega
  · rintro rfl; rfl
theorem quoted_near (a b c : UInt8) (w : World) :
    Calls Tryd.prog 17 #[.string ⟨#[a, b, c]⟩] w fun e w' => e = .returned (.bool (a == 39 && c == 39)) ∧ w = w' := by
  obtain ⟨S, hS⟩ : ∃ S : ByteArray, S = ⟨#[a, b, c]⟩ := ⟨_, rfl⟩
  have hn : S.size = 3 := by rw [hS]; rfl
  have hz : ((S.size : Int) == 3) = true := by rw [hn]; rfl
  have h0 : (0 : Int) < (S.size : Int) := by omega
  have h2 : (2 : Int) < (S.size : Int) := by omega
  have e0 : ∀ k, S[(0 : Nat)]'k = a := by intro k; subst hS; rfl
  have e2 : ∀ k, S[(2 : Nat)]'k = c := by intro k; subst hS; rfl
  have ea := u8_eq a
  have ec := u8_eq c
  rw [← hS]
  clear hS hn
  cases ha : (a == 39) <;> cases hc : (c == 39)
  all_goals
    rw [ha] at ea; rw [hc] at ec
    go_enter Tryd.func17, Tryd.ntmps17
    go_wp2
    go_ret
    exact ⟨rfl, rfl⟩
theorem quoted_any (l : List UInt8) (w : World) :
    Calls Tryd.prog 17 #[.string ⟨l.toArray⟩] w fun e w' => e = .returned (.bool (qB l)) ∧ w = w' := by
  by_cases h : l.length = 3
  · match l, h with
    | [a, b, c], _ => exact quoted_near a b c w
  · have : qB l = false := by unfold qB; simp [h]
    rw [this]
    exact quoted_far l w h
theorem quoted_is (l : List UInt8) (v : Bool) (h : qB l = v) (w : World) :
    Calls Tryd.prog 17 #[.string ⟨l.toArray⟩] w fun e w' => e = .returned (.bool v) ∧ w = w' := h ▸ quoted_any l w

/-- Cells and a flag, in new memory. -/
def Cells (w : World) (l : List Int) (v : Bool) (e : Ending) (w' : World) : Prop := ∃ A n c, e = .returned (.tuple #[.slice A n c, .bool v]) ∧ Stk w' A n c l ∧ Keeps w w'
theorem stk_one (w : World) (x : Int) : Stk (w.alloc (.cells #[.int .i64 x] 3)) (some ⟨w.heap.size, 0, none⟩) 1 1 [x] :=
  ⟨rfl, by omega, fun _ => ⟨_, _, rfl, by simp, fun j hj => by simp at hj; subst hj; simp [go_sem]⟩, fun h => by cases h⟩
theorem stk_two (w : World) (x y : Int) : Stk (w.alloc (.cells #[.int .i64 x, .int .i64 y] 3)) (some ⟨w.heap.size, 0, none⟩) 2 2 [x, y] :=
  ⟨rfl, by omega, fun _ => ⟨_, _, rfl, by simp, fun j hj => by
    simp at hj
    match j, hj with
    | 0, _ => simp [go_sem]
    | 1, _ => simp [go_sem]⟩, fun h => by cases h⟩
theorem between_any (a b c : UInt8) (base : Int) (w : World) :
    Calls Tryd.prog 18 #[.string ⟨#[a, b, c]⟩, .int .i64 base] w (Cells w (if baB base then [(b.toNat : Int)] else []) (baB base)) := by
  obtain ⟨S, hS⟩ : ∃ S : ByteArray, S = ⟨#[a, b, c]⟩ := ⟨_, rfl⟩
  have hn : S.size = 3 := by rw [hS]; rfl
  have h0 : (1 : Int) < (S.size : Int) := by omega
  have e0 : ∀ k, S[(1 : Nat)]'k = b := by intro k; subst hS; rfl
  rw [← hS]
  clear hS hn
  cases hb : baB base
  · have HB := Lib.hid hb
    clear hb
    go_enter Tryd.func18, Tryd.ntmps18
    go_wp2_with (go_at_call 25; refine (isBase_is base false HB.out _).mono ?_; rintro e w' ⟨rfl, rfl⟩)
    go_ret2
    exact ⟨_, _, _, rfl, Stk.nil, Keeps.refl _⟩
  · have HB := Lib.hid hb
    clear hb
    have hb8 : (0 : Int) ≤ (b.toNat : Int) ∧ (b.toNat : Int) ≤ 255 := by have := b.toNat_lt; omega
    go_enter Tryd.func18, Tryd.ntmps18
    go_wp2_with (go_at_call 25; refine (isBase_is base true HB.out _).mono ?_; rintro e w' ⟨rfl, rfl⟩)
    go_ret2
    exact ⟨_, _, _, rfl, stk_one _ _, (Keeps.refl _).alloc _⟩

theorem dec_mark (c : UInt8) (t : List UInt8) (hc : c.toNat < 128) (w : World) (hT : Tabs w) :
    Calls Tryd.prog 28 #[.string ⟨(c :: t).toArray⟩] w fun e w' => e = .returned (.tuple #[.int .i32 (c.toNat : Int), .int .i64 1]) ∧ Below w.heap.size w w' := by
  refine (dec_any (c :: t) w hT).mono ?_
  rintro e w' ⟨r, k, rfl, hb, h⟩
  rcases h with ⟨c', t', h1, h2, h3, h4⟩ | ⟨_, h⟩
  · cases h1; subst h3; subst h4; exact ⟨rfl, hb⟩
  · have := h c t rfl; omega
theorem dec_other (l : List UInt8) (h : mkA l = false) (w : World) (hT : Tabs w) :
    Calls Tryd.prog 28 #[.string ⟨l.toArray⟩] w fun e w' => ∃ r k : Int, e = .returned (.tuple #[.int .i32 r, .int .i64 k]) ∧ (r == 35) = false ∧ (r == 36) = false ∧ (r == 37) = false ∧ Below w.heap.size w w' := by
  refine (dec_any l w hT).mono ?_
  rintro e w' ⟨r, k, rfl, hb, hr⟩
  have hne : r ≠ 35 ∧ r ≠ 36 ∧ r ≠ 37 := by
    rcases hr with ⟨c, t, rfl, h2, rfl, _⟩ | ⟨h1, _⟩
    · have h' : c ≠ 35 ∧ c ≠ 36 ∧ c ≠ 37 := by simpa [mkA] using h
      refine ⟨fun e => h'.1 ?_, fun e => h'.2.1 ?_, fun e => h'.2.2 ?_⟩ <;> (apply UInt8.toNat_inj.1; rw [e]; rfl)
    · omega
  exact ⟨r, k, rfl, by simp; omega, by simp; omega, by simp; omega, hb⟩
theorem mk_none {b : Int} {l : List UInt8} (h : mkA l = false) : mkB b l = b ∧ mkL l = l := by
  unfold mkL mkB
  rw [h]
  simp only [mkA, Bool.or_eq_false_iff, beq_eq_false_iff_ne, ne_eq] at h
  rw [if_neg h.1, if_neg h.2.1, if_neg h.2.2]
  exact ⟨rfl, rfl⟩
theorem ret_si {s t : ByteArray} {a b : Int} (h : s = t) (k : a = b) : Ending.returned (.tuple #[.string s, .int .i64 a]) = .returned (.tuple #[.string t, .int .i64 b]) := by rw [h, k]
theorem marked_none (l : List UInt8) (b : Int) (h : mkA l = false) (w : World) (hT : Tabs w) :
    Calls Tryd.prog 19 #[.string ⟨l.toArray⟩, .int .i64 b] w fun e w' => e = .returned (.tuple #[.string ⟨l.toArray⟩, .int .i64 b]) ∧ Below w.heap.size w w' := by
  obtain ⟨S, hS⟩ : ∃ S : ByteArray, S = ⟨l.toArray⟩ := ⟨_, rfl⟩
  have HD := Lib.hid (dec_other l h w hT)
  rw [← hS] at HD ⊢
  clear hS
  have HA := Lib.hid h
  clear h
  go_enter Tryd.func19, Tryd.ntmps19
  go_wp2_with (go_at_call 28; refine HD.out.mono ?_; rintro e w' ⟨r, k, rfl, h1, h2, h3, hb⟩)
  go_ret2
  exact ⟨rfl, hb⟩
theorem marked_one (c : UInt8) (t : List UInt8) (b x : Int) (hc : c = 35 ∧ x = 10 ∨ c = 36 ∧ x = 16 ∨ c = 37 ∧ x = 2) (w : World) (hT : Tabs w) (hm : t.length ≤ 9223372036854775000) :
    Calls Tryd.prog 19 #[.string ⟨(c :: t).toArray⟩, .int .i64 b] w fun e w' => e = .returned (.tuple #[.string ⟨t.toArray⟩, .int .i64 x]) ∧ Below w.heap.size w w' := by
  obtain ⟨S, hS⟩ : ∃ S : ByteArray, S = ⟨(c :: t).toArray⟩ := ⟨_, rfl⟩
  have hl : c.toNat < 128 := by rcases hc with ⟨rfl, _⟩ | ⟨rfl, _⟩ | ⟨rfl, _⟩ <;> decide
  have HD := Lib.hid (dec_mark c t hl w hT)
  have hz : S.size = t.length + 1 := by rw [hS, size_mk]; rfl
  have h1 : (1 : Int) ≤ (S.size : Int) := by omega
  have HX : Hid (S.extract 1 S.size = ⟨t.toArray⟩) := Lib.hid (by rw [hz, hS, ByteArray.extract_mk]; simp)
  rw [← hS] at HD ⊢
  clear hS hz hl
  rcases hc with ⟨rfl, rfl⟩ | ⟨rfl, rfl⟩ | ⟨rfl, rfl⟩
  all_goals
    go_enter Tryd.func19, Tryd.ntmps19
    go_wp2_with (go_at_call 28; refine HD.out.mono ?_; rintro e w' ⟨rfl, hb⟩)
    go_ret2
    exact ⟨ret_si HX.out rfl, hb⟩
theorem keeps_of_below {W W' : World} (h : Below W.heap.size W W') : Keeps W W' := ⟨h.os, h.output, h.size, h.block⟩
theorem Tabs.keeps {w w' : World} (h : Tabs w) (k : Keeps w w') : Tabs w' := by
  have hb : Below w.heap.size w { w' with tape := w.tape } := ⟨k.os, rfl, k.output, k.size, k.block⟩
  have h2 := h.below hb
  exact h2
theorem marked_any (l : List UInt8) (b : Int) (w : World) (hT : Tabs w) (hm : l.length ≤ 9223372036854775000) :
    Calls Tryd.prog 19 #[.string ⟨l.toArray⟩, .int .i64 b] w fun e w' => e = .returned (.tuple #[.string ⟨(mkL l).toArray⟩, .int .i64 (mkB b l)]) ∧ Keeps w w' := by
  suffices h : Calls Tryd.prog 19 #[.string ⟨l.toArray⟩, .int .i64 b] w fun e w' => e = .returned (.tuple #[.string ⟨(mkL l).toArray⟩, .int .i64 (mkB b l)]) ∧ Below w.heap.size w w' from
    h.mono fun _ _ hh => ⟨hh.1, keeps_of_below hh.2⟩
  cases h : mkA l with
  | false => rw [(mk_none (b := b) h).1, (mk_none (b := b) h).2]; exact marked_none l b h w hT
  | true =>
    cases l with
    | nil => cases h
    | cons c t =>
      have hL : mkL (c :: t) = t := by unfold mkL; rw [h]; rfl
      rw [hL]
      refine marked_one c t b _ ?_ w hT (by simp at hm; omega)
      have h' : c = 35 ∨ c = 36 ∨ c = 37 := by simpa [mkA] using h
      rcases h' with rfl | rfl | rfl
      · exact .inl ⟨rfl, rfl⟩
      · exact .inr (.inl ⟨rfl, rfl⟩)
      · exact .inr (.inr ⟨rfl, rfl⟩)
end Go.Proofs.YthifehekhcmldaaDoor
