/-
  What follows of threads that are built, in plain words: each word keeps them sane, lets them grow, and leads nowhere else.
-/
import Derived.Test.YtkcpmjccggfpiaaFlowMath
namespace Go.Proofs.Ytkcpmjccggfpiaa

theorem there_mono {n n' : Nat} {a : Int} (h : flThere n a = true) (hn : n ≤ n') : flThere n' a = true := by
  unfold flThere at h ⊢
  have := of_decide_eq_true h
  exact decide_eq_true (by omega)
theorem there_nat {n a : Nat} (h : a < n) : flThere n (a : Int) = true := by unfold flThere; exact decide_eq_true (by omega)
theorem mark_mono {n n' : Nat} {m : Int × Int} (h : flMark n m = true) (hn : n ≤ n') : flMark n' m = true := by
  obtain ⟨k, a⟩ := m
  unfold flMark at h ⊢
  simp only [Bool.or_eq_true, Bool.and_eq_true, beq_iff_eq] at h ⊢
  rcases h with ⟨h1, h2⟩ | ⟨h1, h2 | h2⟩
  · exact .inl ⟨h1, there_mono h2 hn⟩
  · exact .inr ⟨h1, .inl (there_mono h2 hn)⟩
  · rcases Nat.lt_or_ge n n' with h3 | h3
    · exact .inr ⟨h1, .inl (by rw [h2]; exact there_nat h3)⟩
    · exact .inr ⟨h1, .inr (by rw [h2]; congr 1; omega)⟩
theorem mark_at {n : Nat} {m : Int × Int} (h : flMark n m = true) : flThere (n + 1) m.2 = true := by
  obtain ⟨k, a⟩ := m
  unfold flMark at h
  simp only [Bool.or_eq_true, Bool.and_eq_true, beq_iff_eq] at h
  rcases h with ⟨h1, h2⟩ | ⟨h1, h2 | h2⟩
  · exact there_mono h2 (by omega)
  · exact there_mono h2 (by omega)
  · show flThere (n + 1) a = true
    rw [h2]; exact there_nat (by omega)
theorem mark_orig {n : Nat} {a : Int} (h : flMark n (1, a) = true) : flThere n a = true := by
  unfold flMark at h
  simpa using h
theorem out_mono {d d' n n' : Nat} {m : Int × Int} (h : flOut d n m = true) (hd : d ≤ d') (hn : n ≤ n') : flOut d' n' m = true := by
  unfold flOut at h ⊢
  simp only [Bool.and_eq_true, decide_eq_true_eq] at h ⊢
  exact ⟨⟨h.1.1, by omega⟩, there_mono h.2 hn⟩
theorem sane_iff (b : Bd) : flSane b = true ↔ b.code.length ≤ 4096 ∧ (∀ m ∈ b.marks, flMark b.code.length m = true) ∧ ∀ m ∈ b.outs, flOut (flDeep b.marks) b.code.length m = true := by
  unfold flSane
  simp only [Bool.and_eq_true, decide_eq_true_eq, List.all_eq_true]
  exact ⟨fun h => ⟨h.1.1, h.1.2, h.2⟩, fun h => ⟨⟨h.1, h.2.1⟩, h.2.2⟩⟩
theorem snd_of {b : Bd} (h : flSane b = true) : flSnd b = b := by unfold flSnd; rw [if_pos h]
theorem snd_is (b : Bd) : flSane (flSnd b) = true := by
  unfold flSnd
  split
  · assumption
  · rfl
/-- All that leads leads to a place that is there, or to the next one. -/
def flInv (b : Bd) : Prop := ∀ i ∈ b.code, flLed (b.code.length + 1) i = true
theorem led_mono {n n' : Nat} {i : Int × Int} (h : flLed n i = true) (hn : n ≤ n') : flLed n' i = true := by
  unfold flLed at h ⊢
  simp only [Bool.or_eq_true] at h ⊢
  exact h.imp id fun h => there_mono h hn
theorem led_of {n : Nat} {o a : Int} (h : flThere n a = true) : flLed n (o, a) = true := by unfold flLed; simp [h]
/-- b' is b, further: its first operations are b's, two more at most. -/
def flGrow (q : Nat) (b b' : Bd) : Prop := ∃ y : List Int, y.length ≤ q ∧ b'.code.map (·.1) = b.code.map (·.1) ++ y
theorem flGrow.len {q : Nat} {b b' : Bd} (h : flGrow q b b') : b.code.length ≤ b'.code.length ∧ b'.code.length ≤ b.code.length + q := by
  obtain ⟨y, hy, h⟩ := h
  have := congrArg List.length h
  simp at this
  omega
theorem flGrow.refl (q : Nat) (b : Bd) : flGrow q b b := ⟨[], by simp, by simp⟩
theorem flGrow.trans {p q : Nat} {a b c : Bd} (h : flGrow p a b) (h' : flGrow q b c) : flGrow (p + q) a c := by
  obtain ⟨y, hy, h⟩ := h
  obtain ⟨z, hz, h'⟩ := h'
  exact ⟨y ++ z, by simp; omega, by rw [h', h, List.append_assoc]⟩
theorem set_fst (n : Nat) (c : List (Int × Int)) (a : Int) : (flSet n c a).map (·.1) = c.map (·.1) := by
  unfold flSet
  apply List.ext_getElem?
  intro i
  simp only [List.getElem?_map, List.getElem?_set]
  split
  · rename_i h
    subst h
    split
    · rename_i h2
      simp [List.getD, h2]
    · rename_i h2
      simp [h2]
  · rfl
theorem res_fst (n : Nat) (l : List Int) (c : List (Int × Int)) : (flRes n c l).map (·.1) = c.map (·.1) := by
  induction l generalizing c with
  | nil => rfl
  | cons a l ih => show (flRes n (flSet n c a) l).map (·.1) = _; rw [ih, set_fst]
theorem grow_res (b : Bd) (l : List Int) : flGrow 0 b (resB b l) := ⟨[], by simp, by simp [resB, res_fst]⟩
theorem grow_lay (b : Bd) (x : List (Int × Int)) : flGrow x.length b (layB b x) := by
  unfold layB
  split
  · exact flGrow.refl _ _
  · exact ⟨x.map (·.1), by simp, by simp⟩
theorem mem_set {n : Nat} {c : List (Int × Int)} {a : Int} {i : Int × Int} (h : i ∈ flSet n c a) : i ∈ c ∨ i.2 = (n : Int) := by
  unfold flSet at h
  rcases List.mem_or_eq_of_mem_set h with h | h
  · exact .inl h
  · exact .inr (by rw [h])
theorem mem_res {n : Nat} {l : List Int} {c : List (Int × Int)} {i : Int × Int} (h : i ∈ flRes n c l) : i ∈ c ∨ i.2 = (n : Int) := by
  induction l generalizing c with
  | nil => exact .inl h
  | cons a l ih =>
    rcases ih (c := flSet n c a) h with h | h
    · exact mem_set h
    · exact .inr h
theorem inv_res {b : Bd} (h : flInv b) (l : List Int) : flInv (resB b l) := by
  intro i hi
  have hl : (resB b l).code.length = b.code.length := flRes_length _ _ _
  rw [hl]
  rcases mem_res hi with h1 | h1
  · exact h i h1
  · obtain ⟨o, a⟩ := i
    have : a = (b.code.length : Int) := h1
    subst this
    exact led_of (there_nat (by omega))
theorem inv_lay {b : Bd} (h : flInv b) (x : List (Int × Int)) (hx : ∀ i ∈ x, flLed (b.code.length + 1) i = true) : flInv (layB b x) := by
  unfold layB
  split
  · exact h
  · intro i hi
    simp only [List.length_append]
    rcases List.mem_append.1 hi with h1 | h1
    · exact led_mono (h i h1) (by omega)
    · exact led_mono (hx i h1) (by omega)
theorem layE_zero {b : Bd} {k : Nat} (h : layE b k = 0) : ¬ 4096 < b.code.length + k := by
  unfold layE at h
  split at h
  · cases h
  · assumption
theorem layE_of {b : Bd} {k : Nat} (h : b.code.length + k ≤ 4096) : layE b k = 0 := by unfold layE; rw [if_neg (by omega)]
theorem layB_of {b : Bd} {x : List (Int × Int)} (h : ¬ 4096 < b.code.length + x.length) : layB b x = ⟨b.code ++ x, b.marks, b.outs⟩ := by unfold layB; rw [if_neg h]
-- Sane: what is laid, marked, resolved, told to lead out.
theorem sane_lay {b : Bd} (h : flSane b = true) (x : List (Int × Int)) : flSane (layB b x) = true := by
  unfold layB
  split
  · exact h
  · rename_i hn
    rw [sane_iff] at h ⊢
    exact ⟨by simp; omega, fun m hm => mark_mono (h.2.1 m hm) (by simp), fun m hm => out_mono (h.2.2 m hm) (Nat.le_refl _) (by simp)⟩
theorem sane_mark {b : Bd} (h : flSane b = true) {k a : Int} (hm : flMark b.code.length (k, a) = true) : flSane (markB b k a) = true := by
  rw [sane_iff] at h ⊢
  refine ⟨h.1, fun m hm2 => ?_, fun m hm2 => out_mono (h.2.2 m hm2) (by show flDeep b.marks ≤ flDeep (b.marks ++ [(k, a)]); rw [flDeep_snoc]; omega) (Nat.le_refl _)⟩
  rcases List.mem_append.1 hm2 with h1 | h1
  · exact h.2.1 m h1
  · rw [List.mem_singleton.1 h1]; exact hm
theorem sane_res {b : Bd} (h : flSane b = true) (l : List Int) : flSane (resB b l) = true := by
  rw [sane_iff] at h ⊢
  have hl : (resB b l).code.length = b.code.length := flRes_length _ _ _
  rw [hl]
  exact h
theorem sane_out {b : Bd} (h : flSane b = true) {a : Int} (ha : flThere b.code.length a = true) (hd : 0 < flDeep b.marks) : flSane (outB b a) = true := by
  rw [sane_iff] at h ⊢
  refine ⟨h.1, h.2.1, fun m hm => ?_⟩
  rcases List.mem_append.1 hm with h1 | h1
  · exact h.2.2 m h1
  · rw [List.mem_singleton.1 h1]
    unfold flOut
    simp only [Bool.and_eq_true, decide_eq_true_eq]
    exact ⟨⟨by omega, Int.le_refl _⟩, ha⟩
-- The mark on top.
theorem top_split {b : Bd} (h : topK b ≠ 0) : b.marks = (takeB b).marks ++ [(topK b, topA b)] := by
  unfold topK topA takeB at *
  rcases List.eq_nil_or_concat b.marks with e | ⟨l, x, e⟩
  · rw [e] at h; exact absurd rfl h
  · rw [e]; simp [List.getLastD_eq_getLast?]
theorem top_mem {b : Bd} (h : topK b ≠ 0) : (topK b, topA b) ∈ b.marks := by rw [top_split h]; simp
theorem deep_take {b : Bd} (h : topK b ≠ 0) : flDeep b.marks = flDeep (takeB b).marks + if topK b == 3 then 1 else 0 := by
  have := congrArg flDeep (top_split h)
  rw [flDeep_snoc] at this
  exact this
theorem sane_take {b : Bd} (h : flSane b = true) (hk : topK b ≠ 0) (h3 : topK b ≠ 3) : flSane (takeB b) = true := by
  have hd := deep_take hk
  rw [show (topK b == 3) = false by simpa using h3] at hd
  simp at hd
  rw [sane_iff] at h ⊢
  refine ⟨h.1, fun m hm => h.2.1 m ?_, fun m hm => ?_⟩
  · rw [top_split hk]; exact List.mem_append_left _ hm
  · rw [← hd]; exact h.2.2 m hm
theorem top_mark {b : Bd} (h : flSane b = true) (hk : topK b ≠ 0) : flMark b.code.length (topK b, topA b) = true := ((sane_iff b).1 h).2.1 _ (top_mem hk)
theorem lay1 {b : Bd} {o a : Int} (h : layE b 1 = 0) : layB b [(o, a)] = ⟨b.code ++ [(o, a)], b.marks, b.outs⟩ := layB_of (layE_zero h)
theorem take_code (b : Bd) : (takeB b).code = b.code := rfl
theorem layE_take (b : Bd) (k : Nat) : layE (takeB b) k = layE b k := rfl

/-- Which kinds are on the marks. -/
def flK (b : Bd) : List Int := b.marks.map (·.1)
theorem flK_mark (b : Bd) (k a : Int) : flK (markB b k a) = flK b ++ [k] := by simp [flK, markB]
theorem flK_lay (b : Bd) (x : List (Int × Int)) : flK (layB b x) = flK b := by unfold layB; split <;> rfl
theorem flK_res (b : Bd) (l : List Int) : flK (resB b l) = flK b := rfl
theorem flK_out (b : Bd) (a : Int) : flK (outB b a) = flK b := rfl
theorem flK_take (b : Bd) : flK (takeB b) = (flK b).dropLast := by simp [flK, takeB]
theorem flK_top (b : Bd) : topK b = (flK b).getLastD 0 := by
  unfold topK flK
  rcases List.eq_nil_or_concat b.marks with e | ⟨l, x, e⟩ <;> rw [e] <;> simp [List.getLastD_eq_getLast?]
theorem flK_deep (b : Bd) : flDeep b.marks = (flK b).countP (· == 3) := by
  unfold flDeep flK
  rw [List.countP_map]
  rfl
theorem flK_len (b : Bd) : (flK b).length = b.marks.length := by simp [flK]

-- Each word: sane, grown, led; what stands on the marks.
/-- What a word that is taken leaves: sane, grown by p at most. -/
structure Took (b b' : Bd) (p : Nat) : Prop where
  sane : flSane b' = true
  grow : flGrow p b b'
  inv : flInv b → flInv b'
theorem took_ahead {b : Bd} (h : flSane b = true) (o : Int) (he : layE b 1 = 0) : Took b (aheadB b o) 1 := by
  unfold aheadB
  refine ⟨sane_mark (sane_lay h _) ?_, grow_lay b [(o, 0)], fun hi => inv_lay hi [(o, 0)] (fun i hi => ?_)⟩
  · rw [lay1 he]
    unfold flMark
    simp [flThere]
    omega
  · rw [List.mem_singleton.1 hi]; exact led_of (there_nat (a := 0) (by omega))
theorem took_begin {b : Bd} (h : flSane b = true) (o : Int) : Took b (beginB b o) 1 := by
  unfold beginB
  refine ⟨sane_mark (sane_lay h _) ?_, grow_lay b [(o, 0)], fun hi => inv_lay hi [(o, 0)] (fun i hi => ?_)⟩
  · unfold flMark
    simp
  · rw [List.mem_singleton.1 hi]; exact led_of (there_nat (a := 0) (by omega))
theorem grow_mono {p q : Nat} {b b' : Bd} (h : flGrow p b b') (hq : p ≤ q) : flGrow q b b' := by obtain ⟨y, hy, h⟩ := h; exact ⟨y, by omega, h⟩
theorem took_take {b : Bd} (h : flSane b = true) (hk : topK b ≠ 0) (h3 : topK b ≠ 3) : Took b (takeB b) 0 := ⟨sane_take h hk h3, flGrow.refl _ _, id⟩
theorem took_res {b : Bd} (h : flSane b = true) (l : List Int) : Took b (resB b l) 0 := ⟨sane_res h l, grow_res b l, fun hi => inv_res hi l⟩
theorem Took.trans {a b c : Bd} {p q : Nat} (h : Took a b p) (h' : Took b c q) : Took a c (p + q) := ⟨h'.sane, h.grow.trans h'.grow, fun hi => h'.inv (h.inv hi)⟩
theorem Took.mono {a b : Bd} {p q : Nat} (h : Took a b p) (hq : p ≤ q) : Took a b q := ⟨h.sane, grow_mono h.grow hq, h.inv⟩
theorem took_lay {b : Bd} (h : flSane b = true) (o a : Int) (ha : flThere (b.code.length + 1) a = true) : Took b (layB b [(o, a)]) 1 :=
  ⟨sane_lay h _, grow_lay b [(o, a)], fun hi => inv_lay hi _ (fun i hi => by rw [List.mem_singleton.1 hi]; exact led_of ha)⟩
theorem took_mark {b : Bd} (h : flSane b = true) {k a : Int} (hm : flMark b.code.length (k, a) = true) : Took b (markB b k a) 0 := ⟨sane_mark h hm, flGrow.refl _ _, id⟩
theorem took_end {b : Bd} (h : flSane b = true) (o : Int) (he : backE b 3 = 0) : Took b (endB b o) 1 := by
  have hk : topK b = 3 := by
    unfold backE at he
    split at he
    · assumption
    · cases he
  have hl : layE (takeB b) 1 = 0 := by unfold backE at he; rw [if_pos hk] at he; exact he
  have hk0 : topK b ≠ 0 := by rw [hk]; decide
  have hd := deep_take hk0
  rw [show (topK b == 3) = true by rw [hk]; rfl] at hd
  simp at hd
  unfold endB
  rw [if_pos he]
  unfold backB
  rw [if_pos hk, lay1 hl]
  have hm := mark_at (top_mark h hk0)
  have hs := (sane_iff b).1 h
  refine Took.trans (b := ⟨b.code ++ [(o, topA b)], (takeB b).marks, othersB (flDeep b.marks) b.outs⟩) (p := 1) (q := 0) ⟨?_, ⟨[o], by simp, by simp⟩, fun hi i hmem => ?_⟩ (took_res ?_ _)
  case refine_1 | refine_3 =>
    rw [sane_iff]
    refine ⟨by have := layE_zero hl; simp [takeB] at this ⊢; omega, fun m hm2 => mark_mono (hs.2.1 m (by rw [top_split hk0]; exact List.mem_append_left _ hm2)) (by simp), fun m hm2 => ?_⟩
    have h2 := List.mem_filter.1 hm2
    have h3 := hs.2.2 m h2.1
    unfold flOut at h3 ⊢
    simp only [Bool.and_eq_true, decide_eq_true_eq] at h3 ⊢
    have h4 : m.1 ≠ (flDeep b.marks : Int) := by simpa using h2.2
    exact ⟨⟨h3.1.1, by show m.1 ≤ (flDeep (takeB b).marks : Int); omega⟩, there_mono h3.2 (by simp)⟩
  · simp only [List.length_append, List.length_cons, List.length_nil]
    rcases List.mem_append.1 hmem with h1 | h1
    · exact led_mono (hi i h1) (by omega)
    · rw [List.mem_singleton.1 h1]; exact led_of (there_mono hm (by omega))
theorem deep_lay (b : Bd) (x : List (Int × Int)) : flDeep (layB b x).marks = flDeep b.marks := by unfold layB; split <;> rfl
theorem wd_took {b : Bd} (h : flSane b = true) (d : Wd) (he : wdE b d = 0) : Took b (wdB b d) 2 := by
  have neg : ∀ {p : Prop} [Decidable p] {x : Int}, (if p then x else (-22 : Int)) = 0 → p ∧ x = 0 := by
    intro p _ x h
    split at h
    · exact ⟨by assumption, h⟩
    · cases h
  cases d
  case if_ => exact (took_ahead h 2 he).mono (by omega)
  case else_ =>
    obtain ⟨hk, he⟩ := neg he
    have hk0 : topK b ≠ 0 := by rw [hk]; decide
    have hk3 : topK b ≠ 3 := by rw [hk]; decide
    simp only [wdB, if_pos hk]
    exact ((took_take h hk0 hk3).trans ((took_ahead (sane_take h hk0 hk3) 1 he).trans (took_res (took_ahead (sane_take h hk0 hk3) 1 he).sane _))).mono (by omega)
  case then_ =>
    obtain ⟨hk, he⟩ := neg he
    have hk0 : topK b ≠ 0 := by rw [hk]; decide
    have hk3 : topK b ≠ 3 := by rw [hk]; decide
    simp only [wdB, if_pos hk]
    exact ((took_take h hk0 hk3).trans (took_res (sane_take h hk0 hk3) _)).mono (by omega)
  case begin_ => exact (took_mark h (k := 2) (a := (b.code.length : Int)) (by unfold flMark; simp)).mono (by omega)
  case again | until_ =>
    have he' : backE b 2 = 0 := he
    unfold backE at he'
    obtain ⟨hk, he'⟩ := neg he'
    have hk0 : topK b ≠ 0 := by rw [hk]; decide
    have hk3 : topK b ≠ 3 := by rw [hk]; decide
    simp only [wdB, backB, if_pos hk]
    exact ((took_take h hk0 hk3).trans (took_lay (sane_take h hk0 hk3) _ (topA b) (mark_at (m := (topK b, topA b)) (top_mark h hk0)))).mono (by omega)
  case while_ =>
    obtain ⟨hk, he⟩ := neg he
    have hk0 : topK b ≠ 0 := by rw [hk]; decide
    have hk3 : topK b ≠ 3 := by rw [hk]; decide
    simp only [wdB, if_pos hk]
    have t := took_ahead (sane_take h hk0 hk3) 2 he
    refine ((took_take h hk0 hk3).trans (t.trans (took_mark t.sane ?_))).mono (by omega)
    have := top_mark h hk0
    rw [hk] at this
    exact mark_mono this t.grow.len.1
  case repeat_ =>
    obtain ⟨hk, he⟩ := neg he
    obtain ⟨hk2, he⟩ := neg he
    have hk0 : topK b ≠ 0 := by rw [hk]; decide
    have hk3 : topK b ≠ 3 := by rw [hk]; decide
    have hj0 : topK (takeB b) ≠ 0 := by rw [hk2]; decide
    have hj3 : topK (takeB b) ≠ 3 := by rw [hk2]; decide
    simp only [wdB, if_pos hk, if_pos hk2]
    have t1 := took_take h hk0 hk3
    have t2 := took_take t1.sane hj0 hj3
    have t3 := took_lay t2.sane 1 (topA b) (mark_at (m := (topK b, topA b)) (top_mark h hk0))
    exact (t1.trans (t2.trans (t3.trans (took_res t3.sane _)))).mono (by omega)
  case do_ => exact (took_begin h 5).mono (by omega)
  case mayDo =>
    have t := took_begin h 6
    have hl : (beginB b 6).code.length = b.code.length + 1 := by unfold beginB markB; rw [lay1 he]; simp
    refine ⟨sane_out t.sane (by rw [hl]; exact there_nat (by omega)) ?_, grow_mono t.grow (by omega), t.inv⟩
    unfold beginB markB
    simp only [flDeep_snoc]
    simp
  case loop_ | plusLoop => exact (took_end h _ he).mono (by omega)
  case leave =>
    have he2 : (if flDeep b.marks = 0 then (-22 : Int) else layE b 2) = 0 := he
    split at he2
    · cases he2
    · rename_i hd
      simp only [wdB, if_neg hd]
      have hl := layB_of (x := [(9, 0), (1, 0)]) (layE_zero he2)
      have t : Took b (layB b [(9, 0), (1, 0)]) 2 := ⟨sane_lay h _, grow_lay b [(9, 0), (1, 0)], fun hi => inv_lay hi _ (fun i hi => by
        simp at hi
        rcases hi with rfl | rfl <;> exact led_of (there_nat (a := 0) (by omega)))⟩
      have hlen : (layB b [(9, 0), (1, 0)]).code.length = b.code.length + 2 := by rw [hl]; simp
      refine ⟨sane_out t.sane ?_ (by rw [deep_lay]; omega), t.grow, t.inv⟩
      rw [hlen]
      unfold flThere
      exact decide_eq_true ⟨by omega, by omega⟩
theorem wd_took' {b : Bd} (h : flSane b = true) (d : Wd) : Took b (wdN b d) 2 := by
  unfold wdN
  split
  · exact wd_took h d (by assumption)
  · exact ⟨h, flGrow.refl _ _, id⟩
/-- How many marks. -/
theorem wd_marks (b : Bd) (d : Wd) (he : wdE b d = 0) : (wdB b d).marks.length ≤ b.marks.length + 1 ∧ b.marks.length ≤ (wdB b d).marks.length + 2 := by
  have hlay : ∀ (c : Bd) (x : List (Int × Int)), (layB c x).marks = c.marks := fun c x => by unfold layB; split <;> rfl
  have hbk : ∀ k o, (backB b k o).marks.length ≤ b.marks.length ∧ b.marks.length ≤ (backB b k o).marks.length + 1 := by
    intro k o
    unfold backB
    split
    · rw [hlay]; simp [takeB]; omega
    · exact ⟨Nat.le_refl _, by omega⟩
  have hend : ∀ o, (endB b o).marks.length ≤ b.marks.length ∧ b.marks.length ≤ (endB b o).marks.length + 1 := by
    intro o
    have := hbk 3 o
    unfold endB
    split
    · exact this
    · exact this
  have hw : topK b = 2 → 0 < b.marks.length := fun h => by rw [top_split (b := b) (by rw [h]; decide)]; simp
  cases d
  case again | until_ => have := hbk 2; simp only [wdB]; have h1 := this 1; have h2 := this 2; omega
  case loop_ | plusLoop => have := hend; simp only [wdB]; have h1 := this 7; have h2 := this 8; omega
  all_goals
    simp only [wdB]
    (try split) <;> (try split) <;> (try simp only [aheadB, beginB, markB, resB, outB, takeB, hlay, List.length_append, List.length_dropLast, List.length_cons, List.length_nil]) <;> (first | omega | (have := hw (by assumption); omega))
theorem wd_whole {b : Bd} (h : flInv b) (hE : finE b = 0) : flWhole (finL b) = true ∧ (finL b).length = b.code.length + 1 := by
  have hl : finL b = b.code ++ [(4, 0)] := by unfold finL; rw [if_pos hE]
  rw [hl]
  refine ⟨?_, by simp⟩
  have hne : ∀ l : List (Int × Int), flEnds (l ++ [(4, 0)]) = true := by
    intro l
    cases l with
    | nil => rfl
    | cons x l =>
      show ((((x :: l) ++ [((4 : Int), (0 : Int))]).getLast (by simp)).1 == 4) = true
      rw [List.getLast_append_of_ne_nil _ (by simp)]
      rfl
  unfold flWhole
  rw [hne, Bool.true_and, List.all_eq_true]
  intro i hi
  rcases List.mem_append.1 hi with h1 | h1
  · have := h i h1
    simpa using this
  · rw [List.mem_singleton.1 h1]; rfl
theorem outs_none {b : Bd} (h : flSane b = true) (hm : b.marks = []) : b.outs = [] := by
  have h2 := ((sane_iff b).1 h).2.2
  rcases ho : b.outs with _ | ⟨x, l⟩
  · rfl
  · have := h2 x (by rw [ho]; simp)
    rw [hm] at this
    unfold flOut at this
    simp only [Bool.and_eq_true, decide_eq_true_eq] at this
    have h3 := this.1
    simp [flDeep] at h3
    omega
theorem grow_get {q : Nat} {b b' : Bd} (h : flGrow q b b') (i : Nat) (hi : i < b.code.length) : (b'.code.getD i (0, 0)).1 = (b.code.getD i (0, 0)).1 := by
  obtain ⟨y, _, h⟩ := h
  have h2 := congrArg (fun l => l[i]?) h
  simp only [List.getElem?_map] at h2
  rw [List.getElem?_append_left (by simpa using hi), List.getElem?_map] at h2
  have hlen := flGrow.len ⟨y, Nat.le_refl _, h⟩
  rw [List.getElem?_eq_getElem hi, List.getElem?_eq_getElem (by omega : i < b'.code.length)] at h2
  simp at h2
  simp [List.getD, hi, (by omega : i < b'.code.length), h2]
end Go.Proofs.Ytkcpmjccggfpiaa
