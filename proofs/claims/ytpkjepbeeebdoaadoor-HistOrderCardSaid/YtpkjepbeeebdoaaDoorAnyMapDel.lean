/-
  Maps that the call made, keyed by integers: an entry is taken away, or written anew; how many there are; each at its operation, for the walk.
-/
import Derived.Test.YtpkjepbeeebdoaaDoorAnyMap
import Derived.Maps.OwnSet
namespace Go.Proofs.YtpkjepbeeebdoaaDoor
open Go.RowKit

section
variable {κ α : Type}
theorem fnd_some {eq : κ → κ → Bool} {ev : α → Value} {x : κ} : ∀ {l : List (κ × α)} {i m : Nat} {v : Value}, fnd eq ev x l i = some (m, v) → i ≤ m ∧ ∃ p, l[m - i]? = some p ∧ eq x p.1 = true ∧ v = ev p.2
  | [], _, _, _, h => by cases h
  | p :: l, i, m, v, h => by
    unfold fnd at h
    split at h
    · next hx => cases h; exact ⟨Nat.le_refl _, p, by simp, hx, rfl⟩
    · obtain ⟨h1, q, h2, h3, h4⟩ := fnd_some h
      refine ⟨by omega, q, ?_, h3, h4⟩
      rw [show m - i = (m - (i + 1)) + 1 by omega]
      simpa using h2
theorem map_erase {β γ : Type} (f : β → γ) : ∀ (l : List β) (i : Nat), (l.eraseIdx i).map f = (l.map f).eraseIdx i
  | [], _ => by simp
  | x :: l, 0 => by simp
  | x :: l, i + 1 => by simp [map_erase f l i]
/-- What is left where the first entry of a key is taken away. -/
def dl (eq : κ → κ → Bool) (x : κ) : List (κ × α) → List (κ × α)
  | [] => []
  | p :: l => if eq x p.1 then l else p :: dl eq x l
theorem dl_some {eq : κ → κ → Bool} {ev : α → Value} {x : κ} : ∀ {l : List (κ × α)} {i m : Nat} {v : Value}, fnd eq ev x l i = some (m, v) → dl eq x l = l.eraseIdx (m - i)
  | [], _, _, _, h => by cases h
  | p :: l, i, m, v, h => by
    unfold fnd at h
    unfold dl
    split at h
    · next hx => cases h; rw [if_pos hx]; simp
    · next hx =>
      rw [if_neg hx]
      have h1 := (fnd_some h).1
      rw [dl_some h, show m - i = (m - (i + 1)) + 1 by omega]
      rfl
theorem dl_none {eq : κ → κ → Bool} {ev : α → Value} {x : κ} : ∀ {l : List (κ × α)} {i : Nat}, fnd eq ev x l i = none → dl eq x l = l
  | [], _, _ => rfl
  | p :: l, i, h => by
    unfold fnd at h
    unfold dl
    split at h
    · cases h
    · next hx => rw [if_neg hx, dl_none h]
variable {M : MK κ α} {w w' : World} {ρ : Nat} {S : List (κ × α)}
theorem Mp.del (h : Mp M w ρ S) (x : κ) (ty : TypeId) : ∃ w', (Builtin.delete_ #[M.T, M.K] ty #[.map (some ρ), M.kv x]).run Tryd.prog w = .ok (.tuple #[]) w' ∧ Mp M w' ρ (dl M.eq x S) ∧ But ρ w w' := by
  obtain ⟨es, cl, h1, h2⟩ := h
  have hf := M.find x es.toList S w h2
  have hu := run_underlying M.under (w := w)
  cases hq : fnd M.eq M.ev x S 0 with
  | none =>
    rw [hq] at hf
    refine ⟨{ w with heap := w.heap.setIfInBounds ρ (.map es cl) }, ?_, ⟨_, _, (MapKept.heap_set h1).1, by rw [dl_none hq]; exact h2⟩, ⟨rfl, rfl, rfl, by simp, fun k _ hk => (MapKept.heap_set h1).2 k hk⟩⟩
    simp [Builtin.delete_, hu, MapKept.run_getObj_map h1, M.check, hf, MapKept.run_setObj_map _ h1]
  | some r =>
    obtain ⟨m, v⟩ := r
    rw [hq] at hf
    refine ⟨{ w with heap := w.heap.setIfInBounds ρ (.map (es.eraseIdxIfInBounds m) cl) }, ?_, ⟨_, _, (MapKept.heap_set h1).1, ?_⟩, ⟨rfl, rfl, rfl, by simp, fun k _ hk => (MapKept.heap_set h1).2 k hk⟩⟩
    · simp [Builtin.delete_, hu, MapKept.run_getObj_map h1, M.check, hf, MapKept.run_setObj_map _ h1]
    · rw [dl_some hq, Nat.sub_zero, Array.toList_eraseIdxIfInBounds, map_erase, h2, map_erase]
theorem Mp.len (h : Mp M w ρ S) (ty : TypeId) : (Builtin.len_ #[M.T] ty #[.map (some ρ)]).run Tryd.prog w = .ok (.int .i64 (S.length : Int)) w := by
  obtain ⟨es, cl, h1, h2⟩ := h
  have hl : es.size = S.length := by have := congrArg List.length h2; simpa using this
  simp [Builtin.len_, run_underlying M.under, MapKept.run_getObj_map h1, goInt, hl]
/-- A key that is there is stored again: of a set nothing changes. -/
theorem Mp.again [Subsingleton α] (h : Mp M w ρ S) (x : κ) (v : α) (hx : M.has S x = true) (he : ∀ y, M.eq x y = true → y = x) (hs : Instr.sameBits 10000 (M.kv x) (M.kv x) = true) :
    ∃ w', (Instr.mapUpdate M.T (.map (some ρ)) (M.kv x) (M.ev v)).run Tryd.prog w = .ok () w' ∧ Mp M w' ρ S ∧ But ρ w w' := by
  obtain ⟨es, cl, h1, h2⟩ := h
  have hf := M.find x es.toList S w h2
  have hl := fnd_look (eq := M.eq) (ev := M.ev) (x := x) (l := S) (i := 0)
  cases hq : fnd M.eq M.ev x S 0 with
  | none =>
    rw [hq] at hl
    unfold MK.has at hx
    cases hf : S.find? (fun p => M.eq x p.1) with
    | none => rw [hf] at hx; cases hx
    | some p => rw [hf] at hl; cases hl
  | some r =>
    obtain ⟨m, u⟩ := r
    rw [hq] at hf
    obtain ⟨_, p, h3, h4, h5⟩ := fnd_some hq
    rw [Nat.sub_zero] at h3
    have hk : p.1 = x := he _ h4
    have hv : p.2 = v := Subsingleton.elim _ _
    have h6 : (es.toList.map (fun e => (e.key, e.val)))[m]? = some (M.kv x, M.ev v) := by rw [h2, List.getElem?_map, h3]; simp [hk, hv]
    rw [List.getElem?_map] at h6
    obtain ⟨e0, h7, h8⟩ := Option.map_eq_some_iff.1 h6
    have h9 : es[m]? = some e0 := by simpa using h7
    cases e0 with
    | mk k0 v0 b0 =>
    simp only [Prod.mk.injEq] at h8
    obtain ⟨rfl, rfl⟩ := h8
    refine ⟨{ w with heap := w.heap.setIfInBounds ρ (.map (es.modify m fun e => { e with key := M.kv x, val := M.ev v }) cl) }, ?_, ⟨_, _, (MapKept.heap_set h1).1, ?_⟩, ⟨rfl, rfl, rfl, by simp, fun k _ hk => (MapKept.heap_set h1).2 k hk⟩⟩
    · simp only [Instr.mapUpdate, Sem.run_bind, run_underlying M.under, MapKept.run_getObj_map h1, M.check, hf, Result.andThen_ok, h9, Option.map_some, Option.getD_some, Instr.keyThatStays, hs, if_true, Sem.run_pure, MapKept.run_setObj_map _ h1]
    · rw [← h2]
      refine List.ext_getElem? fun j => ?_
      simp only [List.getElem?_map, Array.getElem?_toList, Array.getElem?_modify]
      by_cases hj : m = j
      · subst hj; rw [if_pos rfl, h9]; rfl
      · rw [if_neg hj]
variable {ops : Array Oper} {rest : List Oper} {o : Oper} {a : Act} {Q : Exit → Act → World → Prop}
theorem wpList_delMp (hg : o.guard = none) (m x : Operand) (hop : o.op = Op.call { callee := Callee.builtin Builtin.delete, args := #[m, x], argTypes := #[M.T, M.K] })
    (h : Mp M w ρ S) (hm : a.eval m = .map (some ρ)) (k : κ) (hx : a.eval x = M.kv k)
    (hK : ∀ w', Mp M w' ρ (dl M.eq k S) → But ρ w w' → wpList Tryd.prog ops Q rest (a.put o.dst (.tuple #[])) w') : wpList Tryd.prog ops Q (o :: rest) a w := by
  refine wpList_plain hg fun K' hK' => ?_
  obtain ⟨w', hrun, r1, r2⟩ := h.del k o.type
  unfold Oper.wp
  simp [execOp, hop, resolve, invoke, builtin, hm, hx, hrun, Result.andThen]
  exact hK' _ _ (hK w' r1 r2)
theorem wpList_lenMp (hg : o.guard = none) (m : Operand) (hop : o.op = Op.call { callee := Callee.builtin Builtin.len, args := #[m], argTypes := #[M.T] })
    (h : Mp M w ρ S) (hm : a.eval m = .map (some ρ)) (hK : wpList Tryd.prog ops Q rest (a.put o.dst (.int .i64 (S.length : Int))) w) : wpList Tryd.prog ops Q (o :: rest) a w := by
  refine wpList_plain hg fun K' hK' => ?_
  unfold Oper.wp
  simp [execOp, hop, resolve, invoke, builtin, hm, h.len o.type, Result.andThen]
  exact hK' _ _ hK
theorem wpList_putMp (hg : o.guard = none) (m x v : Operand) (hop : o.op = Op.mapUpdate M.T m x v)
    (h : Mp M w ρ S) (hm : a.eval m = .map (some ρ)) (k : κ) (hx : a.eval x = M.kv k) (u : α) (hv : a.eval v = M.ev u) (hno : M.has S k = false)
    (hK : ∀ w', Mp M w' ρ (S ++ [(k, u)]) → But ρ w w' → wpList Tryd.prog ops Q rest (a.put o.dst undef) w') : wpList Tryd.prog ops Q (o :: rest) a w := by
  refine wpList_plain hg fun K' hK' => ?_
  obtain ⟨w', hrun, r1, r2⟩ := h.put k u hno
  unfold Oper.wp
  simp [execOp, hop, hm, hx, hv, hrun, Result.andThen]
  exact hK' _ _ (hK w' r1 r2)
theorem wpList_againMp [Subsingleton α] (hg : o.guard = none) (m x v : Operand) (hop : o.op = Op.mapUpdate M.T m x v)
    (h : Mp M w ρ S) (hm : a.eval m = .map (some ρ)) (k : κ) (hx : a.eval x = M.kv k) (u : α) (hv : a.eval v = M.ev u) (hhas : M.has S k = true) (he : ∀ y, M.eq k y = true → y = k) (hs : Instr.sameBits 10000 (M.kv k) (M.kv k) = true)
    (hK : ∀ w', Mp M w' ρ S → But ρ w w' → wpList Tryd.prog ops Q rest (a.put o.dst undef) w') : wpList Tryd.prog ops Q (o :: rest) a w := by
  refine wpList_plain hg fun K' hK' => ?_
  obtain ⟨w', hrun, r1, r2⟩ := h.again k u hhas he hs
  unfold Oper.wp
  simp [execOp, hop, hm, hx, hv, hrun, Result.andThen]
  exact hK' _ _ (hK w' r1 r2)
theorem wpList_lookMp (hg : o.guard = none) (m x : Operand) (hop : o.op = Op.lookup M.T m x true)
    (h : Mp M w ρ S) (hm : a.eval m = .map (some ρ)) (k : κ) (hx : a.eval x = M.kv k) (v : α) (hv : M.got S k = v) (b : Bool) (hb : M.has S k = b)
    (hK : wpList Tryd.prog ops Q rest (a.put o.dst (.tuple #[M.ev v, .bool b])) w) : wpList Tryd.prog ops Q (o :: rest) a w := by
  subst hv hb
  refine wpList_plain hg fun K' hK' => ?_
  unfold Oper.wp
  simp [execOp, hop, hm, hx, h.look k true, Result.andThen]
  exact hK' _ _ hK
end
/-- Keys that are compared by their equality. -/
theorem dl_mem {κ α : Type} {eq : κ → κ → Bool} (he : ∀ x y, eq x y = true ↔ x = y) {S : List (κ × α)} (hn : (S.map (·.1)).Nodup) (x : κ) (p : κ × α) : p ∈ dl eq x S ↔ p ∈ S ∧ p.1 ≠ x := by
  induction S with
  | nil => simp [dl]
  | cons q S ih =>
    rw [List.map_cons, List.nodup_cons] at hn
    unfold dl
    split
    · next h =>
      have h1 := (he _ _).1 h
      constructor
      · intro h2
        refine ⟨List.mem_cons_of_mem _ h2, fun h3 => hn.1 ?_⟩
        rw [← h1, ← h3]
        exact List.mem_map_of_mem h2
      · rintro ⟨h2, h3⟩
        rcases List.mem_cons.1 h2 with rfl | h2
        · exact absurd h1.symm h3
        · exact h2
    · next h =>
      have h1 : q.1 ≠ x := fun h2 => h ((he _ _).2 h2.symm)
      rw [List.mem_cons, List.mem_cons, ih hn.2]
      constructor
      · rintro (rfl | h2)
        · exact ⟨.inl rfl, h1⟩
        · exact ⟨.inr h2.1, h2.2⟩
      · rintro ⟨h2 | h2, h3⟩
        · exact .inl h2
        · exact .inr ⟨h2, h3⟩
theorem dl_sub {κ α : Type} {eq : κ → κ → Bool} (x : κ) (S : List (κ × α)) : (dl eq x S).Sublist S := by
  induction S with
  | nil => exact .slnil
  | cons q S ih =>
    unfold dl
    split
    · exact (List.Sublist.refl S).cons _
    · exact ih.cons_cons _
theorem dl_nodup {κ α : Type} {eq : κ → κ → Bool} (x : κ) {S : List (κ × α)} (hn : (S.map (·.1)).Nodup) : ((dl eq x S).map (·.1)).Nodup := hn.sublist ((dl_sub x S).map _)
section
variable {κ α : Type} {M : MK κ α} (he : ∀ x y, M.eq x y = true ↔ x = y)
include he
theorem has_iff (S : List (κ × α)) (x : κ) : M.has S x = true ↔ ∃ v, (x, v) ∈ S := by
  unfold MK.has
  rw [List.find?_isSome]
  constructor
  · rintro ⟨p, h1, h2⟩
    exact ⟨p.2, by rw [(he _ _).1 h2]; exact h1⟩
  · rintro ⟨v, h⟩
    exact ⟨(x, v), h, (he _ _).2 rfl⟩
theorem has_no {S : List (κ × α)} {x : κ} (h : ∀ v, (x, v) ∉ S) : M.has S x = false := by
  cases hq : M.has S x
  · rfl
  · obtain ⟨v, hv⟩ := (has_iff he S x).1 hq
    exact absurd hv (h v)
theorem got_of {S : List (κ × α)} (hn : (S.map (·.1)).Nodup) {x : κ} {v : α} (h : (x, v) ∈ S) : M.got S x = v := by
  unfold MK.got
  suffices h1 : S.find? (fun p => M.eq x p.1) = some (x, v) by rw [h1]; rfl
  induction S with
  | nil => cases h
  | cons q S ih =>
    rw [List.map_cons, List.nodup_cons] at hn
    rw [List.find?_cons]
    rcases List.mem_cons.1 h with rfl | h1
    · rw [(he x x).2 rfl]
    · have h2 : M.eq x q.1 = false := by
        cases hq : M.eq x q.1
        · rfl
        · have := (he _ _).1 hq
          subst this
          exact absurd (List.mem_map_of_mem (f := (·.1)) h1) hn.1
      rw [h2]
      exact ih hn.2 h1
theorem one_of {S : List (κ × α)} (hn : (S.map (·.1)).Nodup) {x : κ} {v u : α} (h : (x, v) ∈ S) (h2 : (x, u) ∈ S) : v = u := (got_of he hn h).symm.trans (got_of he hn h2)
end
end Go.Proofs.YtpkjepbeeebdoaaDoor
