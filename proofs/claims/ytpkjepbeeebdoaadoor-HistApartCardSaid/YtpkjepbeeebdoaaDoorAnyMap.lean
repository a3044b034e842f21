/-
  Maps of any kind of keys and elements that the call made: what a look-up gives, what a store of a new key leaves. A map is said as a list of keys and elements, in the order in which they came.
-/
import Derived.Test.YtpkjepbeeebdoaaDoorAnyBut
import Derived.MapKept
import Derived.Carry
import Derived.Laws.StructEq
namespace Go.Proofs.YtpkjepbeeebdoaaDoor
open Go.RowKit

/-- A block with one value of whatever kind: a variable that a closure has captured. -/
abbrev V1 := {v : Value // v.oneCell' = true}
def vlK : Kd V1 := ⟨fun e => [e.1], 1, ⟨.bool false, rfl⟩, fun _ => rfl, fun e x hx => by
  simp only [List.mem_cons, List.not_mem_nil, or_false] at hx
  rcases hx with rfl
  exact e.2⟩
theorem vl0 {w : World} {b : Nat} {t : TypeId} {v : Value} {h : v.oneCell' = true} (k : Bk vlK w b t ⟨v, h⟩) : w.cell? ⟨b, 0, none⟩ = some v := k.cell 0
theorem vl_set {w : World} {b : Nat} {t : TypeId} {u v : Value} {h : u.oneCell' = true} (k : Bk vlK w b t ⟨u, h⟩) (g : v.oneCell' = true) : Bk vlK (w.setCell ⟨b, 0, none⟩ v) b t ⟨v, g⟩ := k.set 0 v ⟨v, g⟩ rfl
/-- The first entry with a key, and where it stands. -/
def fnd {κ α : Type} (eq : κ → κ → Bool) (ev : α → Value) (x : κ) : List (κ × α) → Nat → Option (Nat × Value)
  | [], _ => none
  | p :: l, i => if eq x p.1 then some (i, ev p.2) else fnd eq ev x l (i + 1)
theorem fnd_look {κ α : Type} {eq : κ → κ → Bool} {ev : α → Value} {x : κ} {l : List (κ × α)} {i : Nat} : (fnd eq ev x l i).map (·.2) = (l.find? (fun p => eq x p.1)).map (fun p => ev p.2) := by
  induction l generalizing i with
  | nil => rfl
  | cons p l ih =>
    unfold fnd
    rw [List.find?_cons]
    by_cases h : eq x p.1 = true
    · rw [if_pos h, h]; rfl
    · rw [if_neg h, Bool.eq_false_iff.2 h]; exact ih
/-- A kind of maps: its types, its keys and elements as values, when two keys are one. -/
structure MK (κ α : Type) where
  T : TypeId
  K : TypeId
  E : TypeId
  kv : κ → Value
  ev : α → Value
  ez : α
  eq : κ → κ → Bool
  under : Tryd.prog.underlying T = some (.map K E)
  check : ∀ (b : Bool) (x : κ) (w : World), (Instr.checkKey b 10000 K (kv x)).run Tryd.prog w = .ok () w
  find : ∀ (x : κ) (es : List MapEntry) (S : List (κ × α)) (w : World), es.map (fun e => (e.key, e.val)) = S.map (fun p => (kv p.1, ev p.2)) → (Instr.findKey K (kv x) es).run Tryd.prog w = .ok (fnd eq ev x S 0) w
  zero : ∀ w : World, (zeroValue E).run Tryd.prog w = .ok (ev ez) w
section
variable {κ α : Type}
theorem entries_cons {kv : κ → Value} {ev : α → Value} {e : MapEntry} {es : List MapEntry} {S : List (κ × α)} (h : (e :: es).map (fun e => (e.key, e.val)) = S.map (fun p => (kv p.1, ev p.2))) :
    ∃ x v S', S = (x, v) :: S' ∧ e.key = kv x ∧ e.val = ev v ∧ es.map (fun e => (e.key, e.val)) = S'.map (fun p => (kv p.1, ev p.2)) := by
  cases S with
  | nil => simp at h
  | cons p S =>
    simp only [List.map_cons, List.cons.injEq, Prod.mk.injEq] at h
    exact ⟨p.1, p.2, S, rfl, h.1.1, h.1.2, h.2⟩
/-- Keys that are compared at once: strings, numbers, truth values. -/
theorem find_now {K : TypeId} {d : TypeDesc} {kv : κ → Value} {ev : α → Value} {eq : κ → κ → Bool} (hd : Tryd.prog.underlying K = some d) (h : ∀ x y, Instr.sameNow d (kv x) (kv y) = some (eq x y))
    (x : κ) (es : List MapEntry) (S : List (κ × α)) (w : World) (he : es.map (fun e => (e.key, e.val)) = S.map (fun p => (kv p.1, ev p.2))) : (Instr.findKey K (kv x) es).run Tryd.prog w = .ok (fnd eq ev x S 0) w := by
  refine MapKept.run_findKey hd ?_
  generalize (0 : Nat) = i
  induction es generalizing S i with
  | nil =>
    have : S = [] := by simpa using he.symm
    subst this
    rfl
  | cons e es ih =>
    obtain ⟨y, v, S', rfl, h1, h2, h3⟩ := entries_cons he
    unfold Instr.findNow fnd
    rw [h1, h x y]
    cases hb : eq x y
    · simp [ih S' h3 (i + 1)]
    · simp [h2]
/-- Keys that are compared as Go compares structs. -/
theorem find_ask {K : TypeId} {d : TypeDesc} {kv : κ → Value} {ev : α → Value} {eq : κ → κ → Bool} (hd : Tryd.prog.underlying K = some d) (hn : ∀ x y, Instr.sameNow d (kv x) (kv y) = none)
    (h : ∀ x y w, (Op.equal K (kv x) (kv y)).run Tryd.prog w = .ok (eq x y) w)
    (x : κ) (es : List MapEntry) (S : List (κ × α)) (w : World) (he : es.map (fun e => (e.key, e.val)) = S.map (fun p => (kv p.1, ev p.2))) : (Instr.findKey K (kv x) es).run Tryd.prog w = .ok (fnd eq ev x S 0) w := by
  cases es with
  | nil =>
    have : S = [] := by simpa using he.symm
    subst this
    exact MapKept.run_findKey hd rfl
  | cons e es =>
    obtain ⟨y, v, S', rfl, h1, h2, h3⟩ := entries_cons he
    have hN : Instr.findNow d (kv x) (e :: es) 0 = none := by
      unfold Instr.findNow
      rw [h1, hn x y]
    have hA : ∀ (es : List MapEntry) (S : List (κ × α)) (i : Nat), es.map (fun e => (e.key, e.val)) = S.map (fun p => (kv p.1, ev p.2)) → (Instr.findAsking K (kv x) es i).run Tryd.prog w = .ok (fnd eq ev x S i) w := by
      intro es
      induction es with
      | nil =>
        intro S i he
        have : S = [] := by simpa using he.symm
        subst this
        rfl
      | cons e es ih =>
        intro S i he
        obtain ⟨y, v, S', rfl, h1, h2, h3⟩ := entries_cons he
        unfold Instr.findAsking fnd
        rw [h1]
        simp only [Sem.run_bind, h x y w, Result.andThen_ok]
        cases hb : eq x y
        · simp [ih S' (i + 1) h3]
        · simp [h2]
    have := hA (e :: es) ((y, v) :: S') 0 he
    simp only [Instr.findKey, Sem.run_bind, run_underlying hd, Result.andThen_ok, hN]
    exact this
variable (M : MK κ α)
/-- The map ρ holds these. -/
def Mp (w : World) (ρ : Nat) (S : List (κ × α)) : Prop := ∃ es clock, w.heap[ρ]? = some (.map es clock) ∧ es.toList.map (fun e => (e.key, e.val)) = S.map (fun p => (M.kv p.1, M.ev p.2))
def MK.got (S : List (κ × α)) (x : κ) : α := ((S.find? fun p => M.eq x p.1).map (·.2)).getD M.ez
def MK.has (S : List (κ × α)) (x : κ) : Bool := (S.find? fun p => M.eq x p.1).isSome
variable {M}
variable {w w' : World} {ρ : Nat} {S : List (κ × α)}
theorem Mp.lt (h : Mp M w ρ S) : ρ < w.heap.size := by
  obtain ⟨es, cl, h1, _⟩ := h
  exact (Array.getElem?_eq_some_iff.1 h1).1
theorem Mp.block (h : Mp M w ρ S) (hb : w'.heap[ρ]? = w.heap[ρ]?) : Mp M w' ρ S := by
  obtain ⟨es, cl, h1, h2⟩ := h
  exact ⟨es, cl, hb.trans h1, h2⟩
theorem Mp.keep (h : Mp M w ρ S) (hb : Below w.heap.size w w') : Mp M w' ρ S := h.block (hb.block ρ h.lt)
theorem Mp.keepB {B : Nat} (h : Mp M w ρ S) (hb : Below B w w') (hB : ρ < B) : Mp M w' ρ S := h.block (hb.block ρ hB)
theorem Mp.but {g : Nat} (h : Mp M w ρ S) (hb : But g w w') (hg : ρ ≠ g) : Mp M w' ρ S := h.block (hb.block ρ h.lt hg)
theorem Mp.drew (h : Mp M w ρ S) : Mp M w.drew ρ S := h
theorem Mp.other (h : Mp M w ρ S) {p : Addr} (hp : ρ ≠ p.block) (v : Value) : Mp M (w.setCell p v) ρ S := h.block (Below.heap_setCell w p v ρ hp)
theorem Mp.made (w : World) (g : Nat) (hg : w.heap.size = g) : Mp M (w.alloc (.map #[] 0)) g [] := by
  subst hg
  exact ⟨#[], 0, by show (w.heap.push _)[w.heap.size]? = _; rw [Array.getElem?_push, if_pos rfl], rfl⟩
theorem Mp.look (h : Mp M w ρ S) (x : κ) (c : Bool) : (Instr.lookup M.T (.map (some ρ)) (M.kv x) c).run Tryd.prog w = .ok (if c then .tuple #[M.ev (M.got S x), .bool (M.has S x)] else M.ev (M.got S x)) w := by
  obtain ⟨es, cl, h1, h2⟩ := h
  have hf := M.find x es.toList S w h2
  have hl := fnd_look (eq := M.eq) (ev := M.ev) (x := x) (l := S) (i := 0)
  unfold MK.got MK.has
  simp only [Instr.lookup, Sem.run_bind, run_underlying M.under, MapKept.run_getObj_map h1, M.check, hf, Result.andThen_ok, Sem.run_pure]
  cases hq : S.find? (fun p => M.eq x p.1) with
  | none =>
    rw [hq] at hl
    simp only [Option.map_none, Option.map_eq_none_iff] at hl
    rw [hl]
    simp only [Sem.run_bind, M.zero, Result.andThen_ok, Sem.run_pure]
    cases c <;> rfl
  | some p =>
    rw [hq] at hl
    obtain ⟨r, hr, he⟩ := Option.map_eq_some_iff.1 hl
    rw [hr]
    obtain ⟨i, v⟩ := r
    dsimp only at he
    subst he
    cases c <;> simp
theorem Mp.put (h : Mp M w ρ S) (x : κ) (v : α) (hx : M.has S x = false) : ∃ w', (Instr.mapUpdate M.T (.map (some ρ)) (M.kv x) (M.ev v)).run Tryd.prog w = .ok () w' ∧ Mp M w' ρ (S ++ [(x, v)]) ∧ But ρ w w' := by
  obtain ⟨es, cl, h1, h2⟩ := h
  have hf := M.find x es.toList S w h2
  have hl := fnd_look (eq := M.eq) (ev := M.ev) (x := x) (l := S) (i := 0)
  have hq : S.find? (fun p => M.eq x p.1) = none := by
    unfold MK.has at hx
    simpa using hx
  rw [hq] at hl
  simp only [Option.map_none, Option.map_eq_none_iff] at hl
  rw [hl] at hf
  refine ⟨{ w with heap := w.heap.setIfInBounds ρ (.map (es.push { key := M.kv x, val := M.ev v, born := cl }) (cl + 1)) }, ?_, ⟨_, _, (MapKept.heap_set h1).1, ?_⟩, ⟨rfl, rfl, rfl, by simp, fun k _ hk => (MapKept.heap_set h1).2 k hk⟩⟩
  · simp only [Instr.mapUpdate, Sem.run_bind, run_underlying M.under, MapKept.run_getObj_map h1, M.check, hf, Result.andThen_ok, MapKept.run_setObj_map _ h1]
  · simp [h2]
end
end Go.Proofs.YtpkjepbeeebdoaaDoor
