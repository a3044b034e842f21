/-
  A memory that lies in a world: a slice of bytes that reads as a list; nil let in. It reads so in every world in which of what was there nothing has changed.
-/
import Derived.Test.YtkehlaphiillpaaProg
import Derived.Test.YtkehlaphiillpaaMemMath
import Derived.Below
import Derived.Laws.IdiomStrings
import Derived.Laws.BytesString
import Derived.Deep.OwnRows
import Derived.WalkKit
namespace Go.Proofs.Ytkehlaphiillpaa
open Go.RowKit

/-- The cells of some bytes. -/
def cellsOf (l : List UInt8) : List Value := l.map fun b => Value.int .u8 (b.toNat : Int)
theorem cellsOf_length (l : List UInt8) : (cellsOf l).length = l.length := by simp [cellsOf]
theorem cellsOf_get {l : List UInt8} {j : Nat} {v : Value} (h : (cellsOf l)[j]? = some v) : ∃ hj : j < l.length, v = .int .u8 (l[j].toNat : Int) := by
  unfold cellsOf at h
  rw [List.getElem?_map] at h
  obtain ⟨b, hb, rfl⟩ := Option.map_eq_some_iff.1 h
  obtain ⟨hj, rfl⟩ := List.getElem?_eq_some_iff.1 hb
  exact ⟨hj, rfl⟩
theorem cellsOf_one (l : List UInt8) : ∀ v ∈ cellsOf l, v.oneCell' = true := by
  intro v hv
  obtain ⟨b, _, rfl⟩ := List.mem_map.1 hv
  rfl
theorem cellsOf_splice (l cs : List UInt8) (off : Nat) : cellsOf (splice l off cs) = splice (cellsOf l) off (cellsOf cs) := by
  unfold cellsOf splice
  simp

/-- The slice A, n, c holds the bytes l. -/
def Mem (w : World) (A : Option Addr) (n c : Nat) (l : List UInt8) : Prop :=
  l.length = n ∧ n ≤ c ∧ (0 < n → ∃ b o, A = some ⟨b, o, none⟩ ∧ b < w.heap.size ∧ ∀ j (hj : j < l.length), w.cell? ⟨b, o + j, none⟩ = some (.int .u8 (l[j].toNat : Int)))

theorem Mem.len {w : World} {A : Option Addr} {n c : Nat} {l : List UInt8} (h : Mem w A n c l) : l.length = n := h.1
theorem Mem.le {w : World} {A : Option Addr} {n c : Nat} {l : List UInt8} (h : Mem w A n c l) : n ≤ c := h.2.1
theorem Mem.keep {w w' : World} {A : Option Addr} {n c : Nat} {l : List UInt8} (h : Mem w A n c l) (hs : w.heap.size ≤ w'.heap.size) (hk : ∀ b o, b < w.heap.size → w'.cell? ⟨b, o, none⟩ = w.cell? ⟨b, o, none⟩) : Mem w' A n c l :=
  ⟨h.1, h.2.1, fun hn => by
    obtain ⟨b, o, e, hb, hc⟩ := h.2.2 hn
    exact ⟨b, o, e, Nat.lt_of_lt_of_le hb hs, fun j hj => (hk b _ hb).trans (hc j hj)⟩⟩
theorem Mem.below {w w' : World} {A : Option Addr} {n c : Nat} {l : List UInt8} (h : Mem w A n c l) (hb : Below w.heap.size w w') : Mem w' A n c l :=
  h.keep hb.size fun b o hlt => hb.cell (p := ⟨b, o, none⟩) hlt
theorem Mem.belowAt {B : Nat} {w w' : World} {A : Option Addr} {n c : Nat} {l : List UInt8} (h : Mem w A n c l) (hB : B = w.heap.size) (hb : Below B w w') : Mem w' A n c l := by
  subst hB; exact h.below hb
theorem Mem.alloc {w : World} {A : Option Addr} {n c : Nat} {l : List UInt8} (h : Mem w A n c l) (o : Obj) : Mem (w.alloc o) A n c l :=
  h.below ((Below.refl _ _).alloc (Nat.le_refl _) o)
theorem Mem.as {w : World} {A : Option Addr} {n c : Nat} {l l' : List UInt8} (h : Mem w A n c l) (e : l = l') : Mem w A n c l' := e ▸ h
theorem Mem.nil {w : World} {A : Option Addr} {c : Nat} : Mem w A 0 c [] := ⟨rfl, Nat.zero_le _, fun h => absurd h (by omega)⟩
/-- Out of a block that is known whole. -/
theorem Mem.of_block {w : World} {g : Nat} {t : TypeId} {l : List UInt8} (h : w.heap[g]? = some (.cells (cellsOf l).toArray t (0, 0))) : Mem w (some ⟨g, 0, none⟩) l.length l.length l := by
  refine ⟨rfl, Nat.le_refl _, fun _ => ⟨g, 0, rfl, ?_, fun j hj => ?_⟩⟩
  · rcases Nat.lt_or_ge g w.heap.size with hlt | hge
    · exact hlt
    · rw [Array.getElem?_eq_none hge] at h; cases h
  · rw [Nat.zero_add, cell_of_row w g j _ t (0, 0) h]
    simp [cellsOf, hj]
/-- As a text. -/
theorem Mem.str {w : World} {A : Option Addr} {n c : Nat} {l : List UInt8} (h : Mem w A n c l) : (convert 22 9 (.slice A n c)).run Try.prog w = .ok (.string ⟨l.toArray⟩) w := by
  obtain ⟨rfl, hc, hp⟩ := h
  rcases Nat.eq_zero_or_pos l.length with h0 | h0
  · obtain rfl : l = [] := List.eq_nil_of_length_eq_zero h0
    rw [run_convert_bytes_string w 22 9 5 A _ c Try.underlying22 Try.underlying5 Try.underlying9]
    cases A with
    | none => rfl
    | some a => exact run_bytesToString w a 0 c [] rfl
  · obtain ⟨b, o, rfl, hb, hcell⟩ := hp h0
    exact run_convert_bytes_back w 22 9 5 ⟨b, o, none⟩ c l Try.underlying22 Try.underlying5 Try.underlying9 (fun j hj => by rw [Addr.add_lit]; exact hcell j hj)
theorem size8 (w : World) : (Go.sizeOf 5).run Try.prog w = .ok 1 w := by
  have h : (Try.prog.info? 5).map (·.size) = some 1 := by kernel_rfl
  obtain ⟨i, hi, hs⟩ := Option.map_eq_some_iff.1 h
  simp [Go.sizeOf, typeInfo, hi, hs]
theorem elem8 : Try.prog.elem 22 = 5 := by kernel_rfl
theorem under8 : Try.prog.underlying 22 = some (.slice (Try.prog.elem 22)) := by rw [elem8]; exact Try.underlying22
/-- Some bytes of it. -/
theorem Mem.cut {w : World} {A : Option Addr} {n c : Nat} {l : List UInt8} (h : Mem w A n c l) (lo k : Nat) (hk : lo + k ≤ n) :
    ∃ A' c', (∀ W : World, (Instr.slice 22 (.slice A n c) (some (.int .i64 (lo : Int))) (some (.int .i64 ((lo : Int) + (k : Int)))) none).run Try.prog W = .ok (.slice A' k c') W) ∧ Mem w A' k c' (mT l lo k) := by
  obtain ⟨rfl, hc, hp⟩ := h
  refine ⟨if c = lo then A else A.map (·.add lo), c - lo, fun W => ?_, mT_length l lo k hk, by omega, fun h0 => ?_⟩
  · rw [run_slice_lh (P := Try.prog) W 22 A l.length c under8 .i64 .i64 (lo : Int) ((lo : Int) + (k : Int)) (by omega) (by omega) (by omega), elem8, size8]
    show Result.ok (sliced A (lo : Int).toNat ((lo : Int) + (k : Int)).toNat c 1) W = _
    unfold sliced
    rw [show ((lo : Int) + (k : Int)).toNat - (lo : Int).toNat = k by omega, Int.toNat_natCast, Nat.mul_one]
  · obtain ⟨b, o, rfl, hb, hcell⟩ := hp (by omega)
    rw [if_neg (by omega)]
    refine ⟨b, o + lo, by simp [Addr.add_lit], hb, fun j hj => ?_⟩
    have hl := mT_length l lo k hk
    have e := hcell (lo + j) (by omega)
    rw [Nat.add_assoc, e]
    have e1 : (mT l lo k)[j]? = l[lo + j]? := by rw [mT_get, if_pos (by omega)]
    rw [List.getElem?_eq_getElem hj, List.getElem?_eq_getElem (by omega)] at e1
    rw [Option.some.inj e1]
end Go.Proofs.Ytkehlaphiillpaa
