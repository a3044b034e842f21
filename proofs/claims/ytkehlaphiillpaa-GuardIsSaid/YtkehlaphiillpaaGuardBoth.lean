/-
  A task's cells beside worlds of Keeps; what Read and Write answer, on both sides, with letters.
-/
import Derived.Test.YtkehlaphiillpaaGuardRef
namespace Go.Proofs.Ytkehlaphiillpaa
open Go.RowKit

theorem Wh.keeps {w w' : World} {b : Nat} {T : TypeId} {t : Int} {lib : Bool} (h : Wh w b T t lib) (k : Keeps w w') : Wh w' b T t lib := (k.block b h.lt).trans h
theorem Mem.atq {w : World} {A : Option Addr} {n c : Nat} {l : List UInt8} (h : Mem w A n c l) (q : Nat) (hq : q < n) : ∃ b o, A = some ⟨b, o, none⟩ ∧ b < w.heap.size ∧ w.cell? ⟨b, o + q, none⟩ = some (.int .u8 ((l.getD q 0).toNat : Int)) := by
  obtain ⟨b, o, rfl, hb, hc⟩ := h.2.2 (by omega)
  have hl : q < l.length := by rw [h.1]; exact hq
  exact ⟨b, o, rfl, hb, by rw [hc q hl]; simp [List.getD, hl]⟩
theorem mE_cases (n : Nat) (a : Int) : mE n a = 0 ∨ ((mE n a != 0) = true ∧ (mE n a = -9 ∨ mE n a = -23)) := by
  unfold mE
  split
  · split
    · exact .inl rfl
    · exact .inr ⟨rfl, .inr rfl⟩
  · exact .inr ⟨rfl, .inl rfl⟩
section
variable (A : Option Addr) (n c : Nat) (l : List UInt8)
/-- What is read. -/
def RdPost (w : World) (x f : Int) (e : Ending) (w' : World) : Prop := e = .returned (.tuple #[.int .i64 x, .int .i64 f]) ∧ Below w.heap.size w w'
theorem reads_any (t a : Int) (lib : Bool) (ha : InC a) (hn : n ≤ 1000000) : ∃ x f : Int, (∀ w, Mem w A n c l → Calls Try.prog 14 #[.slice A n c, .agg #[.int .i64 t, .bool lib], .int .i64 a] w (RdPost w x f)) ∧
    (∀ w, Mem w A n c l → Calls Try.prog 16 #[.slice A n c, .agg #[.int .i64 t, .bool lib], .int .i64 a] w (RdPost w x f)) := by
  cases h : gM t lib a 8 false
  · exact ⟨0, -9, fun w _ => read_may A n c w t a lib ha.2 h, fun w _ => r12read_may A n c w t a lib ha.2 h⟩
  · rcases mE_cases n a with hf | ⟨hz, _⟩
    · obtain ⟨i, rfl, _⟩ := mE_ok hf
      exact ⟨_, 0, fun w hm => read_good A n c l w t i _ i lib hn hm rfl h hf rfl, fun w hm => r12read_good A n c l w t i _ i lib hn hm rfl h hf rfl⟩
    · exact ⟨0, _, fun w _ => read_bad A n c w t a _ lib hn ha h rfl hz, fun w _ => r12read_bad A n c w t a _ lib hn ha h rfl hz⟩
theorem writes_any (t a x : Int) (lib : Bool) (ha : InC a) (hn : n ≤ 1000000) : ∃ (L : List UInt8) (g : Int), (∀ w, Mem w A n c l → Calls Try.prog 17 #[.slice A n c, .agg #[.int .i64 t, .bool lib], .int .i64 a, .int .i64 x] w (HoldPost w n L g)) ∧
    (∀ w, Mem w A n c l → Calls Try.prog 18 #[.slice A n c, .agg #[.int .i64 t, .bool lib], .int .i64 a, .int .i64 x] w (HoldPost w n L g)) := by
  cases h : gM t lib a 8 true
  · exact ⟨l, -9, fun w hm => (write_may A n c w t a x lib ha.2 h).mono fun e w' ⟨he, hb⟩ => ⟨A, c, he, hm.below hb, keeps_of_below hb⟩,
      fun w hm => (r12write_may A n c w t a x lib ha.2 h).mono fun e w' ⟨he, hb⟩ => ⟨A, c, he, hm.below hb, keeps_of_below hb⟩⟩
  · rcases mE_cases n a with hf | ⟨hz, _⟩
    · obtain ⟨i, rfl, _⟩ := mE_ok hf
      exact ⟨_, 0, fun w hm => (write_good A n c l w t i x i _ lib hn hm rfl h hf rfl).mono fun e w' ⟨A2, c2, he, hm2, hb⟩ => ⟨A2, c2, he, hm2, keeps_of_below hb⟩,
        fun w hm => r12write_good A n c l w t i x i _ lib hn hm rfl h hf rfl⟩
    · exact ⟨l, _, fun w hm => (write_bad A n c w t a x _ lib hn ha h rfl hz).mono fun e w' ⟨he, hb⟩ => ⟨A, c, he, hm.below hb, keeps_of_below hb⟩,
        fun w hm => (r12write_bad A n c w t a x _ lib hn ha h rfl hz).mono fun e w' ⟨he, hb⟩ => ⟨A, c, he, hm.below hb, keeps_of_below hb⟩⟩
end
end Go.Proofs.Ytkehlaphiillpaa
