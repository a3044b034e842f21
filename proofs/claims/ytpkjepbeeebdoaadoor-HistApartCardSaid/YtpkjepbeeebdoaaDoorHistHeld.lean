/-
  How events and operations lie; the types of their rows.
-/
import Derived.Test.YtpkjepbeeebdoaaDoorAnyRows
import Derived.Test.YtpkjepbeeebdoaaDoorHistMath
namespace Go.Proofs.YtpkjepbeeebdoaaDoor
open Go.RowKit

def evK : Kd Evt := ⟨fun e => [.int .i64 e.t, .int .i64 e.k, .int .i64 e.a, .int .i64 e.v], 4, ez, fun _ => rfl, fun e x hx => by
  simp only [List.mem_cons, List.not_mem_nil, or_false] at hx
  rcases hx with rfl | rfl | rfl | rfl <;> rfl⟩
def hpK : Kd Hop := ⟨fun x => [.int .i64 x.t, .int .i64 x.k, .int .i64 x.g, .int .i64 x.r, .bool x.y, .int .i64 x.f, .int .i64 x.e], 7, hz, fun _ => rfl, fun e x hx => by
  simp only [List.mem_cons, List.not_mem_nil, or_false] at hx
  rcases hx with rfl | rfl | rfl | rfl | rfl | rfl | rfl <;> rfl⟩
def ktEv : KT evK 22 30 := ⟨.agg #[.int .i64 0, .int .i64 0, .int .i64 0, .int .i64 0], 32, Tryd.underlying22, by kernel_rfl, by kernel_rfl, by kernel_rfl, by decide, by decide⟩
def ktHp : KT hpK 24 28 := ⟨.agg #[.int .i64 0, .int .i64 0, .int .i64 0, .int .i64 0, .bool false, .int .i64 0, .int .i64 0], 56, Tryd.underlying24, by kernel_rfl, by kernel_rfl, by kernel_rfl, by decide, by decide⟩
def ktRp : KT hpK 36 48 := ⟨.agg #[.int .i64 0, .int .i64 0, .int .i64 0, .int .i64 0, .bool false, .int .i64 0, .int .i64 0], 56, Tryd.underlying36, by kernel_rfl, by kernel_rfl, by kernel_rfl, by decide, by decide⟩
section
variable {w : World} {A : Option Addr} {n c : Nat}
theorem ev_at {l : List Evt} (h : Rw evK w A n c l) (q : Nat) (hq : q < n) : ∃ b o, A = some ⟨b, o, none⟩ ∧ b < w.heap.size ∧ w.cell? ⟨b, o + q * 4, none⟩ = some (.int .i64 (l.getD q ez).t) ∧ w.cell? ⟨b, o + q * 4 + 1, none⟩ = some (.int .i64 (l.getD q ez).k) ∧
    w.cell? ⟨b, o + q * 4 + 2, none⟩ = some (.int .i64 (l.getD q ez).a) ∧ w.cell? ⟨b, o + q * 4 + 3, none⟩ = some (.int .i64 (l.getD q ez).v) := by
  obtain ⟨b, o, e, hb, hc⟩ := h.at_ q hq
  exact ⟨b, o, e, hb, hc 0 (by decide), hc 1 (by decide), hc 2 (by decide), hc 3 (by decide)⟩
theorem hp_at {l : List Hop} (h : Rw hpK w A n c l) (q : Nat) (hq : q < n) : ∃ b o, A = some ⟨b, o, none⟩ ∧ b < w.heap.size ∧ w.cell? ⟨b, o + q * 7, none⟩ = some (.int .i64 (l.getD q hz).t) ∧ w.cell? ⟨b, o + q * 7 + 1, none⟩ = some (.int .i64 (l.getD q hz).k) ∧
    w.cell? ⟨b, o + q * 7 + 2, none⟩ = some (.int .i64 (l.getD q hz).g) ∧ w.cell? ⟨b, o + q * 7 + 3, none⟩ = some (.int .i64 (l.getD q hz).r) ∧ w.cell? ⟨b, o + q * 7 + 4, none⟩ = some (.bool (l.getD q hz).y) ∧
    w.cell? ⟨b, o + q * 7 + 5, none⟩ = some (.int .i64 (l.getD q hz).f) ∧ w.cell? ⟨b, o + q * 7 + 6, none⟩ = some (.int .i64 (l.getD q hz).e) := by
  obtain ⟨b, o, e, hb, hc⟩ := h.at_ q hq
  exact ⟨b, o, e, hb, hc 0 (by decide), hc 1 (by decide), hc 2 (by decide), hc 3 (by decide), hc 4 (by decide), hc 5 (by decide), hc 6 (by decide)⟩
end
theorem belowN {B : Nat} {a w : World} (h : Below B a w) (n : Nat) : Below B a (w.drewN n) := h.trans ⟨rfl, rfl, rfl, Nat.le_refl _, fun _ _ => rfl⟩
theorem take_one {α : Type} (l : List α) (j : Nat) (z : α) (h : j < l.length) (x : α) (e : l.getD j z = x) : l.take (j + 1) = l.take j ++ [x] := by
  have e1 : l[j] = x := by rw [← e]; simp [List.getD, h]
  rw [List.take_add_one, List.getElem?_eq_getElem h, e1]
  rfl
end Go.Proofs.YtpkjepbeeebdoaaDoor
