/-
  FlowIs (of any thread that is built what is emitted, what any word does, its end, whether it may be, and whether any thread is whole, are what the document says) returns true at every thread, row of instructions and text, and of what was there nothing has changed; no condition.
-/
import Derived.Test.YtkcpmjccggfpiaaRows
import Derived.Test.YtkcpmjccggfpiaaFlowOpen
import Derived.Test.YtkcpmjccggfpiaaFlowIsWalk
import Derived.WalkKit
import Derived.ProofKit
import Derived.OpenShut
namespace Go.Proofs.Ytkcpmjccggfpiaa.flowIs
open Go.ChangeShapes Go.WideShapes Go.ChangeAt Go.RowKit
open Go.ChangeMaps (open_string shut_string)
set_option linter.unusedVariables false

theorem own : ownKnob Try.prog.godebug = none := by kernel_rfl

theorem walk (A0 B0 C0 : Option Addr) (n0 c0 m0 d0 k0 f0 : Nat) (b0 : Bd) (A1 : Option Addr) (n1 c1 : Nat) (l1 : List (Int × Int)) (l2 : List UInt8) (W : World) (y0 : Bl W A0 n0 c0 B0 m0 d0 C0 k0 f0 b0) (y1 : Prs W A1 n1 c1 l1) (x2 : l2.length ≤ maxLen) :
    Calls Try.prog 3 #[.agg #[.slice A0 n0 c0, .slice B0 m0 d0, .slice C0 k0 f0], .slice A1 n1 c1, .string ⟨l2.toArray⟩] W fun e w' => e = .returned (.bool true) ∧ Below W.heap.size W w' := by
  exact flowIs_any A0 B0 C0 n0 c0 m0 d0 k0 f0 b0 A1 n1 c1 l1 l2 W y0 y1

set_option maxRecDepth 100000 in
theorem lifted (os : Os) (started : os.Started) (H : Type) (enc : TypeId × Value → H) :
    ReturnsInHanded {} Try.checked os 3 .any (Rows.flowIsSpec.pre6 enc Try.prog Try.f3 Rows.flowIsRow.domain false) (Rows.flowIsSpec.post enc Try.prog Try.f3 false true false false) := by
  refine returnsInHanded_of_change (C := Try.checked) own started (by kernel_rfl) Try.func3
    (ChangeSpec.witness6 (enc := enc) (C := Try.checked) false ⟨#[], #[.agg #[.slice none 0 0, .slice none 0 0, .slice none 0 0], .slice none 0 0, .string ⟨#[]⟩], []⟩ 8 (by kernel_rfl) (by kernel_rfl) (by kernel_rfl) (by kernel_rfl)) ?_
  intro W base args ds gs before hval0 hW hcnd _
  have hval : ∀ (j : Nat) t v, Try.f3.params[j]? = some t → args[j]? = some v → Value.okWide Try.prog W .any base t v := hval0
  have hW' := hW
  obtain ⟨p, q, hA0, hV, rfl, hfz, hnd⟩ := hW
  have hA : DataW.TrodAll enc Try.prog W 0 (fun _ => true) true Try.f3.params.toList args.toList ds p := hA0
  rw [Try.params3] at hA hval
  obtain ⟨v0, vs0, d0, ds0, p0, q0, hargs, rfl, rfl, h0, r0⟩ := trodAll_cons hA
  obtain ⟨v1, vs1, d1, ds1, p1, q1, rfl, rfl, rfl, h1, r1⟩ := trodAll_cons r0
  obtain ⟨v2, vs2, d2, ds2, p2, q2, rfl, rfl, rfl, h2, r2⟩ := trodAll_cons r1
  obtain ⟨rfl, rfl, rfl⟩ := trodAll_nil r2
  obtain rfl : args = #[v0, v1, v2] := by cases args; simp_all
  obtain ⟨rfl, rfl⟩ := trodVars_none hV
  have hlt0 : ∀ x ∈ p0, x.block < W.heap.size := fun x hx => hW'.lt x (by simp [hx])
  have s0 := h0
  obtain ⟨A0, n0, c0, B0, m0, d0, C0, k0, f0, b0, rfl, y0⟩ := open_build (hval 0 25 v0 rfl rfl) h0
  have hlt1 : ∀ x ∈ p1, x.block < W.heap.size := fun x hx => hW'.lt x (by simp [hx])
  have s1 := h1
  obtain ⟨A1, n1, c1, l1, rfl, y1⟩ := open_code (hval 1 22 v1 rfl rfl) h1
  obtain ⟨s2, rfl, rfl, rfl, w2⟩ := open_string Try.underlying9 (hval 2 9 v2 rfl rfl) h2
  obtain ⟨l2, rfl⟩ : ∃ l : List UInt8, s2 = ⟨l.toArray⟩ := ⟨s2.data.toList, (Lib.mk_data s2).symm⟩
  have x2 : l2.length ≤ maxLen := by rw [size_mk] at w2; exact w2
  clear hA0 hval0
  simp only [List.append_nil] at hW'
  refine (walk A0 B0 C0 n0 c0 m0 d0 k0 f0 b0 A1 n1 c1 l1 l2 W y0 y1 x2).mono fun e W' ⟨he, hg⟩ => ?_
  subst he
  exact ⟨_, rfl, post_of_keeps (pa := p0 ++ (p1 ++ ([]))) (pv := []) hW' (fun _ _ _ => (trodAll_cons_mk (shut_bool Try.underlying4 _) trodAll_mk0)) (fun sp hsp => (trodAll_cons_mk (stays_build s0 hg hlt0 (fun x hx => hsp x (by simp [hx]))) (trodAll_cons_mk (stays_code s1 hg hlt1 (fun x hx => hsp x (by simp [hx]))) (trodAll_cons_mk (shut_string Try.underlying9 w2) trodAll_mk0)))) (fun _ _ => rfl) (by simp)
    (keepsB hg) (ok_one (by kernel_rfl) rfl (okWide_bool_mk Try.underlying4 _))⟩

theorem proved : Rows.FlowIsSaid :=
  OpenClaim.holds_of_wide 3 Try.f3 rfl rfl rfl rfl rfl rfl rfl ⟨rfl, rfl, rfl, rfl, rfl⟩ rfl rfl rfl rfl rfl (by kernel_rfl) Try.func3 (by kernel_rfl)
    (of_decide_eq_true (by kernel_rfl)) (by unfold Func.isWrapper; first | (rw [if_pos (by decide +kernel)]; kernel_rfl) | (rw [if_neg (by decide +kernel)]; exact ⟨rfl, rfl⟩))
    (fun os started H enc _ => lifted os started H enc)
#print axioms proved
end Go.Proofs.Ytkcpmjccggfpiaa.flowIs
