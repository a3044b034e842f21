/-
  The statement PureBelow is true at every operation and every two stacks: an operation that does not look deeper than it needs does the same with cells below. No condition is added.
-/
import Derived.Test.YtnlkggfgloblcaaGreatRows
import Derived.Test.YtnlkggfgloblcaaGreatPureBelowWalk
import Derived.Test.YtnlkggfgloblcaaGreatPureOpenL
import Derived.WalkKit
import Derived.ProofKit
import Derived.OpenShut
namespace Go.Proofs.YtnlkggfgloblcaaGreat.pureBelow
open Go.ChangeShapes Go.WideShapes Go.ChangeAt Go.RowKit
set_option linter.unusedVariables false

theorem own : ownKnob Tryz.prog.godebug = none := by kernel_rfl

theorem walk (a0 : Int) (A1 : Option Addr) (n1 c1 : Nat) (l1 : List Int) (A2 : Option Addr) (n2 c2 : Nat) (l2 : List Int) (W : World) (w0 : (Lit.int .i64 a0).wf = true) (m1 : Stk W A1 n1 c1 l1) (g1 : AllC l1) (z1 : n1 ≤ 140737488355328) (m2 : Stk W A2 n2 c2 l2) (g2 : AllC l2) (z2 : n2 ≤ 140737488355328) :
    Calls Tryz.prog 8 #[.int .i64 a0, .slice A1 n1 c1, .slice A2 n2 c2] W fun e w' => e = .returned (.bool true) ∧ Keeps W w' := by
  exact pureBelow_walk a0 A1 n1 c1 l1 A2 n2 c2 l2 W m1 m2 g1 g2 z1 z2

set_option maxRecDepth 100000 in
theorem lifted (os : Os) (started : os.Started) (H : Type) (enc : TypeId × Value → H) :
    ReturnsInHanded {} Tryz.checked os 8 .any (Rows.pureBelowSpec.pre6 enc Tryz.prog Tryz.f8 Rows.pureBelowRow.domain false) (Rows.pureBelowSpec.post enc Tryz.prog Tryz.f8 false true false false) := by
  refine returnsInHanded_of_change_sized (C := Tryz.checked) own started (by kernel_rfl) Tryz.func8
    (ChangeSpec.witness6 (enc := enc) (C := Tryz.checked) false ⟨#[], #[.int .i64 0, .slice none 0 0, .slice none 0 0], []⟩ 8 (by kernel_rfl) (by kernel_rfl) (by kernel_rfl) (by kernel_rfl)) ?_
  intro W base args ds gs before hval0 hW hcnd hsz0 _
  have hval : ∀ (j : Nat) t v, Tryz.f8.params[j]? = some t → args[j]? = some v → Value.okWide Tryz.prog W .any base t v := hval0
  have hW' := hW
  obtain ⟨p, q, hA0, hV, rfl, hfz, hnd⟩ := hW
  have hA : DataW.TrodAll enc Tryz.prog W 0 (fun _ => true) true Tryz.f8.params.toList args.toList ds p := hA0
  rw [Tryz.params8] at hA hval
  obtain ⟨v0, vs0, d0, ds0, p0, q0, hargs, rfl, rfl, h0, r0⟩ := trodAll_cons hA
  obtain ⟨v1, vs1, d1, ds1, p1, q1, rfl, rfl, rfl, h1, r1⟩ := trodAll_cons r0
  obtain ⟨v2, vs2, d2, ds2, p2, q2, rfl, rfl, rfl, h2, r2⟩ := trodAll_cons r1
  obtain ⟨rfl, rfl, rfl⟩ := trodAll_nil r2
  obtain rfl : args = #[v0, v1, v2] := by cases args; simp_all
  obtain ⟨rfl, rfl⟩ := trodVars_none hV
  obtain ⟨a0, rfl, rfl, rfl, w0⟩ := open_int Tryz.underlying3 (hval 0 3 v0 rfl rfl) h0
  have hlt1 : ∀ x ∈ p1, x.block < W.heap.size := fun x hx => hW'.lt x (by simp [hx])
  have s1 := h1
  have y1 : ∀ elems spare, d1 = .slice elems spare → (elems.length + spare.length) * Tryz.prog.bytesOf 3 ≤ reachBytes := fun elems spare he => sized_slice hsz0 (j := 1) (by kernel_rfl) (by subst he; rfl) Tryz.underlying22
  obtain ⟨A1, n1, c1, l1, rfl, m1, g1, z1⟩ := open_stkL (hval 1 22 v1 rfl rfl) h1 y1
  have hlt2 : ∀ x ∈ p2, x.block < W.heap.size := fun x hx => hW'.lt x (by simp [hx])
  have s2 := h2
  have y2 : ∀ elems spare, d2 = .slice elems spare → (elems.length + spare.length) * Tryz.prog.bytesOf 3 ≤ reachBytes := fun elems spare he => sized_slice hsz0 (j := 2) (by kernel_rfl) (by subst he; rfl) Tryz.underlying22
  obtain ⟨A2, n2, c2, l2, rfl, m2, g2, z2⟩ := open_stkL (hval 2 22 v2 rfl rfl) h2 y2
  clear hA0 hval0
  simp only [List.append_nil] at hW'
  refine (walk a0 A1 n1 c1 l1 A2 n2 c2 l2 W w0 m1 g1 z1 m2 g2 z2).mono fun e W' ⟨he, hg⟩ => ?_
  subst he
  exact ⟨_, rfl, post_of_keeps (pa := ([] : List MemPlace) ++ (p1 ++ (p2 ++ ([])))) (pv := []) hW' (fun _ _ _ => (trodAll_cons_mk (shut_bool Tryz.underlying4 _) trodAll_mk0)) (fun sp hsp => (trodAll_cons_mk (shut_int Tryz.underlying3 w0) (trodAll_cons_mk (staysK s1 hg hlt1 (fun x hx => hsp x (by simp [hx]))) (trodAll_cons_mk (staysK s2 hg hlt2 (fun x hx => hsp x (by simp [hx]))) trodAll_mk0)))) (fun _ _ => rfl) (by simp)
    hg (ok_one (by kernel_rfl) rfl (okWide_bool_mk Tryz.underlying4 _))⟩

theorem over : Rows.pureBelowRow.holds Tryz.pinned (OpenSpec.ofChange Rows.pureBelowSpec) :=
  OpenClaim.holds_of_wide 8 Tryz.f8 rfl rfl rfl rfl rfl rfl rfl ⟨rfl, rfl, rfl, rfl, rfl⟩ rfl rfl rfl rfl rfl (by kernel_rfl) Tryz.func8 (by kernel_rfl)
    (of_decide_eq_true (by kernel_rfl)) (by unfold Func.isWrapper; first | (rw [if_pos (by decide +kernel)]; kernel_rfl) | (rw [if_neg (by decide +kernel)]; exact ⟨rfl, rfl⟩))
    (fun os started H enc _ => lifted os started H enc)

theorem proved : Rows.PureBelowSaid :=
  over
#print axioms proved
end Go.Proofs.YtnlkggfgloblcaaGreat.pureBelow
