/-
  No cell of these rows narrows 'for every input' (looked for: loops, veiled, ifaces, maps, wideKeys, modest, calm, conditions, laid).
  DERIVED. THE GIVEN ROWS OF THIS SEAT. 4 by the template 'for every input the law returns true; each argument reads behind the call as it read before'; 0 by the template 'total and deterministic' (their statements: YticeeckahdjjmaaTotals.lean).
  GIVEN WITH THE SEED: the statements are not yours to turn. If you find one false, say at which input.
  Laid BY PROGRAM, IN A SANDBOX (cutbox-rows.mjs): the forced cells as the released guide's own fill.sh prints them over the translation 9a969c74657f01aa… (all of the seat's roots in one cut). By AI agents, Wed Nov 11 2026. No macro, syntax, notation, axiom, sorry.
-/
import Derived.Test.YticeeckahdjjmaaChecked
import GoSem.Claim
import GoSem.ClaimJoined
import GoSem.ClaimMapViews
import Derived.JoinedTies
import Derived.KernelRfl
namespace Go.Proofs.Yticeeckahdjjmaa
/- THE CELL 'sum', in the pinned program and in every row, IS THE sha256 OF THE DUMP (.gsa) THAT YticeeckahdjjmaaProg.lean LOADS. Nothing in Lean hashes anything: it is a label: what it is worth is what the hold of that sum in a sandbox is worth. -/
noncomputable def Try.pinned : Pinned := { name := "yticeeckahdjjmaa", sum := "9a969c74657f01aaa6761c068dce223a6beee27ebf8cfc0a8a959ea677ff7127", checked := Try.checked }
namespace Rows
def none {H : Type} : Left H := { results := [], args := [] }

/-- 'tenterhooklaw10.PicIs': WHATEVER THE INPUT: true; the input reads as it did. -/
def picIsSpec : ChangeSpec := { name := "picIs", fn := fun _ => fun
  | [d1, d2, d3, d4] => { results := [.lit (.bool true)], args := [d1, d2, d3, d4] }
  | _ => none }
def picIsRow : OpenClaim := { program := "yticeeckahdjjmaa", sum := "9a969c74657f01aaa6761c068dce223a6beee27ebf8cfc0a8a959ea677ff7127", func := "tenterhook/tenterhooklaw10.PicIs", spec := "picIs", named := ["math/bits.overflowError", "math/bits.divideError"], apart := false }
def PicIsSaid : Prop := picIsRow.holds Try.pinned (OpenSpec.ofChange picIsSpec)

/-- ITS FALSE NEIGHBOUR: 'it returns false'. Refute it at one input. -/
def picIsWrong : ChangeSpec := { name := "picIs", fn := fun _ => fun
  | [d1, d2, d3, d4] => { results := [.lit (.bool false)], args := [d1, d2, d3, d4] }
  | _ => none }
def PicIsWrongFalsely : Prop := picIsRow.holds Try.pinned (OpenSpec.ofChange picIsWrong)

/-- 'tenterhooklaw10.PicTexts': WHATEVER THE INPUT: true; the input reads as it did. -/
def picTextsSpec : ChangeSpec := { name := "picTexts", fn := fun _ => fun
  | [d1, d2] => { results := [.lit (.bool true)], args := [d1, d2] }
  | _ => none }
def picTextsRow : OpenClaim := { program := "yticeeckahdjjmaa", sum := "9a969c74657f01aaa6761c068dce223a6beee27ebf8cfc0a8a959ea677ff7127", func := "tenterhook/tenterhooklaw10.PicTexts", spec := "picTexts", named := ["math/bits.overflowError", "math/bits.divideError"], apart := false }
def PicTextsSaid : Prop := picTextsRow.holds Try.pinned (OpenSpec.ofChange picTextsSpec)

/-- ITS FALSE NEIGHBOUR: 'it returns false'. Refute it at one input. -/
def picTextsWrong : ChangeSpec := { name := "picTexts", fn := fun _ => fun
  | [d1, d2] => { results := [.lit (.bool false)], args := [d1, d2] }
  | _ => none }
def PicTextsWrongFalsely : Prop := picTextsRow.holds Try.pinned (OpenSpec.ofChange picTextsWrong)

/-- 'tenterhooklaw10.PicHolds': WHATEVER THE INPUT: true; the input reads as it did. -/
def picHoldsSpec : ChangeSpec := { name := "picHolds", fn := fun _ => fun
  | [d] => { results := [.lit (.bool true)], args := [d] }
  | _ => none }
def picHoldsRow : OpenClaim := { program := "yticeeckahdjjmaa", sum := "9a969c74657f01aaa6761c068dce223a6beee27ebf8cfc0a8a959ea677ff7127", func := "tenterhook/tenterhooklaw10.PicHolds", spec := "picHolds", named := ["math/bits.overflowError", "math/bits.divideError"], apart := false }
def PicHoldsSaid : Prop := picHoldsRow.holds Try.pinned (OpenSpec.ofChange picHoldsSpec)

/-- ITS FALSE NEIGHBOUR: 'it returns false'. Refute it at one input. -/
def picHoldsWrong : ChangeSpec := { name := "picHolds", fn := fun _ => fun
  | [d] => { results := [.lit (.bool false)], args := [d] }
  | _ => none }
def PicHoldsWrongFalsely : Prop := picHoldsRow.holds Try.pinned (OpenSpec.ofChange picHoldsWrong)

/-- 'tenterhooklaw10.PicSteps': WHATEVER THE INPUT: true; the input reads as it did. -/
def picStepsSpec : ChangeSpec := { name := "picSteps", fn := fun _ => fun
  | [d1, d2, d3] => { results := [.lit (.bool true)], args := [d1, d2, d3] }
  | _ => none }
def picStepsRow : OpenClaim := { program := "yticeeckahdjjmaa", sum := "9a969c74657f01aaa6761c068dce223a6beee27ebf8cfc0a8a959ea677ff7127", func := "tenterhook/tenterhooklaw10.PicSteps", spec := "picSteps", named := ["math/bits.overflowError", "math/bits.divideError"], apart := false }
def PicStepsSaid : Prop := picStepsRow.holds Try.pinned (OpenSpec.ofChange picStepsSpec)

/-- ITS FALSE NEIGHBOUR: 'it returns false'. Refute it at one input. -/
def picStepsWrong : ChangeSpec := { name := "picSteps", fn := fun _ => fun
  | [d1, d2, d3] => { results := [.lit (.bool false)], args := [d1, d2, d3] }
  | _ => none }
def PicStepsWrongFalsely : Prop := picStepsRow.holds Try.pinned (OpenSpec.ofChange picStepsWrong)

/- THE SECOND FORM. 'bulk': how many values and letters a reading holds, each counted each time it is reached (what is shared counts as often as it is met; a slice's spare places count too). A statement '..UptoSaid' is the law's where the arguments, and the package variables that the reading takes, are together of bulk at most 1048576: NARROWER than '..Said'. Prove '..Said' where nothing that the law and all that it calls make is longer than what came in: it says more and counts as full. Else prove '..UptoSaid'. A law counts once. -/
mutual
def uptoBulk {H : Type} : DataW H → Nat
  | .lit (.string bytes) => bytes.length + 1
  | .lit _ => 1
  | .nil => 1
  | .ptr d => uptoBulk d + 1
  | .slice elems spare => uptoBulkAll elems + uptoBulkAll spare + 1
  | .agg parts => uptoBulkAll parts + 1
  | .iface _ d => uptoBulk d + 1
  | .map entries => uptoBulkEntries entries + 1
  | .held _ => 1
def uptoBulkAll {H : Type} : List (DataW H) → Nat
  | [] => 0
  | d :: r => uptoBulk d + uptoBulkAll r
def uptoBulkEntries {H : Type} : List (Lit × DataW H) → Nat
  | [] => 0
  | x :: r => uptoBulkEntry x + uptoBulkEntries r
def uptoBulkEntry {H : Type} : Lit × DataW H → Nat
  | (.string bytes, d) => bytes.length + uptoBulk d + 1
  | (_, d) => uptoBulk d + 1
 end
def uptoSmall : (H : Type) → List (DataW H) → Bool := fun _ ds => decide (uptoBulkAll ds ≤ 1048576)
def OpenSpec.upto (s : _root_.Go.ChangeSpec) : _root_.Go.OpenSpec := { _root_.Go.OpenSpec.ofChange s with cond := some uptoSmall }

/-- 'tenterhooklaw10.PicIs', WHERE WHAT IT READS IS OF BULK AT MOST 1048576: true; the input reads as it did. -/
def picIsUptoRow : OpenClaim := { program := "yticeeckahdjjmaa", sum := "9a969c74657f01aaa6761c068dce223a6beee27ebf8cfc0a8a959ea677ff7127", func := "tenterhook/tenterhooklaw10.PicIs", spec := "picIs", named := ["math/bits.overflowError", "math/bits.divideError"], apart := false, narrowed := true }
def PicIsUptoSaid : Prop := picIsUptoRow.holds Try.pinned (OpenSpec.upto picIsSpec)

/-- 'tenterhooklaw10.PicTexts', WHERE WHAT IT READS IS OF BULK AT MOST 1048576: true; the input reads as it did. -/
def picTextsUptoRow : OpenClaim := { program := "yticeeckahdjjmaa", sum := "9a969c74657f01aaa6761c068dce223a6beee27ebf8cfc0a8a959ea677ff7127", func := "tenterhook/tenterhooklaw10.PicTexts", spec := "picTexts", named := ["math/bits.overflowError", "math/bits.divideError"], apart := false, narrowed := true }
def PicTextsUptoSaid : Prop := picTextsUptoRow.holds Try.pinned (OpenSpec.upto picTextsSpec)

/-- 'tenterhooklaw10.PicHolds', WHERE WHAT IT READS IS OF BULK AT MOST 1048576: true; the input reads as it did. -/
def picHoldsUptoRow : OpenClaim := { program := "yticeeckahdjjmaa", sum := "9a969c74657f01aaa6761c068dce223a6beee27ebf8cfc0a8a959ea677ff7127", func := "tenterhook/tenterhooklaw10.PicHolds", spec := "picHolds", named := ["math/bits.overflowError", "math/bits.divideError"], apart := false, narrowed := true }
def PicHoldsUptoSaid : Prop := picHoldsUptoRow.holds Try.pinned (OpenSpec.upto picHoldsSpec)

/-- 'tenterhooklaw10.PicSteps', WHERE WHAT IT READS IS OF BULK AT MOST 1048576: true; the input reads as it did. -/
def picStepsUptoRow : OpenClaim := { program := "yticeeckahdjjmaa", sum := "9a969c74657f01aaa6761c068dce223a6beee27ebf8cfc0a8a959ea677ff7127", func := "tenterhook/tenterhooklaw10.PicSteps", spec := "picSteps", named := ["math/bits.overflowError", "math/bits.divideError"], apart := false, narrowed := true }
def PicStepsUptoSaid : Prop := picStepsUptoRow.holds Try.pinned (OpenSpec.upto picStepsSpec)

end Rows
end Go.Proofs.Yticeeckahdjjmaa
