/-
  No cell of these rows narrows 'for every input' (looked for: loops, veiled, ifaces, maps, wideKeys, modest, calm, conditions, laid).
  DERIVED. THE GIVEN ROWS OF THIS SEAT. 3 by the template 'for every input the law returns true; each argument reads behind the call as it read before'; 0 by the template 'total and deterministic' (their statements: YtlpacdheabcpdaaTotals.lean).
  GIVEN WITH THE SEED: the statements are not yours to turn. If you find one false, say at which input.
  Laid BY PROGRAM, IN A SANDBOX (cutbox-rows.mjs): the forced cells as the released guide's own fill.sh prints them over the translation f68f6f3a8d007bfd… (all of the seat's roots in one cut). By AI agents, Wed Nov 11 2026. No macro, syntax, notation, axiom, sorry.
-/
import Derived.Test.YtlpacdheabcpdaaChecked
import GoSem.Claim
import GoSem.ClaimJoined
import GoSem.ClaimMapViews
import Derived.JoinedTies
import Derived.KernelRfl
namespace Go.Proofs.Ytlpacdheabcpdaa
/- THE CELL 'sum', in the pinned program and in every row, IS THE sha256 OF THE DUMP (.gsa) THAT YtlpacdheabcpdaaProg.lean LOADS. Nothing in Lean hashes anything: it is a label: what it is worth is what the hold of that sum in a sandbox is worth. -/
noncomputable def Try.pinned : Pinned := { name := "ytlpacdheabcpdaa", sum := "f68f6f3a8d007bfdea6dd6215a0fe1355e9d57c17bfb0e7c06d94abf5329994d", checked := Try.checked }
namespace Rows
def none {H : Type} : Left H := { results := [], args := [] }

/-- 'tenterhooklaw07.OpIs': WHATEVER THE INPUT: true; the input reads as it did. -/
def opIsSpec : ChangeSpec := { name := "opIs", fn := fun _ => fun
  | [d1, d2] => { results := [.lit (.bool true)], args := [d1, d2] }
  | _ => none }
def opIsRow : OpenClaim := { program := "ytlpacdheabcpdaa", sum := "f68f6f3a8d007bfdea6dd6215a0fe1355e9d57c17bfb0e7c06d94abf5329994d", func := "tenterhook/tenterhooklaw07.OpIs", spec := "opIs", apart := false }
def OpIsSaid : Prop := opIsRow.holds Try.pinned (OpenSpec.ofChange opIsSpec)

/-- ITS FALSE NEIGHBOUR: 'it returns false'. Refute it at one input. -/
def opIsWrong : ChangeSpec := { name := "opIs", fn := fun _ => fun
  | [d1, d2] => { results := [.lit (.bool false)], args := [d1, d2] }
  | _ => none }
def OpIsWrongFalsely : Prop := opIsRow.holds Try.pinned (OpenSpec.ofChange opIsWrong)

/-- 'tenterhooklaw07.OpFinds': WHATEVER THE INPUT: true; the input reads as it did. -/
def opFindsSpec : ChangeSpec := { name := "opFinds", fn := fun _ => fun
  | [d1, d2, d3] => { results := [.lit (.bool true)], args := [d1, d2, d3] }
  | _ => none }
def opFindsRow : OpenClaim := { program := "ytlpacdheabcpdaa", sum := "f68f6f3a8d007bfdea6dd6215a0fe1355e9d57c17bfb0e7c06d94abf5329994d", func := "tenterhook/tenterhooklaw07.OpFinds", spec := "opFinds", apart := false }
def OpFindsSaid : Prop := opFindsRow.holds Try.pinned (OpenSpec.ofChange opFindsSpec)

/-- ITS FALSE NEIGHBOUR: 'it returns false'. Refute it at one input. -/
def opFindsWrong : ChangeSpec := { name := "opFinds", fn := fun _ => fun
  | [d1, d2, d3] => { results := [.lit (.bool false)], args := [d1, d2, d3] }
  | _ => none }
def OpFindsWrongFalsely : Prop := opFindsRow.holds Try.pinned (OpenSpec.ofChange opFindsWrong)

/-- 'tenterhooklaw07.OpGroups': WHATEVER THE INPUT: true; the input reads as it did. -/
def opGroupsSpec : ChangeSpec := { name := "opGroups", fn := fun _ => fun
  | [d] => { results := [.lit (.bool true)], args := [d] }
  | _ => none }
def opGroupsRow : OpenClaim := { program := "ytlpacdheabcpdaa", sum := "f68f6f3a8d007bfdea6dd6215a0fe1355e9d57c17bfb0e7c06d94abf5329994d", func := "tenterhook/tenterhooklaw07.OpGroups", spec := "opGroups", apart := false }
def OpGroupsSaid : Prop := opGroupsRow.holds Try.pinned (OpenSpec.ofChange opGroupsSpec)

/-- ITS FALSE NEIGHBOUR: 'it returns false'. Refute it at one input. -/
def opGroupsWrong : ChangeSpec := { name := "opGroups", fn := fun _ => fun
  | [d] => { results := [.lit (.bool false)], args := [d] }
  | _ => none }
def OpGroupsWrongFalsely : Prop := opGroupsRow.holds Try.pinned (OpenSpec.ofChange opGroupsWrong)

/- THE SECOND FORM. 'bulk': how many values and letters a reading holds, each counted each time it is reached (what is shared counts as often as it is met; a slice's spare places count too). A statement '..UptoSaid' is the law's where the arguments, and the package variables that the reading takes, are together of bulk at most 1048576: NARROWER than '..Said'. Prove '..Said' where nothing that the law and all that it calls make is longer than what came in: it says more and counts as full. Else prove '..UptoSaid'. A law counts once. -/
mutual
def uptoBulk {H : Type} : DataW H → Nat
  | .lit (.string bytes) => bytes.length + 1
  | .lit _ => 1
  | .nil => 1
  | .ptr d => uptoBulk d + 1
  | .slice elems spare => uptoBulkAll elems + uptoBulkAll spare + 1
  | .agg parts => uptoBulkAll parts + 1
  | .iface _ d => uptoBulk d + 1
  | .map entries => uptoBulkEntries entries + 1
  | .held _ => 1
def uptoBulkAll {H : Type} : List (DataW H) → Nat
  | [] => 0
  | d :: r => uptoBulk d + uptoBulkAll r
def uptoBulkEntries {H : Type} : List (Lit × DataW H) → Nat
  | [] => 0
  | x :: r => uptoBulkEntry x + uptoBulkEntries r
def uptoBulkEntry {H : Type} : Lit × DataW H → Nat
  | (.string bytes, d) => bytes.length + uptoBulk d + 1
  | (_, d) => uptoBulk d + 1
 end
def uptoSmall : (H : Type) → List (DataW H) → Bool := fun _ ds => decide (uptoBulkAll ds ≤ 1048576)
def OpenSpec.upto (s : _root_.Go.ChangeSpec) : _root_.Go.OpenSpec := { _root_.Go.OpenSpec.ofChange s with cond := some uptoSmall }

/-- 'tenterhooklaw07.OpIs', WHERE WHAT IT READS IS OF BULK AT MOST 1048576: true; the input reads as it did. -/
def opIsUptoRow : OpenClaim := { program := "ytlpacdheabcpdaa", sum := "f68f6f3a8d007bfdea6dd6215a0fe1355e9d57c17bfb0e7c06d94abf5329994d", func := "tenterhook/tenterhooklaw07.OpIs", spec := "opIs", apart := false, narrowed := true }
def OpIsUptoSaid : Prop := opIsUptoRow.holds Try.pinned (OpenSpec.upto opIsSpec)

/-- 'tenterhooklaw07.OpFinds', WHERE WHAT IT READS IS OF BULK AT MOST 1048576: true; the input reads as it did. -/
def opFindsUptoRow : OpenClaim := { program := "ytlpacdheabcpdaa", sum := "f68f6f3a8d007bfdea6dd6215a0fe1355e9d57c17bfb0e7c06d94abf5329994d", func := "tenterhook/tenterhooklaw07.OpFinds", spec := "opFinds", apart := false, narrowed := true }
def OpFindsUptoSaid : Prop := opFindsUptoRow.holds Try.pinned (OpenSpec.upto opFindsSpec)

/-- 'tenterhooklaw07.OpGroups', WHERE WHAT IT READS IS OF BULK AT MOST 1048576: true; the input reads as it did. -/
def opGroupsUptoRow : OpenClaim := { program := "ytlpacdheabcpdaa", sum := "f68f6f3a8d007bfdea6dd6215a0fe1355e9d57c17bfb0e7c06d94abf5329994d", func := "tenterhook/tenterhooklaw07.OpGroups", spec := "opGroups", apart := false, narrowed := true }
def OpGroupsUptoSaid : Prop := opGroupsUptoRow.holds Try.pinned (OpenSpec.upto opGroupsSpec)

end Rows
end Go.Proofs.Ytlpacdheabcpdaa
