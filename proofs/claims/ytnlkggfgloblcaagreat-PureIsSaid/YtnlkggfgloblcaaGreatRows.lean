/-
  No cell of these rows narrows 'for every input' (looked for: loops, veiled, ifaces, maps, wideKeys, modest, calm, conditions, laid).
  DERIVED. THE GIVEN ROWS OF THIS SEAT. 8 by the template 'for every input the law returns true; each argument reads behind the call as it read before'; 0 by the template 'total and deterministic' (their statements: YtnlkggfgloblcaaGreatTotals.lean).
  GIVEN WITH THE SEED: the statements are not yours to turn. If you find one false, say at which input.
  Laid BY PROGRAM, IN A SANDBOX (cutbox-rows.mjs): the forced cells as the released guide's own fill.sh prints them over the translation 00b9f7ee511a1793… (all of the seat's roots in one cut). By AI agents, Wed Nov 11 2026. No macro, syntax, notation, axiom, sorry.
-/
import Derived.Test.YtnlkggfgloblcaaGreatChecked
import GoSem.Claim
import GoSem.ClaimJoined
import GoSem.ClaimMapViews
import Derived.JoinedTies
import Derived.KernelRfl
namespace Go.Proofs.YtnlkggfgloblcaaGreat
/- THE CELL 'sum', in the pinned program and in every row, IS THE sha256 OF THE DUMP (.gsa) THAT YtnlkggfgloblcaaGreatProg.lean LOADS. Nothing in Lean hashes anything: it is a label: what it is worth is what the hold of that sum in a sandbox is worth. -/
noncomputable def Tryz.pinned : Pinned := { name := "ytnlkggfgloblcaagreat", sum := "00b9f7ee511a17937a111303b63c11111861d124167a2c2e40fe6e6f35701c61", checked := Tryz.checked }
namespace Rows
def none {H : Type} : Left H := { results := [], args := [] }

/-- 'tenterhooklaw09.PureIs': WHATEVER THE INPUT: true; the input reads as it did. -/
def pureIsSpec : ChangeSpec := { name := "pureIs", fn := fun _ => fun
  | [d1, d2, d3] => { results := [.lit (.bool true)], args := [d1, d2, d3] }
  | _ => none }
def pureIsRow : OpenClaim := { program := "ytnlkggfgloblcaagreat", sum := "00b9f7ee511a17937a111303b63c11111861d124167a2c2e40fe6e6f35701c61", func := "tenterhook/tenterhooklaw09.PureIs", spec := "pureIs", unfollowed := true, recurses := true, apart := false }
def PureIsSaid : Prop := pureIsRow.holds Tryz.pinned (OpenSpec.ofChange pureIsSpec)

/-- ITS FALSE NEIGHBOUR: 'it returns false'. Refute it at one input. -/
def pureIsWrong : ChangeSpec := { name := "pureIs", fn := fun _ => fun
  | [d1, d2, d3] => { results := [.lit (.bool false)], args := [d1, d2, d3] }
  | _ => none }
def PureIsWrongFalsely : Prop := pureIsRow.holds Tryz.pinned (OpenSpec.ofChange pureIsWrong)

/-- 'tenterhooklaw09.PureCounts': WHATEVER THE INPUT: true; the input reads as it did. -/
def pureCountsSpec : ChangeSpec := { name := "pureCounts", fn := fun _ => fun
  | [d1, d2] => { results := [.lit (.bool true)], args := [d1, d2] }
  | _ => none }
def pureCountsRow : OpenClaim := { program := "ytnlkggfgloblcaagreat", sum := "00b9f7ee511a17937a111303b63c11111861d124167a2c2e40fe6e6f35701c61", func := "tenterhook/tenterhooklaw09.PureCounts", spec := "pureCounts", unfollowed := true, recurses := true, apart := false }
def PureCountsSaid : Prop := pureCountsRow.holds Tryz.pinned (OpenSpec.ofChange pureCountsSpec)

/-- ITS FALSE NEIGHBOUR: 'it returns false'. Refute it at one input. -/
def pureCountsWrong : ChangeSpec := { name := "pureCounts", fn := fun _ => fun
  | [d1, d2] => { results := [.lit (.bool false)], args := [d1, d2] }
  | _ => none }
def PureCountsWrongFalsely : Prop := pureCountsRow.holds Tryz.pinned (OpenSpec.ofChange pureCountsWrong)

/-- 'tenterhooklaw09.PureBack': WHATEVER THE INPUT: true; the input reads as it did. -/
def pureBackSpec : ChangeSpec := { name := "pureBack", fn := fun _ => fun
  | [d] => { results := [.lit (.bool true)], args := [d] }
  | _ => none }
def pureBackRow : OpenClaim := { program := "ytnlkggfgloblcaagreat", sum := "00b9f7ee511a17937a111303b63c11111861d124167a2c2e40fe6e6f35701c61", func := "tenterhook/tenterhooklaw09.PureBack", spec := "pureBack", unfollowed := true, recurses := true, apart := false }
def PureBackSaid : Prop := pureBackRow.holds Tryz.pinned (OpenSpec.ofChange pureBackSpec)

/-- ITS FALSE NEIGHBOUR: 'it returns false'. Refute it at one input. -/
def pureBackWrong : ChangeSpec := { name := "pureBack", fn := fun _ => fun
  | [d] => { results := [.lit (.bool false)], args := [d] }
  | _ => none }
def PureBackWrongFalsely : Prop := pureBackRow.holds Tryz.pinned (OpenSpec.ofChange pureBackWrong)

/-- 'tenterhooklaw09.PureSums': WHATEVER THE INPUT: true; the input reads as it did. -/
def pureSumsSpec : ChangeSpec := { name := "pureSums", fn := fun _ => fun
  | [d1, d2] => { results := [.lit (.bool true)], args := [d1, d2] }
  | _ => none }
def pureSumsRow : OpenClaim := { program := "ytnlkggfgloblcaagreat", sum := "00b9f7ee511a17937a111303b63c11111861d124167a2c2e40fe6e6f35701c61", func := "tenterhook/tenterhooklaw09.PureSums", spec := "pureSums", unfollowed := true, recurses := true, apart := false }
def PureSumsSaid : Prop := pureSumsRow.holds Tryz.pinned (OpenSpec.ofChange pureSumsSpec)

/-- ITS FALSE NEIGHBOUR: 'it returns false'. Refute it at one input. -/
def pureSumsWrong : ChangeSpec := { name := "pureSums", fn := fun _ => fun
  | [d1, d2] => { results := [.lit (.bool false)], args := [d1, d2] }
  | _ => none }
def PureSumsWrongFalsely : Prop := pureSumsRow.holds Tryz.pinned (OpenSpec.ofChange pureSumsWrong)

/-- 'tenterhooklaw09.PureFlags': WHATEVER THE INPUT: true; the input reads as it did. -/
def pureFlagsSpec : ChangeSpec := { name := "pureFlags", fn := fun _ => fun
  | [d1, d2] => { results := [.lit (.bool true)], args := [d1, d2] }
  | _ => none }
def pureFlagsRow : OpenClaim := { program := "ytnlkggfgloblcaagreat", sum := "00b9f7ee511a17937a111303b63c11111861d124167a2c2e40fe6e6f35701c61", func := "tenterhook/tenterhooklaw09.PureFlags", spec := "pureFlags", unfollowed := true, recurses := true, apart := false }
def PureFlagsSaid : Prop := pureFlagsRow.holds Tryz.pinned (OpenSpec.ofChange pureFlagsSpec)

/-- ITS FALSE NEIGHBOUR: 'it returns false'. Refute it at one input. -/
def pureFlagsWrong : ChangeSpec := { name := "pureFlags", fn := fun _ => fun
  | [d1, d2] => { results := [.lit (.bool false)], args := [d1, d2] }
  | _ => none }
def PureFlagsWrongFalsely : Prop := pureFlagsRow.holds Tryz.pinned (OpenSpec.ofChange pureFlagsWrong)

/-- 'tenterhooklaw09.PureBelow': WHATEVER THE INPUT: true; the input reads as it did. -/
def pureBelowSpec : ChangeSpec := { name := "pureBelow", fn := fun _ => fun
  | [d1, d2, d3] => { results := [.lit (.bool true)], args := [d1, d2, d3] }
  | _ => none }
def pureBelowRow : OpenClaim := { program := "ytnlkggfgloblcaagreat", sum := "00b9f7ee511a17937a111303b63c11111861d124167a2c2e40fe6e6f35701c61", func := "tenterhook/tenterhooklaw09.PureBelow", spec := "pureBelow", unfollowed := true, recurses := true, apart := false }
def PureBelowSaid : Prop := pureBelowRow.holds Tryz.pinned (OpenSpec.ofChange pureBelowSpec)

/-- ITS FALSE NEIGHBOUR: 'it returns false'. Refute it at one input. -/
def pureBelowWrong : ChangeSpec := { name := "pureBelow", fn := fun _ => fun
  | [d1, d2, d3] => { results := [.lit (.bool false)], args := [d1, d2, d3] }
  | _ => none }
def PureBelowWrongFalsely : Prop := pureBelowRow.holds Tryz.pinned (OpenSpec.ofChange pureBelowWrong)

/-- 'tenterhooklaw09.PureRows': WHATEVER THE INPUT: true; the input reads as it did. -/
def pureRowsSpec : ChangeSpec := { name := "pureRows", fn := fun _ => fun
  | [d1, d2, d3] => { results := [.lit (.bool true)], args := [d1, d2, d3] }
  | _ => none }
def pureRowsRow : OpenClaim := { program := "ytnlkggfgloblcaagreat", sum := "00b9f7ee511a17937a111303b63c11111861d124167a2c2e40fe6e6f35701c61", func := "tenterhook/tenterhooklaw09.PureRows", spec := "pureRows", unfollowed := true, recurses := true, apart := false }
def PureRowsSaid : Prop := pureRowsRow.holds Tryz.pinned (OpenSpec.ofChange pureRowsSpec)

/-- ITS FALSE NEIGHBOUR: 'it returns false'. Refute it at one input. -/
def pureRowsWrong : ChangeSpec := { name := "pureRows", fn := fun _ => fun
  | [d1, d2, d3] => { results := [.lit (.bool false)], args := [d1, d2, d3] }
  | _ => none }
def PureRowsWrongFalsely : Prop := pureRowsRow.holds Tryz.pinned (OpenSpec.ofChange pureRowsWrong)

/-- 'tenterhooklaw09.PureBits': WHATEVER THE INPUT: true; the input reads as it did. -/
def pureBitsSpec : ChangeSpec := { name := "pureBits", fn := fun _ => fun
  | [d1, d2] => { results := [.lit (.bool true)], args := [d1, d2] }
  | _ => none }
def pureBitsRow : OpenClaim := { program := "ytnlkggfgloblcaagreat", sum := "00b9f7ee511a17937a111303b63c11111861d124167a2c2e40fe6e6f35701c61", func := "tenterhook/tenterhooklaw09.PureBits", spec := "pureBits", unfollowed := true, recurses := true, apart := false }
def PureBitsSaid : Prop := pureBitsRow.holds Tryz.pinned (OpenSpec.ofChange pureBitsSpec)

/-- ITS FALSE NEIGHBOUR: 'it returns false'. Refute it at one input. -/
def pureBitsWrong : ChangeSpec := { name := "pureBits", fn := fun _ => fun
  | [d1, d2] => { results := [.lit (.bool false)], args := [d1, d2] }
  | _ => none }
def PureBitsWrongFalsely : Prop := pureBitsRow.holds Tryz.pinned (OpenSpec.ofChange pureBitsWrong)

/- THE SECOND FORM. 'bulk': how many values and letters a reading holds, each counted each time it is reached (what is shared counts as often as it is met; a slice's spare places count too). A statement '..UptoSaid' is the law's where the arguments, and the package variables that the reading takes, are together of bulk at most 1048576: NARROWER than '..Said'. Prove '..Said' where nothing that the law and all that it calls make is longer than what came in: it says more and counts as full. Else prove '..UptoSaid'. A law counts once. -/
mutual
def uptoBulk {H : Type} : DataW H → Nat
  | .lit (.string bytes) => bytes.length + 1
  | .lit _ => 1
  | .nil => 1
  | .ptr d => uptoBulk d + 1
  | .slice elems spare => uptoBulkAll elems + uptoBulkAll spare + 1
  | .agg parts => uptoBulkAll parts + 1
  | .iface _ d => uptoBulk d + 1
  | .map entries => uptoBulkEntries entries + 1
  | .held _ => 1
def uptoBulkAll {H : Type} : List (DataW H) → Nat
  | [] => 0
  | d :: r => uptoBulk d + uptoBulkAll r
def uptoBulkEntries {H : Type} : List (Lit × DataW H) → Nat
  | [] => 0
  | x :: r => uptoBulkEntry x + uptoBulkEntries r
def uptoBulkEntry {H : Type} : Lit × DataW H → Nat
  | (.string bytes, d) => bytes.length + uptoBulk d + 1
  | (_, d) => uptoBulk d + 1
 end
def uptoSmall : (H : Type) → List (DataW H) → Bool := fun _ ds => decide (uptoBulkAll ds ≤ 1048576)
def OpenSpec.upto (s : _root_.Go.ChangeSpec) : _root_.Go.OpenSpec := { _root_.Go.OpenSpec.ofChange s with cond := some uptoSmall }

/-- 'tenterhooklaw09.PureIs', WHERE WHAT IT READS IS OF BULK AT MOST 1048576: true; the input reads as it did. -/
def pureIsUptoRow : OpenClaim := { program := "ytnlkggfgloblcaagreat", sum := "00b9f7ee511a17937a111303b63c11111861d124167a2c2e40fe6e6f35701c61", func := "tenterhook/tenterhooklaw09.PureIs", spec := "pureIs", unfollowed := true, recurses := true, apart := false, narrowed := true }
def PureIsUptoSaid : Prop := pureIsUptoRow.holds Tryz.pinned (OpenSpec.upto pureIsSpec)

/-- 'tenterhooklaw09.PureCounts', WHERE WHAT IT READS IS OF BULK AT MOST 1048576: true; the input reads as it did. -/
def pureCountsUptoRow : OpenClaim := { program := "ytnlkggfgloblcaagreat", sum := "00b9f7ee511a17937a111303b63c11111861d124167a2c2e40fe6e6f35701c61", func := "tenterhook/tenterhooklaw09.PureCounts", spec := "pureCounts", unfollowed := true, recurses := true, apart := false, narrowed := true }
def PureCountsUptoSaid : Prop := pureCountsUptoRow.holds Tryz.pinned (OpenSpec.upto pureCountsSpec)

/-- 'tenterhooklaw09.PureBack', WHERE WHAT IT READS IS OF BULK AT MOST 1048576: true; the input reads as it did. -/
def pureBackUptoRow : OpenClaim := { program := "ytnlkggfgloblcaagreat", sum := "00b9f7ee511a17937a111303b63c11111861d124167a2c2e40fe6e6f35701c61", func := "tenterhook/tenterhooklaw09.PureBack", spec := "pureBack", unfollowed := true, recurses := true, apart := false, narrowed := true }
def PureBackUptoSaid : Prop := pureBackUptoRow.holds Tryz.pinned (OpenSpec.upto pureBackSpec)

/-- 'tenterhooklaw09.PureSums', WHERE WHAT IT READS IS OF BULK AT MOST 1048576: true; the input reads as it did. -/
def pureSumsUptoRow : OpenClaim := { program := "ytnlkggfgloblcaagreat", sum := "00b9f7ee511a17937a111303b63c11111861d124167a2c2e40fe6e6f35701c61", func := "tenterhook/tenterhooklaw09.PureSums", spec := "pureSums", unfollowed := true, recurses := true, apart := false, narrowed := true }
def PureSumsUptoSaid : Prop := pureSumsUptoRow.holds Tryz.pinned (OpenSpec.upto pureSumsSpec)

/-- 'tenterhooklaw09.PureFlags', WHERE WHAT IT READS IS OF BULK AT MOST 1048576: true; the input reads as it did. -/
def pureFlagsUptoRow : OpenClaim := { program := "ytnlkggfgloblcaagreat", sum := "00b9f7ee511a17937a111303b63c11111861d124167a2c2e40fe6e6f35701c61", func := "tenterhook/tenterhooklaw09.PureFlags", spec := "pureFlags", unfollowed := true, recurses := true, apart := false, narrowed := true }
def PureFlagsUptoSaid : Prop := pureFlagsUptoRow.holds Tryz.pinned (OpenSpec.upto pureFlagsSpec)

/-- 'tenterhooklaw09.PureBelow', WHERE WHAT IT READS IS OF BULK AT MOST 1048576: true; the input reads as it did. -/
def pureBelowUptoRow : OpenClaim := { program := "ytnlkggfgloblcaagreat", sum := "00b9f7ee511a17937a111303b63c11111861d124167a2c2e40fe6e6f35701c61", func := "tenterhook/tenterhooklaw09.PureBelow", spec := "pureBelow", unfollowed := true, recurses := true, apart := false, narrowed := true }
def PureBelowUptoSaid : Prop := pureBelowUptoRow.holds Tryz.pinned (OpenSpec.upto pureBelowSpec)

/-- 'tenterhooklaw09.PureRows', WHERE WHAT IT READS IS OF BULK AT MOST 1048576: true; the input reads as it did. -/
def pureRowsUptoRow : OpenClaim := { program := "ytnlkggfgloblcaagreat", sum := "00b9f7ee511a17937a111303b63c11111861d124167a2c2e40fe6e6f35701c61", func := "tenterhook/tenterhooklaw09.PureRows", spec := "pureRows", unfollowed := true, recurses := true, apart := false, narrowed := true }
def PureRowsUptoSaid : Prop := pureRowsUptoRow.holds Tryz.pinned (OpenSpec.upto pureRowsSpec)

/-- 'tenterhooklaw09.PureBits', WHERE WHAT IT READS IS OF BULK AT MOST 1048576: true; the input reads as it did. -/
def pureBitsUptoRow : OpenClaim := { program := "ytnlkggfgloblcaagreat", sum := "00b9f7ee511a17937a111303b63c11111861d124167a2c2e40fe6e6f35701c61", func := "tenterhook/tenterhooklaw09.PureBits", spec := "pureBits", unfollowed := true, recurses := true, apart := false, narrowed := true }
def PureBitsUptoSaid : Prop := pureBitsUptoRow.holds Tryz.pinned (OpenSpec.upto pureBitsSpec)

end Rows
end Go.Proofs.YtnlkggfgloblcaaGreat
