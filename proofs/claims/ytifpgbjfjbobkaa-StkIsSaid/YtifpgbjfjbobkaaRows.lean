/-
  No cell of these rows narrows 'for every input' (looked for: loops, veiled, ifaces, maps, wideKeys, modest, calm, conditions, laid).
  DERIVED. THE GIVEN ROWS OF THIS SEAT. 6 by the template 'for every input the law returns true; each argument reads behind the call as it read before'; 0 by the template 'total and deterministic' (their statements: YtifpgbjfjbobkaaTotals.lean).
  GIVEN WITH THE SEED: the statements are not yours to turn. If you find one false, say at which input.
  Laid BY PROGRAM, IN A SANDBOX (cutbox-rows.mjs): the forced cells as the released guide's own fill.sh prints them over the translation 84e704899754ee51… (all of the seat's roots in one cut). By AI agents, Wed Nov 11 2026. No macro, syntax, notation, axiom, sorry.
-/
import Derived.Test.YtifpgbjfjbobkaaChecked
import GoSem.Claim
import GoSem.ClaimJoined
import GoSem.ClaimMapViews
import Derived.JoinedTies
import Derived.KernelRfl
namespace Go.Proofs.Ytifpgbjfjbobkaa
/- THE CELL 'sum', in the pinned program and in every row, IS THE sha256 OF THE DUMP (.gsa) THAT YtifpgbjfjbobkaaProg.lean LOADS. Nothing in Lean hashes anything: it is a label: what it is worth is what the hold of that sum in a sandbox is worth. -/
noncomputable def Try.pinned : Pinned := { name := "ytifpgbjfjbobkaa", sum := "84e704899754ee518eec171f21b507e0d9ef44c99218747ef41cb26b01d75c11", checked := Try.checked }
namespace Rows
def none {H : Type} : Left H := { results := [], args := [] }

/-- 'tenterhooklaw04.StkIs': WHATEVER THE INPUT: true; the input reads as it did. -/
def stkIsSpec : ChangeSpec := { name := "stkIs", fn := fun _ => fun
  | [d1, d2, d3, d4, d5] => { results := [.lit (.bool true)], args := [d1, d2, d3, d4, d5] }
  | _ => none }
def stkIsRow : OpenClaim := { program := "ytifpgbjfjbobkaa", sum := "84e704899754ee518eec171f21b507e0d9ef44c99218747ef41cb26b01d75c11", func := "tenterhook/tenterhooklaw04.StkIs", spec := "stkIs", apart := false }
def StkIsSaid : Prop := stkIsRow.holds Try.pinned (OpenSpec.ofChange stkIsSpec)

/-- ITS FALSE NEIGHBOUR: 'it returns false'. Refute it at one input. -/
def stkIsWrong : ChangeSpec := { name := "stkIs", fn := fun _ => fun
  | [d1, d2, d3, d4, d5] => { results := [.lit (.bool false)], args := [d1, d2, d3, d4, d5] }
  | _ => none }
def StkIsWrongFalsely : Prop := stkIsRow.holds Try.pinned (OpenSpec.ofChange stkIsWrong)

/-- 'tenterhooklaw04.StkBack': WHATEVER THE INPUT: true; the input reads as it did. -/
def stkBackSpec : ChangeSpec := { name := "stkBack", fn := fun _ => fun
  | [d1, d2, d3] => { results := [.lit (.bool true)], args := [d1, d2, d3] }
  | _ => none }
def stkBackRow : OpenClaim := { program := "ytifpgbjfjbobkaa", sum := "84e704899754ee518eec171f21b507e0d9ef44c99218747ef41cb26b01d75c11", func := "tenterhook/tenterhooklaw04.StkBack", spec := "stkBack", apart := false }
def StkBackSaid : Prop := stkBackRow.holds Try.pinned (OpenSpec.ofChange stkBackSpec)

/-- ITS FALSE NEIGHBOUR: 'it returns false'. Refute it at one input. -/
def stkBackWrong : ChangeSpec := { name := "stkBack", fn := fun _ => fun
  | [d1, d2, d3] => { results := [.lit (.bool false)], args := [d1, d2, d3] }
  | _ => none }
def StkBackWrongFalsely : Prop := stkBackRow.holds Try.pinned (OpenSpec.ofChange stkBackWrong)

/-- 'tenterhooklaw04.StkRolls': WHATEVER THE INPUT: true; the input reads as it did. -/
def stkRollsSpec : ChangeSpec := { name := "stkRolls", fn := fun _ => fun
  | [d1, d2] => { results := [.lit (.bool true)], args := [d1, d2] }
  | _ => none }
def stkRollsRow : OpenClaim := { program := "ytifpgbjfjbobkaa", sum := "84e704899754ee518eec171f21b507e0d9ef44c99218747ef41cb26b01d75c11", func := "tenterhook/tenterhooklaw04.StkRolls", spec := "stkRolls", apart := false }
def StkRollsSaid : Prop := stkRollsRow.holds Try.pinned (OpenSpec.ofChange stkRollsSpec)

/-- ITS FALSE NEIGHBOUR: 'it returns false'. Refute it at one input. -/
def stkRollsWrong : ChangeSpec := { name := "stkRolls", fn := fun _ => fun
  | [d1, d2] => { results := [.lit (.bool false)], args := [d1, d2] }
  | _ => none }
def StkRollsWrongFalsely : Prop := stkRollsRow.holds Try.pinned (OpenSpec.ofChange stkRollsWrong)

/-- 'tenterhooklaw04.StkPicks': WHATEVER THE INPUT: true; the input reads as it did. -/
def stkPicksSpec : ChangeSpec := { name := "stkPicks", fn := fun _ => fun
  | [d1, d2] => { results := [.lit (.bool true)], args := [d1, d2] }
  | _ => none }
def stkPicksRow : OpenClaim := { program := "ytifpgbjfjbobkaa", sum := "84e704899754ee518eec171f21b507e0d9ef44c99218747ef41cb26b01d75c11", func := "tenterhook/tenterhooklaw04.StkPicks", spec := "stkPicks", apart := false }
def StkPicksSaid : Prop := stkPicksRow.holds Try.pinned (OpenSpec.ofChange stkPicksSpec)

/-- ITS FALSE NEIGHBOUR: 'it returns false'. Refute it at one input. -/
def stkPicksWrong : ChangeSpec := { name := "stkPicks", fn := fun _ => fun
  | [d1, d2] => { results := [.lit (.bool false)], args := [d1, d2] }
  | _ => none }
def StkPicksWrongFalsely : Prop := stkPicksRow.holds Try.pinned (OpenSpec.ofChange stkPicksWrong)

/-- 'tenterhooklaw04.StkMoves': WHATEVER THE INPUT: true; the input reads as it did. -/
def stkMovesSpec : ChangeSpec := { name := "stkMoves", fn := fun _ => fun
  | [d1, d2] => { results := [.lit (.bool true)], args := [d1, d2] }
  | _ => none }
def stkMovesRow : OpenClaim := { program := "ytifpgbjfjbobkaa", sum := "84e704899754ee518eec171f21b507e0d9ef44c99218747ef41cb26b01d75c11", func := "tenterhook/tenterhooklaw04.StkMoves", spec := "stkMoves", apart := false }
def StkMovesSaid : Prop := stkMovesRow.holds Try.pinned (OpenSpec.ofChange stkMovesSpec)

/-- ITS FALSE NEIGHBOUR: 'it returns false'. Refute it at one input. -/
def stkMovesWrong : ChangeSpec := { name := "stkMoves", fn := fun _ => fun
  | [d1, d2] => { results := [.lit (.bool false)], args := [d1, d2] }
  | _ => none }
def StkMovesWrongFalsely : Prop := stkMovesRow.holds Try.pinned (OpenSpec.ofChange stkMovesWrong)

/-- 'tenterhooklaw04.StkParts': WHATEVER THE INPUT: true; the input reads as it did. -/
def stkPartsSpec : ChangeSpec := { name := "stkParts", fn := fun _ => fun
  | [d1, d2, d3, d4] => { results := [.lit (.bool true)], args := [d1, d2, d3, d4] }
  | _ => none }
def stkPartsRow : OpenClaim := { program := "ytifpgbjfjbobkaa", sum := "84e704899754ee518eec171f21b507e0d9ef44c99218747ef41cb26b01d75c11", func := "tenterhook/tenterhooklaw04.StkParts", spec := "stkParts", apart := false }
def StkPartsSaid : Prop := stkPartsRow.holds Try.pinned (OpenSpec.ofChange stkPartsSpec)

/-- ITS FALSE NEIGHBOUR: 'it returns false'. Refute it at one input. -/
def stkPartsWrong : ChangeSpec := { name := "stkParts", fn := fun _ => fun
  | [d1, d2, d3, d4] => { results := [.lit (.bool false)], args := [d1, d2, d3, d4] }
  | _ => none }
def StkPartsWrongFalsely : Prop := stkPartsRow.holds Try.pinned (OpenSpec.ofChange stkPartsWrong)

/- THE SECOND FORM. 'bulk': how many values and letters a reading holds, each counted each time it is reached (what is shared counts as often as it is met; a slice's spare places count too). A statement '..UptoSaid' is the law's where the arguments, and the package variables that the reading takes, are together of bulk at most 1048576: NARROWER than '..Said'. Prove '..Said' where nothing that the law and all that it calls make is longer than what came in: it says more and counts as full. Else prove '..UptoSaid'. A law counts once. -/
mutual
def uptoBulk {H : Type} : DataW H → Nat
  | .lit (.string bytes) => bytes.length + 1
  | .lit _ => 1
  | .nil => 1
  | .ptr d => uptoBulk d + 1
  | .slice elems spare => uptoBulkAll elems + uptoBulkAll spare + 1
  | .agg parts => uptoBulkAll parts + 1
  | .iface _ d => uptoBulk d + 1
  | .map entries => uptoBulkEntries entries + 1
  | .held _ => 1
def uptoBulkAll {H : Type} : List (DataW H) → Nat
  | [] => 0
  | d :: r => uptoBulk d + uptoBulkAll r
def uptoBulkEntries {H : Type} : List (Lit × DataW H) → Nat
  | [] => 0
  | x :: r => uptoBulkEntry x + uptoBulkEntries r
def uptoBulkEntry {H : Type} : Lit × DataW H → Nat
  | (.string bytes, d) => bytes.length + uptoBulk d + 1
  | (_, d) => uptoBulk d + 1
 end
def uptoSmall : (H : Type) → List (DataW H) → Bool := fun _ ds => decide (uptoBulkAll ds ≤ 1048576)
def OpenSpec.upto (s : _root_.Go.ChangeSpec) : _root_.Go.OpenSpec := { _root_.Go.OpenSpec.ofChange s with cond := some uptoSmall }

/-- 'tenterhooklaw04.StkIs', WHERE WHAT IT READS IS OF BULK AT MOST 1048576: true; the input reads as it did. -/
def stkIsUptoRow : OpenClaim := { program := "ytifpgbjfjbobkaa", sum := "84e704899754ee518eec171f21b507e0d9ef44c99218747ef41cb26b01d75c11", func := "tenterhook/tenterhooklaw04.StkIs", spec := "stkIs", apart := false, narrowed := true }
def StkIsUptoSaid : Prop := stkIsUptoRow.holds Try.pinned (OpenSpec.upto stkIsSpec)

/-- 'tenterhooklaw04.StkBack', WHERE WHAT IT READS IS OF BULK AT MOST 1048576: true; the input reads as it did. -/
def stkBackUptoRow : OpenClaim := { program := "ytifpgbjfjbobkaa", sum := "84e704899754ee518eec171f21b507e0d9ef44c99218747ef41cb26b01d75c11", func := "tenterhook/tenterhooklaw04.StkBack", spec := "stkBack", apart := false, narrowed := true }
def StkBackUptoSaid : Prop := stkBackUptoRow.holds Try.pinned (OpenSpec.upto stkBackSpec)

/-- 'tenterhooklaw04.StkRolls', WHERE WHAT IT READS IS OF BULK AT MOST 1048576: true; the input reads as it did. -/
def stkRollsUptoRow : OpenClaim := { program := "ytifpgbjfjbobkaa", sum := "84e704899754ee518eec171f21b507e0d9ef44c99218747ef41cb26b01d75c11", func := "tenterhook/tenterhooklaw04.StkRolls", spec := "stkRolls", apart := false, narrowed := true }
def StkRollsUptoSaid : Prop := stkRollsUptoRow.holds Try.pinned (OpenSpec.upto stkRollsSpec)

/-- 'tenterhooklaw04.StkPicks', WHERE WHAT IT READS IS OF BULK AT MOST 1048576: true; the input reads as it did. -/
def stkPicksUptoRow : OpenClaim := { program := "ytifpgbjfjbobkaa", sum := "84e704899754ee518eec171f21b507e0d9ef44c99218747ef41cb26b01d75c11", func := "tenterhook/tenterhooklaw04.StkPicks", spec := "stkPicks", apart := false, narrowed := true }
def StkPicksUptoSaid : Prop := stkPicksUptoRow.holds Try.pinned (OpenSpec.upto stkPicksSpec)

/-- 'tenterhooklaw04.StkMoves', WHERE WHAT IT READS IS OF BULK AT MOST 1048576: true; the input reads as it did. -/
def stkMovesUptoRow : OpenClaim := { program := "ytifpgbjfjbobkaa", sum := "84e704899754ee518eec171f21b507e0d9ef44c99218747ef41cb26b01d75c11", func := "tenterhook/tenterhooklaw04.StkMoves", spec := "stkMoves", apart := false, narrowed := true }
def StkMovesUptoSaid : Prop := stkMovesUptoRow.holds Try.pinned (OpenSpec.upto stkMovesSpec)

/-- 'tenterhooklaw04.StkParts', WHERE WHAT IT READS IS OF BULK AT MOST 1048576: true; the input reads as it did. -/
def stkPartsUptoRow : OpenClaim := { program := "ytifpgbjfjbobkaa", sum := "84e704899754ee518eec171f21b507e0d9ef44c99218747ef41cb26b01d75c11", func := "tenterhook/tenterhooklaw04.StkParts", spec := "stkParts", apart := false, narrowed := true }
def StkPartsUptoSaid : Prop := stkPartsUptoRow.holds Try.pinned (OpenSpec.upto stkPartsSpec)

end Rows
end Go.Proofs.Ytifpgbjfjbobkaa
