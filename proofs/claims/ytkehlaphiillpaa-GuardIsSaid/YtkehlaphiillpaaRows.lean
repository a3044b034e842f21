/-
  No cell of these rows narrows 'for every input' (looked for: loops, veiled, ifaces, maps, wideKeys, modest, calm, conditions, laid).
  DERIVED. THE GIVEN ROWS OF THIS SEAT. 6 by the template 'for every input the law returns true; each argument reads behind the call as it read before'; 0 by the template 'total and deterministic' (their statements: YtkehlaphiillpaaTotals.lean).
  GIVEN WITH THE SEED: the statements are not yours to turn. If you find one false, say at which input.
  Laid BY PROGRAM, IN A SANDBOX (cutbox-rows.mjs): the forced cells as the released guide's own fill.sh prints them over the translation 784ce90274d07219… (all of the seat's roots in one cut). By AI agents, Wed Nov 11 2026. No macro, syntax, notation, axiom, sorry.
-/
import Derived.Test.YtkehlaphiillpaaChecked
import GoSem.Claim
import GoSem.ClaimJoined
import GoSem.ClaimMapViews
import Derived.JoinedTies
import Derived.KernelRfl
namespace Go.Proofs.Ytkehlaphiillpaa
/- THE CELL 'sum', in the pinned program and in every row, IS THE sha256 OF THE DUMP (.gsa) THAT YtkehlaphiillpaaProg.lean LOADS. Nothing in Lean hashes anything: it is a label: what it is worth is what the hold of that sum in a sandbox is worth. -/
noncomputable def Try.pinned : Pinned := { name := "ytkehlaphiillpaa", sum := "784ce90274d07219c3c04268563a6a7a853f824c8f0cce5e820077607de393d0", checked := Try.checked }
namespace Rows
def none {H : Type} : Left H := { results := [], args := [] }

/-- 'tenterhooklaw12.GuardIs': WHATEVER THE INPUT: true; the input reads as it did. -/
def guardIsSpec : ChangeSpec := { name := "guardIs", fn := fun _ => fun
  | [d1, d2, d3, d4, d5, d6] => { results := [.lit (.bool true)], args := [d1, d2, d3, d4, d5, d6] }
  | _ => none }
def guardIsRow : OpenClaim := { program := "ytkehlaphiillpaa", sum := "784ce90274d07219c3c04268563a6a7a853f824c8f0cce5e820077607de393d0", func := "tenterhook/tenterhooklaw12.GuardIs", spec := "guardIs", apart := false }
def GuardIsSaid : Prop := guardIsRow.holds Try.pinned (OpenSpec.ofChange guardIsSpec)

/-- ITS FALSE NEIGHBOUR: 'it returns false'. Refute it at one input. -/
def guardIsWrong : ChangeSpec := { name := "guardIs", fn := fun _ => fun
  | [d1, d2, d3, d4, d5, d6] => { results := [.lit (.bool false)], args := [d1, d2, d3, d4, d5, d6] }
  | _ => none }
def GuardIsWrongFalsely : Prop := guardIsRow.holds Try.pinned (OpenSpec.ofChange guardIsWrong)

/-- 'tenterhooklaw12.GuardApart': WHATEVER THE INPUT: true; the input reads as it did. -/
def guardApartSpec : ChangeSpec := { name := "guardApart", fn := fun _ => fun
  | [d1, d2, d3, d4] => { results := [.lit (.bool true)], args := [d1, d2, d3, d4] }
  | _ => none }
def guardApartRow : OpenClaim := { program := "ytkehlaphiillpaa", sum := "784ce90274d07219c3c04268563a6a7a853f824c8f0cce5e820077607de393d0", func := "tenterhook/tenterhooklaw12.GuardApart", spec := "guardApart", apart := false }
def GuardApartSaid : Prop := guardApartRow.holds Try.pinned (OpenSpec.ofChange guardApartSpec)

/-- ITS FALSE NEIGHBOUR: 'it returns false'. Refute it at one input. -/
def guardApartWrong : ChangeSpec := { name := "guardApart", fn := fun _ => fun
  | [d1, d2, d3, d4] => { results := [.lit (.bool false)], args := [d1, d2, d3, d4] }
  | _ => none }
def GuardApartWrongFalsely : Prop := guardApartRow.holds Try.pinned (OpenSpec.ofChange guardApartWrong)

/-- 'tenterhooklaw12.GuardParts': WHATEVER THE INPUT: true; the input reads as it did. -/
def guardPartsSpec : ChangeSpec := { name := "guardParts", fn := fun _ => fun
  | [d1, d2, d3, d4, d5] => { results := [.lit (.bool true)], args := [d1, d2, d3, d4, d5] }
  | _ => none }
def guardPartsRow : OpenClaim := { program := "ytkehlaphiillpaa", sum := "784ce90274d07219c3c04268563a6a7a853f824c8f0cce5e820077607de393d0", func := "tenterhook/tenterhooklaw12.GuardParts", spec := "guardParts", apart := false }
def GuardPartsSaid : Prop := guardPartsRow.holds Try.pinned (OpenSpec.ofChange guardPartsSpec)

/-- ITS FALSE NEIGHBOUR: 'it returns false'. Refute it at one input. -/
def guardPartsWrong : ChangeSpec := { name := "guardParts", fn := fun _ => fun
  | [d1, d2, d3, d4, d5] => { results := [.lit (.bool false)], args := [d1, d2, d3, d4, d5] }
  | _ => none }
def GuardPartsWrongFalsely : Prop := guardPartsRow.holds Try.pinned (OpenSpec.ofChange guardPartsWrong)

/-- 'tenterhooklaw12.GuardWrites': WHATEVER THE INPUT: true; the input reads as it did. -/
def guardWritesSpec : ChangeSpec := { name := "guardWrites", fn := fun _ => fun
  | [d1, d2, d3, d4, d5] => { results := [.lit (.bool true)], args := [d1, d2, d3, d4, d5] }
  | _ => none }
def guardWritesRow : OpenClaim := { program := "ytkehlaphiillpaa", sum := "784ce90274d07219c3c04268563a6a7a853f824c8f0cce5e820077607de393d0", func := "tenterhook/tenterhooklaw12.GuardWrites", spec := "guardWrites", apart := false }
def GuardWritesSaid : Prop := guardWritesRow.holds Try.pinned (OpenSpec.ofChange guardWritesSpec)

/-- ITS FALSE NEIGHBOUR: 'it returns false'. Refute it at one input. -/
def guardWritesWrong : ChangeSpec := { name := "guardWrites", fn := fun _ => fun
  | [d1, d2, d3, d4, d5] => { results := [.lit (.bool false)], args := [d1, d2, d3, d4, d5] }
  | _ => none }
def GuardWritesWrongFalsely : Prop := guardWritesRow.holds Try.pinned (OpenSpec.ofChange guardWritesWrong)

/-- 'tenterhooklaw12.GuardHost': WHATEVER THE INPUT: true; the input reads as it did. -/
def guardHostSpec : ChangeSpec := { name := "guardHost", fn := fun _ => fun
  | [d1, d2, d3] => { results := [.lit (.bool true)], args := [d1, d2, d3] }
  | _ => none }
def guardHostRow : OpenClaim := { program := "ytkehlaphiillpaa", sum := "784ce90274d07219c3c04268563a6a7a853f824c8f0cce5e820077607de393d0", func := "tenterhook/tenterhooklaw12.GuardHost", spec := "guardHost", apart := false }
def GuardHostSaid : Prop := guardHostRow.holds Try.pinned (OpenSpec.ofChange guardHostSpec)

/-- ITS FALSE NEIGHBOUR: 'it returns false'. Refute it at one input. -/
def guardHostWrong : ChangeSpec := { name := "guardHost", fn := fun _ => fun
  | [d1, d2, d3] => { results := [.lit (.bool false)], args := [d1, d2, d3] }
  | _ => none }
def GuardHostWrongFalsely : Prop := guardHostRow.holds Try.pinned (OpenSpec.ofChange guardHostWrong)

/-- 'tenterhooklaw12.GuardRegions': WHATEVER THE INPUT: true; the input reads as it did. -/
def guardRegionsSpec : ChangeSpec := { name := "guardRegions", fn := fun _ => fun
  | [d1, d2] => { results := [.lit (.bool true)], args := [d1, d2] }
  | _ => none }
def guardRegionsRow : OpenClaim := { program := "ytkehlaphiillpaa", sum := "784ce90274d07219c3c04268563a6a7a853f824c8f0cce5e820077607de393d0", func := "tenterhook/tenterhooklaw12.GuardRegions", spec := "guardRegions", apart := false }
def GuardRegionsSaid : Prop := guardRegionsRow.holds Try.pinned (OpenSpec.ofChange guardRegionsSpec)

/-- ITS FALSE NEIGHBOUR: 'it returns false'. Refute it at one input. -/
def guardRegionsWrong : ChangeSpec := { name := "guardRegions", fn := fun _ => fun
  | [d1, d2] => { results := [.lit (.bool false)], args := [d1, d2] }
  | _ => none }
def GuardRegionsWrongFalsely : Prop := guardRegionsRow.holds Try.pinned (OpenSpec.ofChange guardRegionsWrong)

/- THE SECOND FORM. 'bulk': how many values and letters a reading holds, each counted each time it is reached (what is shared counts as often as it is met; a slice's spare places count too). A statement '..UptoSaid' is the law's where the arguments, and the package variables that the reading takes, are together of bulk at most 1048576: NARROWER than '..Said'. Prove '..Said' where nothing that the law and all that it calls make is longer than what came in: it says more and counts as full. Else prove '..UptoSaid'. A law counts once. -/
mutual
def uptoBulk {H : Type} : DataW H → Nat
  | .lit (.string bytes) => bytes.length + 1
  | .lit _ => 1
  | .nil => 1
  | .ptr d => uptoBulk d + 1
  | .slice elems spare => uptoBulkAll elems + uptoBulkAll spare + 1
  | .agg parts => uptoBulkAll parts + 1
  | .iface _ d => uptoBulk d + 1
  | .map entries => uptoBulkEntries entries + 1
  | .held _ => 1
def uptoBulkAll {H : Type} : List (DataW H) → Nat
  | [] => 0
  | d :: r => uptoBulk d + uptoBulkAll r
def uptoBulkEntries {H : Type} : List (Lit × DataW H) → Nat
  | [] => 0
  | x :: r => uptoBulkEntry x + uptoBulkEntries r
def uptoBulkEntry {H : Type} : Lit × DataW H → Nat
  | (.string bytes, d) => bytes.length + uptoBulk d + 1
  | (_, d) => uptoBulk d + 1
 end
def uptoSmall : (H : Type) → List (DataW H) → Bool := fun _ ds => decide (uptoBulkAll ds ≤ 1048576)
def OpenSpec.upto (s : _root_.Go.ChangeSpec) : _root_.Go.OpenSpec := { _root_.Go.OpenSpec.ofChange s with cond := some uptoSmall }

/-- 'tenterhooklaw12.GuardIs', WHERE WHAT IT READS IS OF BULK AT MOST 1048576: true; the input reads as it did. -/
def guardIsUptoRow : OpenClaim := { program := "ytkehlaphiillpaa", sum := "784ce90274d07219c3c04268563a6a7a853f824c8f0cce5e820077607de393d0", func := "tenterhook/tenterhooklaw12.GuardIs", spec := "guardIs", apart := false, narrowed := true }
def GuardIsUptoSaid : Prop := guardIsUptoRow.holds Try.pinned (OpenSpec.upto guardIsSpec)

/-- 'tenterhooklaw12.GuardApart', WHERE WHAT IT READS IS OF BULK AT MOST 1048576: true; the input reads as it did. -/
def guardApartUptoRow : OpenClaim := { program := "ytkehlaphiillpaa", sum := "784ce90274d07219c3c04268563a6a7a853f824c8f0cce5e820077607de393d0", func := "tenterhook/tenterhooklaw12.GuardApart", spec := "guardApart", apart := false, narrowed := true }
def GuardApartUptoSaid : Prop := guardApartUptoRow.holds Try.pinned (OpenSpec.upto guardApartSpec)

/-- 'tenterhooklaw12.GuardParts', WHERE WHAT IT READS IS OF BULK AT MOST 1048576: true; the input reads as it did. -/
def guardPartsUptoRow : OpenClaim := { program := "ytkehlaphiillpaa", sum := "784ce90274d07219c3c04268563a6a7a853f824c8f0cce5e820077607de393d0", func := "tenterhook/tenterhooklaw12.GuardParts", spec := "guardParts", apart := false, narrowed := true }
def GuardPartsUptoSaid : Prop := guardPartsUptoRow.holds Try.pinned (OpenSpec.upto guardPartsSpec)

/-- 'tenterhooklaw12.GuardWrites', WHERE WHAT IT READS IS OF BULK AT MOST 1048576: true; the input reads as it did. -/
def guardWritesUptoRow : OpenClaim := { program := "ytkehlaphiillpaa", sum := "784ce90274d07219c3c04268563a6a7a853f824c8f0cce5e820077607de393d0", func := "tenterhook/tenterhooklaw12.GuardWrites", spec := "guardWrites", apart := false, narrowed := true }
def GuardWritesUptoSaid : Prop := guardWritesUptoRow.holds Try.pinned (OpenSpec.upto guardWritesSpec)

/-- 'tenterhooklaw12.GuardHost', WHERE WHAT IT READS IS OF BULK AT MOST 1048576: true; the input reads as it did. -/
def guardHostUptoRow : OpenClaim := { program := "ytkehlaphiillpaa", sum := "784ce90274d07219c3c04268563a6a7a853f824c8f0cce5e820077607de393d0", func := "tenterhook/tenterhooklaw12.GuardHost", spec := "guardHost", apart := false, narrowed := true }
def GuardHostUptoSaid : Prop := guardHostUptoRow.holds Try.pinned (OpenSpec.upto guardHostSpec)

/-- 'tenterhooklaw12.GuardRegions', WHERE WHAT IT READS IS OF BULK AT MOST 1048576: true; the input reads as it did. -/
def guardRegionsUptoRow : OpenClaim := { program := "ytkehlaphiillpaa", sum := "784ce90274d07219c3c04268563a6a7a853f824c8f0cce5e820077607de393d0", func := "tenterhook/tenterhooklaw12.GuardRegions", spec := "guardRegions", apart := false, narrowed := true }
def GuardRegionsUptoSaid : Prop := guardRegionsUptoRow.holds Try.pinned (OpenSpec.upto guardRegionsSpec)

end Rows
end Go.Proofs.Ytkehlaphiillpaa
