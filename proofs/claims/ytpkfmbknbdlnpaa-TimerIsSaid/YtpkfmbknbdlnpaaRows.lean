/-
  No cell of these rows narrows 'for every input' (looked for: loops, veiled, ifaces, maps, wideKeys, modest, calm, conditions, laid).
  DERIVED. THE GIVEN ROWS OF THIS SEAT. 4 by the template 'for every input the law returns true; each argument reads behind the call as it read before'; 0 by the template 'total and deterministic' (their statements: YtpkfmbknbdlnpaaTotals.lean).
  GIVEN WITH THE SEED: the statements are not yours to turn. If you find one false, say at which input.
  Laid BY PROGRAM, IN A SANDBOX (cutbox-rows.mjs): the forced cells as the released guide's own fill.sh prints them over the translation fdfd5abebaede02e… (all of the seat's roots in one cut). By AI agents, Wed Nov 11 2026. No macro, syntax, notation, axiom, sorry.
-/
import Derived.Test.YtpkfmbknbdlnpaaChecked
import GoSem.Claim
import GoSem.ClaimJoined
import GoSem.ClaimMapViews
import Derived.JoinedTies
import Derived.KernelRfl
namespace Go.Proofs.Ytpkfmbknbdlnpaa
/- THE CELL 'sum', in the pinned program and in every row, IS THE sha256 OF THE DUMP (.gsa) THAT YtpkfmbknbdlnpaaProg.lean LOADS. Nothing in Lean hashes anything: it is a label: what it is worth is what the hold of that sum in a sandbox is worth. -/
noncomputable def Try.pinned : Pinned := { name := "ytpkfmbknbdlnpaa", sum := "fdfd5abebaede02eb4390fe6a6208d0c006f732bc14c40c0b6d5f0cf228a0f1a", checked := Try.checked }
namespace Rows
def none {H : Type} : Left H := { results := [], args := [] }

/-- 'tenterhooklaw17.TimerIs': WHATEVER THE INPUT: true; the input reads as it did. -/
def timerIsSpec : ChangeSpec := { name := "timerIs", fn := fun _ => fun
  | [d1, d2, d3] => { results := [.lit (.bool true)], args := [d1, d2, d3] }
  | _ => none }
def timerIsRow : OpenClaim := { program := "ytpkfmbknbdlnpaa", sum := "fdfd5abebaede02eb4390fe6a6208d0c006f732bc14c40c0b6d5f0cf228a0f1a", func := "tenterhook/tenterhooklaw17.TimerIs", spec := "timerIs", unfollowed := true, recurses := true, apart := false }
def TimerIsSaid : Prop := timerIsRow.holds Try.pinned (OpenSpec.ofChange timerIsSpec)

/-- ITS FALSE NEIGHBOUR: 'it returns false'. Refute it at one input. -/
def timerIsWrong : ChangeSpec := { name := "timerIs", fn := fun _ => fun
  | [d1, d2, d3] => { results := [.lit (.bool false)], args := [d1, d2, d3] }
  | _ => none }
def TimerIsWrongFalsely : Prop := timerIsRow.holds Try.pinned (OpenSpec.ofChange timerIsWrong)

/-- 'tenterhooklaw17.TimerWakes': WHATEVER THE INPUT: true; the input reads as it did. -/
def timerWakesSpec : ChangeSpec := { name := "timerWakes", fn := fun _ => fun
  | [d1, d2] => { results := [.lit (.bool true)], args := [d1, d2] }
  | _ => none }
def timerWakesRow : OpenClaim := { program := "ytpkfmbknbdlnpaa", sum := "fdfd5abebaede02eb4390fe6a6208d0c006f732bc14c40c0b6d5f0cf228a0f1a", func := "tenterhook/tenterhooklaw17.TimerWakes", spec := "timerWakes", unfollowed := true, recurses := true, apart := false }
def TimerWakesSaid : Prop := timerWakesRow.holds Try.pinned (OpenSpec.ofChange timerWakesSpec)

/-- ITS FALSE NEIGHBOUR: 'it returns false'. Refute it at one input. -/
def timerWakesWrong : ChangeSpec := { name := "timerWakes", fn := fun _ => fun
  | [d1, d2] => { results := [.lit (.bool false)], args := [d1, d2] }
  | _ => none }
def TimerWakesWrongFalsely : Prop := timerWakesRow.holds Try.pinned (OpenSpec.ofChange timerWakesWrong)

/-- 'tenterhooklaw17.TimerOrder': WHATEVER THE INPUT: true; the input reads as it did. -/
def timerOrderSpec : ChangeSpec := { name := "timerOrder", fn := fun _ => fun
  | [d1, d2, d3] => { results := [.lit (.bool true)], args := [d1, d2, d3] }
  | _ => none }
def timerOrderRow : OpenClaim := { program := "ytpkfmbknbdlnpaa", sum := "fdfd5abebaede02eb4390fe6a6208d0c006f732bc14c40c0b6d5f0cf228a0f1a", func := "tenterhook/tenterhooklaw17.TimerOrder", spec := "timerOrder", unfollowed := true, recurses := true, apart := false }
def TimerOrderSaid : Prop := timerOrderRow.holds Try.pinned (OpenSpec.ofChange timerOrderSpec)

/-- ITS FALSE NEIGHBOUR: 'it returns false'. Refute it at one input. -/
def timerOrderWrong : ChangeSpec := { name := "timerOrder", fn := fun _ => fun
  | [d1, d2, d3] => { results := [.lit (.bool false)], args := [d1, d2, d3] }
  | _ => none }
def TimerOrderWrongFalsely : Prop := timerOrderRow.holds Try.pinned (OpenSpec.ofChange timerOrderWrong)

/-- 'tenterhooklaw17.TimerParts': WHATEVER THE INPUT: true; the input reads as it did. -/
def timerPartsSpec : ChangeSpec := { name := "timerParts", fn := fun _ => fun
  | [d1, d2, d3] => { results := [.lit (.bool true)], args := [d1, d2, d3] }
  | _ => none }
def timerPartsRow : OpenClaim := { program := "ytpkfmbknbdlnpaa", sum := "fdfd5abebaede02eb4390fe6a6208d0c006f732bc14c40c0b6d5f0cf228a0f1a", func := "tenterhook/tenterhooklaw17.TimerParts", spec := "timerParts", unfollowed := true, recurses := true, apart := false }
def TimerPartsSaid : Prop := timerPartsRow.holds Try.pinned (OpenSpec.ofChange timerPartsSpec)

/-- ITS FALSE NEIGHBOUR: 'it returns false'. Refute it at one input. -/
def timerPartsWrong : ChangeSpec := { name := "timerParts", fn := fun _ => fun
  | [d1, d2, d3] => { results := [.lit (.bool false)], args := [d1, d2, d3] }
  | _ => none }
def TimerPartsWrongFalsely : Prop := timerPartsRow.holds Try.pinned (OpenSpec.ofChange timerPartsWrong)

/- THE SECOND FORM. 'bulk': how many values and letters a reading holds, each counted each time it is reached (what is shared counts as often as it is met; a slice's spare places count too). A statement '..UptoSaid' is the law's where the arguments, and the package variables that the reading takes, are together of bulk at most 1048576: NARROWER than '..Said'. Prove '..Said' where nothing that the law and all that it calls make is longer than what came in: it says more and counts as full. Else prove '..UptoSaid'. A law counts once. -/
mutual
def uptoBulk {H : Type} : DataW H → Nat
  | .lit (.string bytes) => bytes.length + 1
  | .lit _ => 1
  | .nil => 1
  | .ptr d => uptoBulk d + 1
  | .slice elems spare => uptoBulkAll elems + uptoBulkAll spare + 1
  | .agg parts => uptoBulkAll parts + 1
  | .iface _ d => uptoBulk d + 1
  | .map entries => uptoBulkEntries entries + 1
  | .held _ => 1
def uptoBulkAll {H : Type} : List (DataW H) → Nat
  | [] => 0
  | d :: r => uptoBulk d + uptoBulkAll r
def uptoBulkEntries {H : Type} : List (Lit × DataW H) → Nat
  | [] => 0
  | x :: r => uptoBulkEntry x + uptoBulkEntries r
def uptoBulkEntry {H : Type} : Lit × DataW H → Nat
  | (.string bytes, d) => bytes.length + uptoBulk d + 1
  | (_, d) => uptoBulk d + 1
 end
def uptoSmall : (H : Type) → List (DataW H) → Bool := fun _ ds => decide (uptoBulkAll ds ≤ 1048576)
def OpenSpec.upto (s : _root_.Go.ChangeSpec) : _root_.Go.OpenSpec := { _root_.Go.OpenSpec.ofChange s with cond := some uptoSmall }

/-- 'tenterhooklaw17.TimerIs', WHERE WHAT IT READS IS OF BULK AT MOST 1048576: true; the input reads as it did. -/
def timerIsUptoRow : OpenClaim := { program := "ytpkfmbknbdlnpaa", sum := "fdfd5abebaede02eb4390fe6a6208d0c006f732bc14c40c0b6d5f0cf228a0f1a", func := "tenterhook/tenterhooklaw17.TimerIs", spec := "timerIs", unfollowed := true, recurses := true, apart := false, narrowed := true }
def TimerIsUptoSaid : Prop := timerIsUptoRow.holds Try.pinned (OpenSpec.upto timerIsSpec)

/-- 'tenterhooklaw17.TimerWakes', WHERE WHAT IT READS IS OF BULK AT MOST 1048576: true; the input reads as it did. -/
def timerWakesUptoRow : OpenClaim := { program := "ytpkfmbknbdlnpaa", sum := "fdfd5abebaede02eb4390fe6a6208d0c006f732bc14c40c0b6d5f0cf228a0f1a", func := "tenterhook/tenterhooklaw17.TimerWakes", spec := "timerWakes", unfollowed := true, recurses := true, apart := false, narrowed := true }
def TimerWakesUptoSaid : Prop := timerWakesUptoRow.holds Try.pinned (OpenSpec.upto timerWakesSpec)

/-- 'tenterhooklaw17.TimerOrder', WHERE WHAT IT READS IS OF BULK AT MOST 1048576: true; the input reads as it did. -/
def timerOrderUptoRow : OpenClaim := { program := "ytpkfmbknbdlnpaa", sum := "fdfd5abebaede02eb4390fe6a6208d0c006f732bc14c40c0b6d5f0cf228a0f1a", func := "tenterhook/tenterhooklaw17.TimerOrder", spec := "timerOrder", unfollowed := true, recurses := true, apart := false, narrowed := true }
def TimerOrderUptoSaid : Prop := timerOrderUptoRow.holds Try.pinned (OpenSpec.upto timerOrderSpec)

/-- 'tenterhooklaw17.TimerParts', WHERE WHAT IT READS IS OF BULK AT MOST 1048576: true; the input reads as it did. -/
def timerPartsUptoRow : OpenClaim := { program := "ytpkfmbknbdlnpaa", sum := "fdfd5abebaede02eb4390fe6a6208d0c006f732bc14c40c0b6d5f0cf228a0f1a", func := "tenterhook/tenterhooklaw17.TimerParts", spec := "timerParts", unfollowed := true, recurses := true, apart := false, narrowed := true }
def TimerPartsUptoSaid : Prop := timerPartsUptoRow.holds Try.pinned (OpenSpec.upto timerPartsSpec)

end Rows
end Go.Proofs.Ytpkfmbknbdlnpaa
