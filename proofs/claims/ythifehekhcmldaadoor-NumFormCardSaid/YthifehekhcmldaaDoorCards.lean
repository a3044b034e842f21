/-
  DERIVED. GIVEN WITH THE SEED: THE CARDS: each row of YthifehekhcmldaaDoorRows.lean that lists a variable, with what it lists TIED to the program's text (the seventh form; the later family's looks); each row that meets fmt, with fmt's text TOLD by the authors' own Lean function (tested against real Go, not proved from fmt's source: count such statements apart). THE CARD IS WHAT COUNTS. Prove the row's statement (the work); the ties are given (YthifehekhcmldaaDoorTie.lean); close each card by the builder's one call (the guide's Derived/Test/ToyasCard.lean, 'card_holds'). Laid BY PROGRAM, IN A SANDBOX (cutbox-door.mjs). By AI agents, Wed Nov 11 2026. No macro, syntax, notation, axiom, sorry.
-/
import Derived.Test.YthifehekhcmldaaDoorRows
import GoSem.ClaimSeven
namespace Go.Proofs.YthifehekhcmldaaDoor
namespace Rows

/-- THE TIED CARD OF 'tenterhooklaw05.NumBack'. -/
def numBackCard : Claim7 := { stood := { row := numBackRow, standIns := [], harness := (true, "db59860e8698a142753f963e3c15b31315c87debeaebacaf97bdee76232eb259"), looks := false }, kinds := [], alts := [], laidByText := true, laidKinds := [.data, .pinned], laidTests := true, laidLooks := .later }
def NumBackCardSaid : Prop := Claim7.holds Tryd.pinned (.plain (OpenSpec.ofChange numBackSpec)) numBackCard

/-- THE TIED CARD OF 'tenterhooklaw05.NumForm'. -/
def numFormCard : Claim7 := { stood := { row := numFormRow, standIns := [], harness := (true, "db59860e8698a142753f963e3c15b31315c87debeaebacaf97bdee76232eb259"), looks := false }, kinds := [], alts := [], laidByText := true, laidKinds := [.data, .pinned], laidTests := true, laidLooks := .later }
def NumFormCardSaid : Prop := Claim7.holds Tryd.pinned (.plain (OpenSpec.ofChange numFormSpec)) numFormCard

/-- THE TIED CARD OF 'tenterhooklaw05.NumSteps'. -/
def numStepsCard : Claim7 := { stood := { row := numStepsRow, standIns := [], harness := (true, "db59860e8698a142753f963e3c15b31315c87debeaebacaf97bdee76232eb259"), looks := false }, kinds := [], alts := [], laidByText := true, laidKinds := [.data, .pinned], laidTests := true, laidLooks := .later }
def NumStepsCardSaid : Prop := Claim7.holds Tryd.pinned (.plain (OpenSpec.ofChange numStepsSpec)) numStepsCard

/-- THE TIED CARD OF 'tenterhooklaw05.NumBad'. -/
def numBadCard : Claim7 := { stood := { row := numBadRow, standIns := [], harness := (true, "db59860e8698a142753f963e3c15b31315c87debeaebacaf97bdee76232eb259"), looks := false }, kinds := [], alts := [], laidByText := true, laidKinds := [.data, .pinned], laidTests := true, laidLooks := .later }
def NumBadCardSaid : Prop := Claim7.holds Tryd.pinned (.plain (OpenSpec.ofChange numBadSpec)) numBadCard

/-- THE TIED CARD OF 'tenterhooklaw05.NumDoubles'. -/
def numDoublesCard : Claim7 := { stood := { row := numDoublesRow, standIns := [], harness := (true, "db59860e8698a142753f963e3c15b31315c87debeaebacaf97bdee76232eb259"), looks := false }, kinds := [], alts := [], laidByText := true, laidKinds := [.data, .pinned], laidTests := true, laidLooks := .later }
def NumDoublesCardSaid : Prop := Claim7.holds Tryd.pinned (.plain (OpenSpec.ofChange numDoublesSpec)) numDoublesCard

/-- THE TIED CARD OF 'tenterhooklaw05.NumCase'. -/
def numCaseCard : Claim7 := { stood := { row := numCaseRow, standIns := [], harness := (true, "db59860e8698a142753f963e3c15b31315c87debeaebacaf97bdee76232eb259"), looks := false }, kinds := [], alts := [], laidByText := true, laidKinds := [.data, .pinned], laidTests := true, laidLooks := .later }
def NumCaseCardSaid : Prop := Claim7.holds Tryd.pinned (.plain (OpenSpec.ofChange numCaseSpec)) numCaseCard

/-- THE SECOND FORM's CARD OF 'tenterhooklaw05.NumBack'. -/
def numBackUptoCard : Claim7 := { stood := { row := numBackUptoRow, standIns := [], harness := (true, "db59860e8698a142753f963e3c15b31315c87debeaebacaf97bdee76232eb259"), looks := false }, kinds := [], alts := [], laidByText := true, laidKinds := [.data, .pinned], laidTests := true, laidLooks := .later }
def NumBackUptoCardSaid : Prop := Claim7.holds Tryd.pinned (.plain (OpenSpec.upto numBackSpec)) numBackUptoCard

/-- THE SECOND FORM's CARD OF 'tenterhooklaw05.NumForm'. -/
def numFormUptoCard : Claim7 := { stood := { row := numFormUptoRow, standIns := [], harness := (true, "db59860e8698a142753f963e3c15b31315c87debeaebacaf97bdee76232eb259"), looks := false }, kinds := [], alts := [], laidByText := true, laidKinds := [.data, .pinned], laidTests := true, laidLooks := .later }
def NumFormUptoCardSaid : Prop := Claim7.holds Tryd.pinned (.plain (OpenSpec.upto numFormSpec)) numFormUptoCard

/-- THE SECOND FORM's CARD OF 'tenterhooklaw05.NumSteps'. -/
def numStepsUptoCard : Claim7 := { stood := { row := numStepsUptoRow, standIns := [], harness := (true, "db59860e8698a142753f963e3c15b31315c87debeaebacaf97bdee76232eb259"), looks := false }, kinds := [], alts := [], laidByText := true, laidKinds := [.data, .pinned], laidTests := true, laidLooks := .later }
def NumStepsUptoCardSaid : Prop := Claim7.holds Tryd.pinned (.plain (OpenSpec.upto numStepsSpec)) numStepsUptoCard

/-- THE SECOND FORM's CARD OF 'tenterhooklaw05.NumBad'. -/
def numBadUptoCard : Claim7 := { stood := { row := numBadUptoRow, standIns := [], harness := (true, "db59860e8698a142753f963e3c15b31315c87debeaebacaf97bdee76232eb259"), looks := false }, kinds := [], alts := [], laidByText := true, laidKinds := [.data, .pinned], laidTests := true, laidLooks := .later }
def NumBadUptoCardSaid : Prop := Claim7.holds Tryd.pinned (.plain (OpenSpec.upto numBadSpec)) numBadUptoCard

/-- THE SECOND FORM's CARD OF 'tenterhooklaw05.NumDoubles'. -/
def numDoublesUptoCard : Claim7 := { stood := { row := numDoublesUptoRow, standIns := [], harness := (true, "db59860e8698a142753f963e3c15b31315c87debeaebacaf97bdee76232eb259"), looks := false }, kinds := [], alts := [], laidByText := true, laidKinds := [.data, .pinned], laidTests := true, laidLooks := .later }
def NumDoublesUptoCardSaid : Prop := Claim7.holds Tryd.pinned (.plain (OpenSpec.upto numDoublesSpec)) numDoublesUptoCard

/-- THE SECOND FORM's CARD OF 'tenterhooklaw05.NumCase'. -/
def numCaseUptoCard : Claim7 := { stood := { row := numCaseUptoRow, standIns := [], harness := (true, "db59860e8698a142753f963e3c15b31315c87debeaebacaf97bdee76232eb259"), looks := false }, kinds := [], alts := [], laidByText := true, laidKinds := [.data, .pinned], laidTests := true, laidLooks := .later }
def NumCaseUptoCardSaid : Prop := Claim7.holds Tryd.pinned (.plain (OpenSpec.upto numCaseSpec)) numCaseUptoCard
end Rows
end Go.Proofs.YthifehekhcmldaaDoor
