/-
  DERIVED. GIVEN WITH THE SEED: THE CARDS: each row of YtpkjepbeeebdoaaDoorRows.lean that lists a variable, with what it lists TIED to the program's text (the seventh form; the later family's looks); each row that meets fmt, with fmt's text TOLD by the authors' own Lean function (tested against real Go, not proved from fmt's source: count such statements apart). THE CARD IS WHAT COUNTS. Prove the row's statement (the work); the ties are given (YtpkjepbeeebdoaaDoorTie.lean); close each card by the builder's one call (the guide's Derived/Test/ToyasCard.lean, 'card_holds'). Laid BY PROGRAM, IN A SANDBOX (cutbox-door.mjs). By AI agents, Wed Nov 11 2026. No macro, syntax, notation, axiom, sorry.
-/
import Derived.Test.YtpkjepbeeebdoaaDoorRows
import GoSem.ClaimSeven
namespace Go.Proofs.YtpkjepbeeebdoaaDoor
namespace Rows

/-- THE TIED CARD OF 'tenterhooklaw21.HistOrder'. -/
def histOrderCard : Claim7 := { stood := { row := histOrderRow, standIns := [], harness := (true, "c021a067e929c21e2ae6617959b1aadf33e3fa66288f439bb525e0a5afd1b1be"), looks := false }, kinds := [], alts := [], laidByText := true, laidKinds := [.data], laidTests := true, laidLooks := .later }
def HistOrderCardSaid : Prop := Claim7.holds Tryd.pinned (.plain (OpenSpec.ofChange histOrderSpec)) histOrderCard

/-- THE TIED CARD OF 'tenterhooklaw21.HistApart'. -/
def histApartCard : Claim7 := { stood := { row := histApartRow, standIns := [], harness := (true, "c021a067e929c21e2ae6617959b1aadf33e3fa66288f439bb525e0a5afd1b1be"), looks := false }, kinds := [], alts := [], laidByText := true, laidKinds := [.data], laidTests := true, laidLooks := .later }
def HistApartCardSaid : Prop := Claim7.holds Tryd.pinned (.plain (OpenSpec.ofChange histApartSpec)) histApartCard

/-- THE SECOND FORM's CARD OF 'tenterhooklaw21.HistOrder'. -/
def histOrderUptoCard : Claim7 := { stood := { row := histOrderUptoRow, standIns := [], harness := (true, "c021a067e929c21e2ae6617959b1aadf33e3fa66288f439bb525e0a5afd1b1be"), looks := false }, kinds := [], alts := [], laidByText := true, laidKinds := [.data], laidTests := true, laidLooks := .later }
def HistOrderUptoCardSaid : Prop := Claim7.holds Tryd.pinned (.plain (OpenSpec.upto histOrderSpec)) histOrderUptoCard

/-- THE SECOND FORM's CARD OF 'tenterhooklaw21.HistApart'. -/
def histApartUptoCard : Claim7 := { stood := { row := histApartUptoRow, standIns := [], harness := (true, "c021a067e929c21e2ae6617959b1aadf33e3fa66288f439bb525e0a5afd1b1be"), looks := false }, kinds := [], alts := [], laidByText := true, laidKinds := [.data], laidTests := true, laidLooks := .later }
def HistApartUptoCardSaid : Prop := Claim7.holds Tryd.pinned (.plain (OpenSpec.upto histApartSpec)) histApartUptoCard
end Rows
end Go.Proofs.YtpkjepbeeebdoaaDoor
