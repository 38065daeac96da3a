/-
  DERIVED. GIVEN WITH THE SEED: THE CARDS: each row of YtaapkngpnlnjeaaGreatDoorRows.lean that lists a variable, with what it lists TIED to the program's text (the seventh form; the later family's looks); each row that meets fmt, with fmt's text TOLD by the authors' own Lean function (tested against real Go, not proved from fmt's source: count such statements apart). THE CARD IS WHAT COUNTS. Prove the row's statement (the work); the ties are given (YtaapkngpnlnjeaaGreatDoorTie.lean); close each card by the builder's one call (the guide's Derived/Test/ToyasCard.lean, 'card_holds'). Laid BY PROGRAM, IN A SANDBOX (cutbox-door.mjs). By AI agents, Wed Nov 11 2026. No macro, syntax, notation, axiom, sorry.
-/
import Derived.Test.YtaapkngpnlnjeaaGreatDoorRows
import GoSem.ClaimSeven
namespace Go.Proofs.YtaapkngpnlnjeaaGreatDoor
namespace Rows

/-- THE TIED CARD OF 'belvederelaw11.ClockSteps'. -/
def clockStepsCard : Claim7 := { stood := { row := clockStepsRow, standIns := [], harness := (true, "c1f12c991b1e478a323e4fea5ab79e78e1cb3016d44396936d6e527cf6d0ab22"), looks := true }, kinds := [], alts := [], laidByText := true, laidKinds := [.data], laidTests := true, laidLooks := .later }
def ClockStepsCardSaid : Prop := Claim7.holds Tryz.pinned (.plain (OpenSpec.ofChange clockStepsSpec)) clockStepsCard

/-- THE TIED CARD OF 'belvederelaw11.ClockArgs'. -/
def clockArgsCard : Claim7 := { stood := { row := clockArgsRow, standIns := [], harness := (true, "c1f12c991b1e478a323e4fea5ab79e78e1cb3016d44396936d6e527cf6d0ab22"), looks := true }, kinds := [], alts := [], laidByText := true, laidKinds := [.data], laidTests := true, laidLooks := .later }
def ClockArgsCardSaid : Prop := Claim7.holds Tryz.pinned (.plain (OpenSpec.ofChange clockArgsSpec)) clockArgsCard

/-- THE TIED CARD OF 'belvederelaw11.ClockRoom'. -/
def clockRoomCard : Claim7 := { stood := { row := clockRoomRow, standIns := [], harness := (true, "c1f12c991b1e478a323e4fea5ab79e78e1cb3016d44396936d6e527cf6d0ab22"), looks := true }, kinds := [], alts := [], laidByText := true, laidKinds := [.data], laidTests := true, laidLooks := .later }
def ClockRoomCardSaid : Prop := Claim7.holds Tryz.pinned (.plain (OpenSpec.ofChange clockRoomSpec)) clockRoomCard

/-- THE SECOND FORM's CARD OF 'belvederelaw11.ClockSteps'. -/
def clockStepsUptoCard : Claim7 := { stood := { row := clockStepsUptoRow, standIns := [], harness := (true, "c1f12c991b1e478a323e4fea5ab79e78e1cb3016d44396936d6e527cf6d0ab22"), looks := true }, kinds := [], alts := [], laidByText := true, laidKinds := [.data], laidTests := true, laidLooks := .later }
def ClockStepsUptoCardSaid : Prop := Claim7.holds Tryz.pinned (.plain (OpenSpec.upto clockStepsSpec)) clockStepsUptoCard

/-- THE SECOND FORM's CARD OF 'belvederelaw11.ClockArgs'. -/
def clockArgsUptoCard : Claim7 := { stood := { row := clockArgsUptoRow, standIns := [], harness := (true, "c1f12c991b1e478a323e4fea5ab79e78e1cb3016d44396936d6e527cf6d0ab22"), looks := true }, kinds := [], alts := [], laidByText := true, laidKinds := [.data], laidTests := true, laidLooks := .later }
def ClockArgsUptoCardSaid : Prop := Claim7.holds Tryz.pinned (.plain (OpenSpec.upto clockArgsSpec)) clockArgsUptoCard

/-- THE SECOND FORM's CARD OF 'belvederelaw11.ClockRoom'. -/
def clockRoomUptoCard : Claim7 := { stood := { row := clockRoomUptoRow, standIns := [], harness := (true, "c1f12c991b1e478a323e4fea5ab79e78e1cb3016d44396936d6e527cf6d0ab22"), looks := true }, kinds := [], alts := [], laidByText := true, laidKinds := [.data], laidTests := true, laidLooks := .later }
def ClockRoomUptoCardSaid : Prop := Claim7.holds Tryz.pinned (.plain (OpenSpec.upto clockRoomSpec)) clockRoomUptoCard
end Rows
end Go.Proofs.YtaapkngpnlnjeaaGreatDoor
