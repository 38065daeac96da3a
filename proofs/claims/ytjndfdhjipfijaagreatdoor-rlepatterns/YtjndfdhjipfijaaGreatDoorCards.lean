/-
  DERIVED. GIVEN WITH THE SEED: THE CARDS: each row of YtjndfdhjipfijaaGreatDoorRows.lean that lists a variable, with what it lists TIED to the program's text (the seventh form; the later family's looks); each row that meets fmt, with fmt's text TOLD by the authors' own Lean function (tested against real Go, not proved from fmt's source: count such statements apart). THE CARD IS WHAT COUNTS. Prove the row's statement (the work); the ties are given (YtjndfdhjipfijaaGreatDoorTie.lean); close each card by the builder's one call (the guide's Derived/Test/ToyasCard.lean, 'card_holds'). Laid BY PROGRAM, IN A SANDBOX (cutbox-door.mjs). By AI agents, Wed Nov 11 2026. No macro, syntax, notation, axiom, sorry.
-/
import Derived.Test.YtjndfdhjipfijaaGreatDoorRows
import GoSem.ClaimSeven
namespace Go.Proofs.YtjndfdhjipfijaaGreatDoor
namespace Rows

/-- THE TIED CARD OF 'belvederelaw05.RlePatterns'. -/
def rlePatternsCard : Claim7 := { stood := { row := rlePatternsRow, standIns := [], harness := (true, "894aff31a06dd12546a3751531d2fc2a656118b2ee7ddefce962b85632837767"), looks := true }, kinds := [], alts := [], laidByText := true, laidKinds := [.data, .data, .data, .data, .sentinel, .sentinel, .pinned], laidTests := true, laidLooks := .later }
def RlePatternsCardSaid : Prop := Claim7.holds Tryz.pinned (.plain (OpenSpec.ofChange rlePatternsSpec)) rlePatternsCard

/-- THE SECOND FORM's CARD OF 'belvederelaw05.RlePatterns'. -/
def rlePatternsUptoCard : Claim7 := { stood := { row := rlePatternsUptoRow, standIns := [], harness := (true, "894aff31a06dd12546a3751531d2fc2a656118b2ee7ddefce962b85632837767"), looks := true }, kinds := [], alts := [], laidByText := true, laidKinds := [.data, .data, .data, .data, .sentinel, .sentinel, .pinned], laidTests := true, laidLooks := .later }
def RlePatternsUptoCardSaid : Prop := Claim7.holds Tryz.pinned (.plain (OpenSpec.upto rlePatternsSpec)) rlePatternsUptoCard
end Rows
end Go.Proofs.YtjndfdhjipfijaaGreatDoor
