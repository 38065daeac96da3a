/-
  DERIVED. GIVEN WITH THE SEED: THE CARDS: each row of YtjndfdhjipfijaaDoorRows.lean that lists a variable, with what it lists TIED to the program's text (the seventh form; the later family's looks); each row that meets fmt, with fmt's text TOLD by the authors' own Lean function (tested against real Go, not proved from fmt's source: count such statements apart). THE CARD IS WHAT COUNTS. Prove the row's statement (the work); the ties are given (YtjndfdhjipfijaaDoorTie.lean); close each card by the builder's one call (the guide's Derived/Test/ToyasCard.lean, 'card_holds'). Laid BY PROGRAM, IN A SANDBOX (cutbox-door.mjs). By AI agents, Wed Nov 11 2026. No macro, syntax, notation, axiom, sorry.
-/
import Derived.Test.YtjndfdhjipfijaaDoorRows
import GoSem.ClaimSeven
namespace Go.Proofs.YtjndfdhjipfijaaDoor
namespace Rows

/-- THE TIED CARD OF 'belvederelaw06.StoreActs'. -/
def storeActsCard : Claim7 := { stood := { row := storeActsRow, standIns := [], harness := (true, "fc52268da7e80610eb57019eed99a844a301a50eb131528f963f478d226da6d0"), looks := true }, kinds := [], alts := [], laidByText := true, laidKinds := [.handle], laidTests := true, laidLooks := .later }
def StoreActsCardSaid : Prop := Claim7.holds Tryd.pinned (.plain (OpenSpec.ofChange storeActsSpec)) storeActsCard

/-- THE SECOND FORM's CARD OF 'belvederelaw06.StoreActs'. -/
def storeActsUptoCard : Claim7 := { stood := { row := storeActsUptoRow, standIns := [], harness := (true, "fc52268da7e80610eb57019eed99a844a301a50eb131528f963f478d226da6d0"), looks := true }, kinds := [], alts := [], laidByText := true, laidKinds := [.handle], laidTests := true, laidLooks := .later }
def StoreActsUptoCardSaid : Prop := Claim7.holds Tryd.pinned (.plain (OpenSpec.upto storeActsSpec)) storeActsUptoCard
end Rows
end Go.Proofs.YtjndfdhjipfijaaDoor
