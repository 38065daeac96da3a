/-
  DERIVED. GIVEN WITH THE SEED: THE CARDS: each row of YtlafbkehlglfoaaDoorRows.lean that lists a variable, with what it lists TIED to the program's text (the seventh form; the later family's looks); each row that meets fmt, with fmt's text TOLD by the authors' own Lean function (tested against real Go, not proved from fmt's source: count such statements apart). THE CARD IS WHAT COUNTS. Prove the row's statement (the work); the ties are given (YtlafbkehlglfoaaDoorTie.lean); close each card by the builder's one call (the guide's Derived/Test/ToyasCard.lean, 'card_holds'). Laid BY PROGRAM, IN A SANDBOX (cutbox-door.mjs). By AI agents, Wed Nov 11 2026. No macro, syntax, notation, axiom, sorry.
-/
import Derived.Test.YtlafbkehlglfoaaDoorRows
import GoSem.ClaimSeven
namespace Go.Proofs.YtlafbkehlglfoaaDoor
namespace Rows

/-- THE TIED CARD OF 'belvederelaw04.GridPoints'. -/
def gridPointsCard : Claim7 := { stood := { row := gridPointsRow, standIns := [], harness := (true, "589cf4a48f287ac49a0f4dacc14815e1d78c721ddad2db885a83072d34eb69ef"), looks := true }, kinds := [], alts := [], laidByText := true, laidKinds := [.data, .data], laidTests := true, laidLooks := .later }
def GridPointsCardSaid : Prop := Claim7.holds Tryd.pinned (.plain (OpenSpec.ofChange gridPointsSpec)) gridPointsCard

/-- THE TIED CARD OF 'belvederelaw04.GridRects'. -/
def gridRectsCard : Claim7 := { stood := { row := gridRectsRow, standIns := [], harness := (true, "589cf4a48f287ac49a0f4dacc14815e1d78c721ddad2db885a83072d34eb69ef"), looks := true }, kinds := [], alts := [], laidByText := true, laidKinds := [.data, .data], laidTests := true, laidLooks := .later }
def GridRectsCardSaid : Prop := Claim7.holds Tryd.pinned (.plain (OpenSpec.ofChange gridRectsSpec)) gridRectsCard

/-- THE TIED CARD OF 'belvederelaw04.GridAll'. -/
def gridAllCard : Claim7 := { stood := { row := gridAllRow, standIns := [], harness := (true, "589cf4a48f287ac49a0f4dacc14815e1d78c721ddad2db885a83072d34eb69ef"), looks := true }, kinds := [], alts := [], laidByText := true, laidKinds := [.data, .data], laidTests := true, laidLooks := .later }
def GridAllCardSaid : Prop := Claim7.holds Tryd.pinned (.plain (OpenSpec.ofChange gridAllSpec)) gridAllCard

/-- THE TIED CARD OF 'belvederelaw04.GridTiles'. -/
def gridTilesCard : Claim7 := { stood := { row := gridTilesRow, standIns := [], harness := (true, "589cf4a48f287ac49a0f4dacc14815e1d78c721ddad2db885a83072d34eb69ef"), looks := true }, kinds := [], alts := [], laidByText := true, laidKinds := [.data, .data], laidTests := true, laidLooks := .later }
def GridTilesCardSaid : Prop := Claim7.holds Tryd.pinned (.plain (OpenSpec.ofChange gridTilesSpec)) gridTilesCard

/-- THE SECOND FORM's CARD OF 'belvederelaw04.GridPoints'. -/
def gridPointsUptoCard : Claim7 := { stood := { row := gridPointsUptoRow, standIns := [], harness := (true, "589cf4a48f287ac49a0f4dacc14815e1d78c721ddad2db885a83072d34eb69ef"), looks := true }, kinds := [], alts := [], laidByText := true, laidKinds := [.data, .data], laidTests := true, laidLooks := .later }
def GridPointsUptoCardSaid : Prop := Claim7.holds Tryd.pinned (.plain (OpenSpec.upto gridPointsSpec)) gridPointsUptoCard

/-- THE SECOND FORM's CARD OF 'belvederelaw04.GridRects'. -/
def gridRectsUptoCard : Claim7 := { stood := { row := gridRectsUptoRow, standIns := [], harness := (true, "589cf4a48f287ac49a0f4dacc14815e1d78c721ddad2db885a83072d34eb69ef"), looks := true }, kinds := [], alts := [], laidByText := true, laidKinds := [.data, .data], laidTests := true, laidLooks := .later }
def GridRectsUptoCardSaid : Prop := Claim7.holds Tryd.pinned (.plain (OpenSpec.upto gridRectsSpec)) gridRectsUptoCard

/-- THE SECOND FORM's CARD OF 'belvederelaw04.GridAll'. -/
def gridAllUptoCard : Claim7 := { stood := { row := gridAllUptoRow, standIns := [], harness := (true, "589cf4a48f287ac49a0f4dacc14815e1d78c721ddad2db885a83072d34eb69ef"), looks := true }, kinds := [], alts := [], laidByText := true, laidKinds := [.data, .data], laidTests := true, laidLooks := .later }
def GridAllUptoCardSaid : Prop := Claim7.holds Tryd.pinned (.plain (OpenSpec.upto gridAllSpec)) gridAllUptoCard

/-- THE SECOND FORM's CARD OF 'belvederelaw04.GridTiles'. -/
def gridTilesUptoCard : Claim7 := { stood := { row := gridTilesUptoRow, standIns := [], harness := (true, "589cf4a48f287ac49a0f4dacc14815e1d78c721ddad2db885a83072d34eb69ef"), looks := true }, kinds := [], alts := [], laidByText := true, laidKinds := [.data, .data], laidTests := true, laidLooks := .later }
def GridTilesUptoCardSaid : Prop := Claim7.holds Tryd.pinned (.plain (OpenSpec.upto gridTilesSpec)) gridTilesUptoCard
end Rows
end Go.Proofs.YtlafbkehlglfoaaDoor
