/-
  No cell of these rows narrows 'for every input' (looked for: loops, veiled, ifaces, maps, wideKeys, modest, calm, conditions, laid).
  DERIVED. THE GIVEN ROWS OF THIS SEAT. 3 by the template 'for every input the law returns true; each argument reads behind the call as it read before'; 0 by the template 'total and deterministic' (their statements: YtaapkngpnlnjeaaGreatTotals.lean).
  GIVEN WITH THE SEED: the statements are not yours to turn. If you find one false, say at which input.
  Laid BY PROGRAM, IN A SANDBOX (cutbox-rows.mjs): the forced cells as the released guide's own fill.sh prints them over the translation 77383016408c3b07… (all of the seat's roots in one cut). By AI agents, Wed Nov 11 2026. No macro, syntax, notation, axiom, sorry.
-/
import Derived.Test.YtaapkngpnlnjeaaGreatChecked
import GoSem.Claim
import GoSem.ClaimJoined
import GoSem.ClaimMapViews
import Derived.JoinedTies
import Derived.KernelRfl
namespace Go.Proofs.YtaapkngpnlnjeaaGreat
/- THE CELL 'sum', in the pinned program and in every row, IS THE sha256 OF THE DUMP (.gsa) THAT YtaapkngpnlnjeaaGreatProg.lean LOADS. Nothing in Lean hashes anything: it is a label: what it is worth is what the hold of that sum in a sandbox is worth. -/
noncomputable def Tryz.pinned : Pinned := { name := "ytaapkngpnlnjeaagreat", sum := "77383016408c3b07af47a9d0eca2e9307b49a4963e9614413cf9adf5ae0e51e5", checked := Tryz.checked }
namespace Rows
def none {H : Type} : Left H := { results := [], args := [] }

/-- 'belvederelaw08.AreaActs': WHATEVER THE INPUT: true; the input reads as it did. -/
def areaActsSpec : ChangeSpec := { name := "areaActs", fn := fun _ => fun
  | [d] => { results := [.lit (.bool true)], args := [d] }
  | _ => none }
def areaActsRow : OpenClaim := { program := "ytaapkngpnlnjeaagreat", sum := "77383016408c3b07af47a9d0eca2e9307b49a4963e9614413cf9adf5ae0e51e5", func := "belvedere/belvederelaw08.AreaActs", spec := "areaActs", inPlace := ["internal/reflectlite.TypeOf"], unfollowed := true, recurses := true, plainKeys := false, apart := false }
def AreaActsSaid : Prop := areaActsRow.holds Tryz.pinned (OpenSpec.ofChange areaActsSpec)

/-- ITS FALSE NEIGHBOUR: 'it returns false'. Refute it at one input. -/
def areaActsWrong : ChangeSpec := { name := "areaActs", fn := fun _ => fun
  | [d] => { results := [.lit (.bool false)], args := [d] }
  | _ => none }
def AreaActsWrongFalsely : Prop := areaActsRow.holds Tryz.pinned (OpenSpec.ofChange areaActsWrong)

/-- 'belvederelaw08.AreaCells': WHATEVER THE INPUT: true; the input reads as it did. -/
def areaCellsSpec : ChangeSpec := { name := "areaCells", fn := fun _ => fun
  | [d1, d2, d3] => { results := [.lit (.bool true)], args := [d1, d2, d3] }
  | _ => none }
def areaCellsRow : OpenClaim := { program := "ytaapkngpnlnjeaagreat", sum := "77383016408c3b07af47a9d0eca2e9307b49a4963e9614413cf9adf5ae0e51e5", func := "belvedere/belvederelaw08.AreaCells", spec := "areaCells", inPlace := ["internal/reflectlite.TypeOf"], unfollowed := true, recurses := true, plainKeys := false, apart := false }
def AreaCellsSaid : Prop := areaCellsRow.holds Tryz.pinned (OpenSpec.ofChange areaCellsSpec)

/-- ITS FALSE NEIGHBOUR: 'it returns false'. Refute it at one input. -/
def areaCellsWrong : ChangeSpec := { name := "areaCells", fn := fun _ => fun
  | [d1, d2, d3] => { results := [.lit (.bool false)], args := [d1, d2, d3] }
  | _ => none }
def AreaCellsWrongFalsely : Prop := areaCellsRow.holds Tryz.pinned (OpenSpec.ofChange areaCellsWrong)

/-- 'belvederelaw10.EvolveArgs': WHATEVER THE INPUT: true; the input reads as it did. -/
def evolveArgsSpec : ChangeSpec := { name := "evolveArgs", fn := fun _ => fun
  | [d1, d2, d3] => { results := [.lit (.bool true)], args := [d1, d2, d3] }
  | _ => none }
def evolveArgsRow : OpenClaim := { program := "ytaapkngpnlnjeaagreat", sum := "77383016408c3b07af47a9d0eca2e9307b49a4963e9614413cf9adf5ae0e51e5", func := "belvedere/belvederelaw10.EvolveArgs", spec := "evolveArgs", inPlace := ["internal/reflectlite.TypeOf"], unfollowed := true, recurses := true, plainKeys := false, apart := false }
def EvolveArgsSaid : Prop := evolveArgsRow.holds Tryz.pinned (OpenSpec.ofChange evolveArgsSpec)

/-- ITS FALSE NEIGHBOUR: 'it returns false'. Refute it at one input. -/
def evolveArgsWrong : ChangeSpec := { name := "evolveArgs", fn := fun _ => fun
  | [d1, d2, d3] => { results := [.lit (.bool false)], args := [d1, d2, d3] }
  | _ => none }
def EvolveArgsWrongFalsely : Prop := evolveArgsRow.holds Tryz.pinned (OpenSpec.ofChange evolveArgsWrong)

/- THE SECOND FORM. 'bulk': how many values and letters a reading holds, each counted each time it is reached (what is shared counts as often as it is met; a slice's spare places count too). A statement '..UptoSaid' is the law's where the arguments, and the package variables that the reading takes, are together of bulk at most 1048576: NARROWER than '..Said'. Prove '..Said' where nothing that the law and all that it calls make is longer than what came in: it says more and counts as full. Else prove '..UptoSaid'. A law counts once. -/
mutual
def uptoBulk {H : Type} : DataW H → Nat
  | .lit (.string bytes) => bytes.length + 1
  | .lit _ => 1
  | .nil => 1
  | .ptr d => uptoBulk d + 1
  | .slice elems spare => uptoBulkAll elems + uptoBulkAll spare + 1
  | .agg parts => uptoBulkAll parts + 1
  | .iface _ d => uptoBulk d + 1
  | .map entries => uptoBulkEntries entries + 1
  | .held _ => 1
def uptoBulkAll {H : Type} : List (DataW H) → Nat
  | [] => 0
  | d :: r => uptoBulk d + uptoBulkAll r
def uptoBulkEntries {H : Type} : List (Lit × DataW H) → Nat
  | [] => 0
  | x :: r => uptoBulkEntry x + uptoBulkEntries r
def uptoBulkEntry {H : Type} : Lit × DataW H → Nat
  | (.string bytes, d) => bytes.length + uptoBulk d + 1
  | (_, d) => uptoBulk d + 1
 end
def uptoSmall : (H : Type) → List (DataW H) → Bool := fun _ ds => decide (uptoBulkAll ds ≤ 1048576)
def OpenSpec.upto (s : _root_.Go.ChangeSpec) : _root_.Go.OpenSpec := { _root_.Go.OpenSpec.ofChange s with cond := some uptoSmall }

/-- 'belvederelaw08.AreaActs', WHERE WHAT IT READS IS OF BULK AT MOST 1048576: true; the input reads as it did. -/
def areaActsUptoRow : OpenClaim := { program := "ytaapkngpnlnjeaagreat", sum := "77383016408c3b07af47a9d0eca2e9307b49a4963e9614413cf9adf5ae0e51e5", func := "belvedere/belvederelaw08.AreaActs", spec := "areaActs", inPlace := ["internal/reflectlite.TypeOf"], unfollowed := true, recurses := true, plainKeys := false, apart := false, narrowed := true }
def AreaActsUptoSaid : Prop := areaActsUptoRow.holds Tryz.pinned (OpenSpec.upto areaActsSpec)

/-- 'belvederelaw08.AreaCells', WHERE WHAT IT READS IS OF BULK AT MOST 1048576: true; the input reads as it did. -/
def areaCellsUptoRow : OpenClaim := { program := "ytaapkngpnlnjeaagreat", sum := "77383016408c3b07af47a9d0eca2e9307b49a4963e9614413cf9adf5ae0e51e5", func := "belvedere/belvederelaw08.AreaCells", spec := "areaCells", inPlace := ["internal/reflectlite.TypeOf"], unfollowed := true, recurses := true, plainKeys := false, apart := false, narrowed := true }
def AreaCellsUptoSaid : Prop := areaCellsUptoRow.holds Tryz.pinned (OpenSpec.upto areaCellsSpec)

/-- 'belvederelaw10.EvolveArgs', WHERE WHAT IT READS IS OF BULK AT MOST 1048576: true; the input reads as it did. -/
def evolveArgsUptoRow : OpenClaim := { program := "ytaapkngpnlnjeaagreat", sum := "77383016408c3b07af47a9d0eca2e9307b49a4963e9614413cf9adf5ae0e51e5", func := "belvedere/belvederelaw10.EvolveArgs", spec := "evolveArgs", inPlace := ["internal/reflectlite.TypeOf"], unfollowed := true, recurses := true, plainKeys := false, apart := false, narrowed := true }
def EvolveArgsUptoSaid : Prop := evolveArgsUptoRow.holds Tryz.pinned (OpenSpec.upto evolveArgsSpec)

end Rows
end Go.Proofs.YtaapkngpnlnjeaaGreat
