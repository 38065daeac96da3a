/-
  No cell of these rows narrows 'for every input' (looked for: loops, veiled, ifaces, maps, wideKeys, modest, calm, conditions, laid).
  DERIVED. THE GIVEN ROWS OF THIS SEAT. 3 by the template 'for every input the law returns true; each argument reads behind the call as it read before'; 0 by the template 'total and deterministic' (their statements: YtgaakpdmkgigaaaTotals.lean).
  GIVEN WITH THE SEED: the statements are not yours to turn. If you find one false, say at which input.
  Laid BY PROGRAM, IN A SANDBOX (cutbox-rows.mjs): the forced cells as the released guide's own fill.sh prints them over the translation 6e765b283e21c23a… (all of the seat's roots in one cut). By AI agents, Wed Nov 11 2026. No macro, syntax, notation, axiom, sorry.
-/
import Derived.Test.YtgaakpdmkgigaaaChecked
import GoSem.Claim
import GoSem.ClaimJoined
import GoSem.ClaimMapViews
import Derived.JoinedTies
import Derived.KernelRfl
namespace Go.Proofs.Ytgaakpdmkgigaaa
/- THE CELL 'sum', in the pinned program and in every row, IS THE sha256 OF THE DUMP (.gsa) THAT YtgaakpdmkgigaaaProg.lean LOADS. Nothing in Lean hashes anything: it is a label: what it is worth is what the hold of that sum in a sandbox is worth. -/
noncomputable def Try.pinned : Pinned := { name := "ytgaakpdmkgigaaa", sum := "6e765b283e21c23acb3dc0fbc0a64cd7f9f8b148e9e67244936b19181f33e8b1", checked := Try.checked }
namespace Rows
def none {H : Type} : Left H := { results := [], args := [] }

/-- 'belvederelaw09.BaseFours': WHATEVER THE INPUT: true; the input reads as it did. -/
def baseFoursSpec : ChangeSpec := { name := "baseFours", fn := fun _ => fun
  | [d1, d2, d3] => { results := [.lit (.bool true)], args := [d1, d2, d3] }
  | _ => none }
def baseFoursRow : OpenClaim := { program := "ytgaakpdmkgigaaa", sum := "6e765b283e21c23acb3dc0fbc0a64cd7f9f8b148e9e67244936b19181f33e8b1", func := "belvedere/belvederelaw09.BaseFours", spec := "baseFours", plainKeys := false, apart := false }
def BaseFoursSaid : Prop := baseFoursRow.holds Try.pinned (OpenSpec.ofChange baseFoursSpec)

/-- ITS FALSE NEIGHBOUR: 'it returns false'. Refute it at one input. -/
def baseFoursWrong : ChangeSpec := { name := "baseFours", fn := fun _ => fun
  | [d1, d2, d3] => { results := [.lit (.bool false)], args := [d1, d2, d3] }
  | _ => none }
def BaseFoursWrongFalsely : Prop := baseFoursRow.holds Try.pinned (OpenSpec.ofChange baseFoursWrong)

/-- 'belvederelaw09.BaseRule': WHATEVER THE INPUT: true; the input reads as it did. -/
def baseRuleSpec : ChangeSpec := { name := "baseRule", fn := fun _ => fun
  | [d1, d2] => { results := [.lit (.bool true)], args := [d1, d2] }
  | _ => none }
def baseRuleRow : OpenClaim := { program := "ytgaakpdmkgigaaa", sum := "6e765b283e21c23acb3dc0fbc0a64cd7f9f8b148e9e67244936b19181f33e8b1", func := "belvedere/belvederelaw09.BaseRule", spec := "baseRule", plainKeys := false, apart := false }
def BaseRuleSaid : Prop := baseRuleRow.holds Try.pinned (OpenSpec.ofChange baseRuleSpec)

/-- ITS FALSE NEIGHBOUR: 'it returns false'. Refute it at one input. -/
def baseRuleWrong : ChangeSpec := { name := "baseRule", fn := fun _ => fun
  | [d1, d2] => { results := [.lit (.bool false)], args := [d1, d2] }
  | _ => none }
def BaseRuleWrongFalsely : Prop := baseRuleRow.holds Try.pinned (OpenSpec.ofChange baseRuleWrong)

/-- 'belvederelaw09.BaseArgs': WHATEVER THE INPUT: true; the input reads as it did. -/
def baseArgsSpec : ChangeSpec := { name := "baseArgs", fn := fun _ => fun
  | [d1, d2] => { results := [.lit (.bool true)], args := [d1, d2] }
  | _ => none }
def baseArgsRow : OpenClaim := { program := "ytgaakpdmkgigaaa", sum := "6e765b283e21c23acb3dc0fbc0a64cd7f9f8b148e9e67244936b19181f33e8b1", func := "belvedere/belvederelaw09.BaseArgs", spec := "baseArgs", inPlace := ["internal/reflectlite.TypeOf"], unfollowed := true, recurses := true, plainKeys := false, apart := false }
def BaseArgsSaid : Prop := baseArgsRow.holds Try.pinned (OpenSpec.ofChange baseArgsSpec)

/-- ITS FALSE NEIGHBOUR: 'it returns false'. Refute it at one input. -/
def baseArgsWrong : ChangeSpec := { name := "baseArgs", fn := fun _ => fun
  | [d1, d2] => { results := [.lit (.bool false)], args := [d1, d2] }
  | _ => none }
def BaseArgsWrongFalsely : Prop := baseArgsRow.holds Try.pinned (OpenSpec.ofChange baseArgsWrong)

/- THE SECOND FORM. 'bulk': how many values and letters a reading holds, each counted each time it is reached (what is shared counts as often as it is met; a slice's spare places count too). A statement '..UptoSaid' is the law's where the arguments, and the package variables that the reading takes, are together of bulk at most 1048576: NARROWER than '..Said'. Prove '..Said' where nothing that the law and all that it calls make is longer than what came in: it says more and counts as full. Else prove '..UptoSaid'. A law counts once. -/
mutual
def uptoBulk {H : Type} : DataW H → Nat
  | .lit (.string bytes) => bytes.length + 1
  | .lit _ => 1
  | .nil => 1
  | .ptr d => uptoBulk d + 1
  | .slice elems spare => uptoBulkAll elems + uptoBulkAll spare + 1
  | .agg parts => uptoBulkAll parts + 1
  | .iface _ d => uptoBulk d + 1
  | .map entries => uptoBulkEntries entries + 1
  | .held _ => 1
def uptoBulkAll {H : Type} : List (DataW H) → Nat
  | [] => 0
  | d :: r => uptoBulk d + uptoBulkAll r
def uptoBulkEntries {H : Type} : List (Lit × DataW H) → Nat
  | [] => 0
  | x :: r => uptoBulkEntry x + uptoBulkEntries r
def uptoBulkEntry {H : Type} : Lit × DataW H → Nat
  | (.string bytes, d) => bytes.length + uptoBulk d + 1
  | (_, d) => uptoBulk d + 1
 end
def uptoSmall : (H : Type) → List (DataW H) → Bool := fun _ ds => decide (uptoBulkAll ds ≤ 1048576)
def OpenSpec.upto (s : _root_.Go.ChangeSpec) : _root_.Go.OpenSpec := { _root_.Go.OpenSpec.ofChange s with cond := some uptoSmall }

/-- 'belvederelaw09.BaseFours', WHERE WHAT IT READS IS OF BULK AT MOST 1048576: true; the input reads as it did. -/
def baseFoursUptoRow : OpenClaim := { program := "ytgaakpdmkgigaaa", sum := "6e765b283e21c23acb3dc0fbc0a64cd7f9f8b148e9e67244936b19181f33e8b1", func := "belvedere/belvederelaw09.BaseFours", spec := "baseFours", plainKeys := false, apart := false, narrowed := true }
def BaseFoursUptoSaid : Prop := baseFoursUptoRow.holds Try.pinned (OpenSpec.upto baseFoursSpec)

/-- 'belvederelaw09.BaseRule', WHERE WHAT IT READS IS OF BULK AT MOST 1048576: true; the input reads as it did. -/
def baseRuleUptoRow : OpenClaim := { program := "ytgaakpdmkgigaaa", sum := "6e765b283e21c23acb3dc0fbc0a64cd7f9f8b148e9e67244936b19181f33e8b1", func := "belvedere/belvederelaw09.BaseRule", spec := "baseRule", plainKeys := false, apart := false, narrowed := true }
def BaseRuleUptoSaid : Prop := baseRuleUptoRow.holds Try.pinned (OpenSpec.upto baseRuleSpec)

/-- 'belvederelaw09.BaseArgs', WHERE WHAT IT READS IS OF BULK AT MOST 1048576: true; the input reads as it did. -/
def baseArgsUptoRow : OpenClaim := { program := "ytgaakpdmkgigaaa", sum := "6e765b283e21c23acb3dc0fbc0a64cd7f9f8b148e9e67244936b19181f33e8b1", func := "belvedere/belvederelaw09.BaseArgs", spec := "baseArgs", inPlace := ["internal/reflectlite.TypeOf"], unfollowed := true, recurses := true, plainKeys := false, apart := false, narrowed := true }
def BaseArgsUptoSaid : Prop := baseArgsUptoRow.holds Try.pinned (OpenSpec.upto baseArgsSpec)

end Rows
end Go.Proofs.Ytgaakpdmkgigaaa
