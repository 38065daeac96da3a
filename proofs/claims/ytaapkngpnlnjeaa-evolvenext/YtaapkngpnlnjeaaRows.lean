/-
  No cell of these rows narrows 'for every input' (looked for: loops, veiled, ifaces, maps, wideKeys, modest, calm, conditions, laid).
  DERIVED. THE GIVEN ROWS OF THIS SEAT. 3 by the template 'for every input the law returns true; each argument reads behind the call as it read before'; 0 by the template 'total and deterministic' (their statements: YtaapkngpnlnjeaaTotals.lean).
  GIVEN WITH THE SEED: the statements are not yours to turn. If you find one false, say at which input.
  Laid BY PROGRAM, IN A SANDBOX (cutbox-rows.mjs): the forced cells as the released guide's own fill.sh prints them over the translation 3171ba9faa728da5… (all of the seat's roots in one cut). By AI agents, Wed Nov 11 2026. No macro, syntax, notation, axiom, sorry.
-/
import Derived.Test.YtaapkngpnlnjeaaChecked
import GoSem.Claim
import GoSem.ClaimJoined
import GoSem.ClaimMapViews
import Derived.JoinedTies
import Derived.KernelRfl
namespace Go.Proofs.Ytaapkngpnlnjeaa
/- THE CELL 'sum', in the pinned program and in every row, IS THE sha256 OF THE DUMP (.gsa) THAT YtaapkngpnlnjeaaProg.lean LOADS. Nothing in Lean hashes anything: it is a label: what it is worth is what the hold of that sum in a sandbox is worth. -/
noncomputable def Try.pinned : Pinned := { name := "ytaapkngpnlnjeaa", sum := "3171ba9faa728da520554172f70418020bb5c6e71337f9ad690c826503ea6f18", checked := Try.checked }
namespace Rows
def none {H : Type} : Left H := { results := [], args := [] }

/-- 'belvederelaw10.EvolveNext': WHATEVER THE INPUT: true; the input reads as it did. -/
def evolveNextSpec : ChangeSpec := { name := "evolveNext", fn := fun _ => fun
  | [d1, d2, d3] => { results := [.lit (.bool true)], args := [d1, d2, d3] }
  | _ => none }
def evolveNextRow : OpenClaim := { program := "ytaapkngpnlnjeaa", sum := "3171ba9faa728da520554172f70418020bb5c6e71337f9ad690c826503ea6f18", func := "belvedere/belvederelaw10.EvolveNext", spec := "evolveNext", unfollowed := true, recurses := true, plainKeys := false, apart := false }
def EvolveNextSaid : Prop := evolveNextRow.holds Try.pinned (OpenSpec.ofChange evolveNextSpec)

/-- ITS FALSE NEIGHBOUR: 'it returns false'. Refute it at one input. -/
def evolveNextWrong : ChangeSpec := { name := "evolveNext", fn := fun _ => fun
  | [d1, d2, d3] => { results := [.lit (.bool false)], args := [d1, d2, d3] }
  | _ => none }
def EvolveNextWrongFalsely : Prop := evolveNextRow.holds Try.pinned (OpenSpec.ofChange evolveNextWrong)

/-- 'belvederelaw10.EvolveTwice': WHATEVER THE INPUT: true; the input reads as it did. -/
def evolveTwiceSpec : ChangeSpec := { name := "evolveTwice", fn := fun _ => fun
  | [d] => { results := [.lit (.bool true)], args := [d] }
  | _ => none }
def evolveTwiceRow : OpenClaim := { program := "ytaapkngpnlnjeaa", sum := "3171ba9faa728da520554172f70418020bb5c6e71337f9ad690c826503ea6f18", func := "belvedere/belvederelaw10.EvolveTwice", spec := "evolveTwice", unfollowed := true, recurses := true, plainKeys := false, apart := false }
def EvolveTwiceSaid : Prop := evolveTwiceRow.holds Try.pinned (OpenSpec.ofChange evolveTwiceSpec)

/-- ITS FALSE NEIGHBOUR: 'it returns false'. Refute it at one input. -/
def evolveTwiceWrong : ChangeSpec := { name := "evolveTwice", fn := fun _ => fun
  | [d] => { results := [.lit (.bool false)], args := [d] }
  | _ => none }
def EvolveTwiceWrongFalsely : Prop := evolveTwiceRow.holds Try.pinned (OpenSpec.ofChange evolveTwiceWrong)

/-- 'belvederelaw10.EvolveChanged': WHATEVER THE INPUT: true; the input reads as it did. -/
def evolveChangedSpec : ChangeSpec := { name := "evolveChanged", fn := fun _ => fun
  | [d1, d2] => { results := [.lit (.bool true)], args := [d1, d2] }
  | _ => none }
def evolveChangedRow : OpenClaim := { program := "ytaapkngpnlnjeaa", sum := "3171ba9faa728da520554172f70418020bb5c6e71337f9ad690c826503ea6f18", func := "belvedere/belvederelaw10.EvolveChanged", spec := "evolveChanged", unfollowed := true, recurses := true, plainKeys := false, apart := false }
def EvolveChangedSaid : Prop := evolveChangedRow.holds Try.pinned (OpenSpec.ofChange evolveChangedSpec)

/-- ITS FALSE NEIGHBOUR: 'it returns false'. Refute it at one input. -/
def evolveChangedWrong : ChangeSpec := { name := "evolveChanged", fn := fun _ => fun
  | [d1, d2] => { results := [.lit (.bool false)], args := [d1, d2] }
  | _ => none }
def EvolveChangedWrongFalsely : Prop := evolveChangedRow.holds Try.pinned (OpenSpec.ofChange evolveChangedWrong)

/- THE SECOND FORM. 'bulk': how many values and letters a reading holds, each counted each time it is reached (what is shared counts as often as it is met; a slice's spare places count too). A statement '..UptoSaid' is the law's where the arguments, and the package variables that the reading takes, are together of bulk at most 1048576: NARROWER than '..Said'. Prove '..Said' where nothing that the law and all that it calls make is longer than what came in: it says more and counts as full. Else prove '..UptoSaid'. A law counts once. -/
mutual
def uptoBulk {H : Type} : DataW H → Nat
  | .lit (.string bytes) => bytes.length + 1
  | .lit _ => 1
  | .nil => 1
  | .ptr d => uptoBulk d + 1
  | .slice elems spare => uptoBulkAll elems + uptoBulkAll spare + 1
  | .agg parts => uptoBulkAll parts + 1
  | .iface _ d => uptoBulk d + 1
  | .map entries => uptoBulkEntries entries + 1
  | .held _ => 1
def uptoBulkAll {H : Type} : List (DataW H) → Nat
  | [] => 0
  | d :: r => uptoBulk d + uptoBulkAll r
def uptoBulkEntries {H : Type} : List (Lit × DataW H) → Nat
  | [] => 0
  | x :: r => uptoBulkEntry x + uptoBulkEntries r
def uptoBulkEntry {H : Type} : Lit × DataW H → Nat
  | (.string bytes, d) => bytes.length + uptoBulk d + 1
  | (_, d) => uptoBulk d + 1
 end
def uptoSmall : (H : Type) → List (DataW H) → Bool := fun _ ds => decide (uptoBulkAll ds ≤ 1048576)
def OpenSpec.upto (s : _root_.Go.ChangeSpec) : _root_.Go.OpenSpec := { _root_.Go.OpenSpec.ofChange s with cond := some uptoSmall }

/-- 'belvederelaw10.EvolveNext', WHERE WHAT IT READS IS OF BULK AT MOST 1048576: true; the input reads as it did. -/
def evolveNextUptoRow : OpenClaim := { program := "ytaapkngpnlnjeaa", sum := "3171ba9faa728da520554172f70418020bb5c6e71337f9ad690c826503ea6f18", func := "belvedere/belvederelaw10.EvolveNext", spec := "evolveNext", unfollowed := true, recurses := true, plainKeys := false, apart := false, narrowed := true }
def EvolveNextUptoSaid : Prop := evolveNextUptoRow.holds Try.pinned (OpenSpec.upto evolveNextSpec)

/-- 'belvederelaw10.EvolveTwice', WHERE WHAT IT READS IS OF BULK AT MOST 1048576: true; the input reads as it did. -/
def evolveTwiceUptoRow : OpenClaim := { program := "ytaapkngpnlnjeaa", sum := "3171ba9faa728da520554172f70418020bb5c6e71337f9ad690c826503ea6f18", func := "belvedere/belvederelaw10.EvolveTwice", spec := "evolveTwice", unfollowed := true, recurses := true, plainKeys := false, apart := false, narrowed := true }
def EvolveTwiceUptoSaid : Prop := evolveTwiceUptoRow.holds Try.pinned (OpenSpec.upto evolveTwiceSpec)

/-- 'belvederelaw10.EvolveChanged', WHERE WHAT IT READS IS OF BULK AT MOST 1048576: true; the input reads as it did. -/
def evolveChangedUptoRow : OpenClaim := { program := "ytaapkngpnlnjeaa", sum := "3171ba9faa728da520554172f70418020bb5c6e71337f9ad690c826503ea6f18", func := "belvedere/belvederelaw10.EvolveChanged", spec := "evolveChanged", unfollowed := true, recurses := true, plainKeys := false, apart := false, narrowed := true }
def EvolveChangedUptoSaid : Prop := evolveChangedUptoRow.holds Try.pinned (OpenSpec.upto evolveChangedSpec)

end Rows
end Go.Proofs.Ytaapkngpnlnjeaa
