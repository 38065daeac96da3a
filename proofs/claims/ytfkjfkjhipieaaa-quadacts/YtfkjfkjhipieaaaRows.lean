/-
  No cell of these rows narrows 'for every input' (looked for: loops, veiled, ifaces, maps, wideKeys, modest, calm, conditions, laid).
  DERIVED. THE GIVEN ROWS OF THIS SEAT. 4 by the template 'for every input the law returns true; each argument reads behind the call as it read before'; 0 by the template 'total and deterministic' (their statements: YtfkjfkjhipieaaaTotals.lean).
  GIVEN WITH THE SEED: the statements are not yours to turn. If you find one false, say at which input.
  Laid BY PROGRAM, IN A SANDBOX (cutbox-rows.mjs): the forced cells as the released guide's own fill.sh prints them over the translation b161c93a495f2c91… (all of the seat's roots in one cut). By AI agents, Wed Nov 11 2026. No macro, syntax, notation, axiom, sorry.
-/
import Derived.Test.YtfkjfkjhipieaaaChecked
import GoSem.Claim
import GoSem.ClaimJoined
import GoSem.ClaimMapViews
import Derived.JoinedTies
import Derived.KernelRfl
namespace Go.Proofs.Ytfkjfkjhipieaaa
/- THE CELL 'sum', in the pinned program and in every row, IS THE sha256 OF THE DUMP (.gsa) THAT YtfkjfkjhipieaaaProg.lean LOADS. Nothing in Lean hashes anything: it is a label: what it is worth is what the hold of that sum in a sandbox is worth. -/
noncomputable def Try.pinned : Pinned := { name := "ytfkjfkjhipieaaa", sum := "b161c93a495f2c919d521151fce4192b49837e72c7a23413de8c63ee1edfd489", checked := Try.checked }
namespace Rows
def none {H : Type} : Left H := { results := [], args := [] }

/-- 'belvederelaw07.QuadActs': WHATEVER THE INPUT: true; the input reads as it did. -/
def quadActsSpec : ChangeSpec := { name := "quadActs", fn := fun _ => fun
  | [d] => { results := [.lit (.bool true)], args := [d] }
  | _ => none }
def quadActsRow : OpenClaim := { program := "ytfkjfkjhipieaaa", sum := "b161c93a495f2c919d521151fce4192b49837e72c7a23413de8c63ee1edfd489", func := "belvedere/belvederelaw07.QuadActs", spec := "quadActs", inPlace := ["internal/reflectlite.TypeOf"], unfollowed := true, recurses := true, plainKeys := false, apart := false }
def QuadActsSaid : Prop := quadActsRow.holds Try.pinned (OpenSpec.ofChange quadActsSpec)

/-- ITS FALSE NEIGHBOUR: 'it returns false'. Refute it at one input. -/
def quadActsWrong : ChangeSpec := { name := "quadActs", fn := fun _ => fun
  | [d] => { results := [.lit (.bool false)], args := [d] }
  | _ => none }
def QuadActsWrongFalsely : Prop := quadActsRow.holds Try.pinned (OpenSpec.ofChange quadActsWrong)

/-- 'belvederelaw07.QuadCentre': WHATEVER THE INPUT: true; the input reads as it did. -/
def quadCentreSpec : ChangeSpec := { name := "quadCentre", fn := fun _ => fun
  | [d] => { results := [.lit (.bool true)], args := [d] }
  | _ => none }
def quadCentreRow : OpenClaim := { program := "ytfkjfkjhipieaaa", sum := "b161c93a495f2c919d521151fce4192b49837e72c7a23413de8c63ee1edfd489", func := "belvedere/belvederelaw07.QuadCentre", spec := "quadCentre", recurses := true, plainKeys := false, apart := false }
def QuadCentreSaid : Prop := quadCentreRow.holds Try.pinned (OpenSpec.ofChange quadCentreSpec)

/-- ITS FALSE NEIGHBOUR: 'it returns false'. Refute it at one input. -/
def quadCentreWrong : ChangeSpec := { name := "quadCentre", fn := fun _ => fun
  | [d] => { results := [.lit (.bool false)], args := [d] }
  | _ => none }
def QuadCentreWrongFalsely : Prop := quadCentreRow.holds Try.pinned (OpenSpec.ofChange quadCentreWrong)

/-- 'belvederelaw07.QuadRoom': WHATEVER THE INPUT: true; the input reads as it did. -/
def quadRoomSpec : ChangeSpec := { name := "quadRoom", fn := fun _ => fun
  | [d1, d2] => { results := [.lit (.bool true)], args := [d1, d2] }
  | _ => none }
def quadRoomRow : OpenClaim := { program := "ytfkjfkjhipieaaa", sum := "b161c93a495f2c919d521151fce4192b49837e72c7a23413de8c63ee1edfd489", func := "belvedere/belvederelaw07.QuadRoom", spec := "quadRoom", inPlace := ["internal/reflectlite.TypeOf"], unfollowed := true, recurses := true, plainKeys := false, apart := false }
def QuadRoomSaid : Prop := quadRoomRow.holds Try.pinned (OpenSpec.ofChange quadRoomSpec)

/-- ITS FALSE NEIGHBOUR: 'it returns false'. Refute it at one input. -/
def quadRoomWrong : ChangeSpec := { name := "quadRoom", fn := fun _ => fun
  | [d1, d2] => { results := [.lit (.bool false)], args := [d1, d2] }
  | _ => none }
def QuadRoomWrongFalsely : Prop := quadRoomRow.holds Try.pinned (OpenSpec.ofChange quadRoomWrong)

/-- 'belvederelaw07.QuadNone': WHATEVER THE INPUT: true; the input reads as it did. -/
def quadNoneSpec : ChangeSpec := { name := "quadNone", fn := fun _ => fun
  | [d] => { results := [.lit (.bool true)], args := [d] }
  | _ => none }
def quadNoneRow : OpenClaim := { program := "ytfkjfkjhipieaaa", sum := "b161c93a495f2c919d521151fce4192b49837e72c7a23413de8c63ee1edfd489", func := "belvedere/belvederelaw07.QuadNone", spec := "quadNone", inPlace := ["internal/reflectlite.TypeOf"], unfollowed := true, recurses := true, plainKeys := false, apart := false }
def QuadNoneSaid : Prop := quadNoneRow.holds Try.pinned (OpenSpec.ofChange quadNoneSpec)

/-- ITS FALSE NEIGHBOUR: 'it returns false'. Refute it at one input. -/
def quadNoneWrong : ChangeSpec := { name := "quadNone", fn := fun _ => fun
  | [d] => { results := [.lit (.bool false)], args := [d] }
  | _ => none }
def QuadNoneWrongFalsely : Prop := quadNoneRow.holds Try.pinned (OpenSpec.ofChange quadNoneWrong)

/- THE SECOND FORM. 'bulk': how many values and letters a reading holds, each counted each time it is reached (what is shared counts as often as it is met; a slice's spare places count too). A statement '..UptoSaid' is the law's where the arguments, and the package variables that the reading takes, are together of bulk at most 1048576: NARROWER than '..Said'. Prove '..Said' where nothing that the law and all that it calls make is longer than what came in: it says more and counts as full. Else prove '..UptoSaid'. A law counts once. -/
mutual
def uptoBulk {H : Type} : DataW H → Nat
  | .lit (.string bytes) => bytes.length + 1
  | .lit _ => 1
  | .nil => 1
  | .ptr d => uptoBulk d + 1
  | .slice elems spare => uptoBulkAll elems + uptoBulkAll spare + 1
  | .agg parts => uptoBulkAll parts + 1
  | .iface _ d => uptoBulk d + 1
  | .map entries => uptoBulkEntries entries + 1
  | .held _ => 1
def uptoBulkAll {H : Type} : List (DataW H) → Nat
  | [] => 0
  | d :: r => uptoBulk d + uptoBulkAll r
def uptoBulkEntries {H : Type} : List (Lit × DataW H) → Nat
  | [] => 0
  | x :: r => uptoBulkEntry x + uptoBulkEntries r
def uptoBulkEntry {H : Type} : Lit × DataW H → Nat
  | (.string bytes, d) => bytes.length + uptoBulk d + 1
  | (_, d) => uptoBulk d + 1
 end
def uptoSmall : (H : Type) → List (DataW H) → Bool := fun _ ds => decide (uptoBulkAll ds ≤ 1048576)
def OpenSpec.upto (s : _root_.Go.ChangeSpec) : _root_.Go.OpenSpec := { _root_.Go.OpenSpec.ofChange s with cond := some uptoSmall }

/-- 'belvederelaw07.QuadActs', WHERE WHAT IT READS IS OF BULK AT MOST 1048576: true; the input reads as it did. -/
def quadActsUptoRow : OpenClaim := { program := "ytfkjfkjhipieaaa", sum := "b161c93a495f2c919d521151fce4192b49837e72c7a23413de8c63ee1edfd489", func := "belvedere/belvederelaw07.QuadActs", spec := "quadActs", inPlace := ["internal/reflectlite.TypeOf"], unfollowed := true, recurses := true, plainKeys := false, apart := false, narrowed := true }
def QuadActsUptoSaid : Prop := quadActsUptoRow.holds Try.pinned (OpenSpec.upto quadActsSpec)

/-- 'belvederelaw07.QuadCentre', WHERE WHAT IT READS IS OF BULK AT MOST 1048576: true; the input reads as it did. -/
def quadCentreUptoRow : OpenClaim := { program := "ytfkjfkjhipieaaa", sum := "b161c93a495f2c919d521151fce4192b49837e72c7a23413de8c63ee1edfd489", func := "belvedere/belvederelaw07.QuadCentre", spec := "quadCentre", recurses := true, plainKeys := false, apart := false, narrowed := true }
def QuadCentreUptoSaid : Prop := quadCentreUptoRow.holds Try.pinned (OpenSpec.upto quadCentreSpec)

/-- 'belvederelaw07.QuadRoom', WHERE WHAT IT READS IS OF BULK AT MOST 1048576: true; the input reads as it did. -/
def quadRoomUptoRow : OpenClaim := { program := "ytfkjfkjhipieaaa", sum := "b161c93a495f2c919d521151fce4192b49837e72c7a23413de8c63ee1edfd489", func := "belvedere/belvederelaw07.QuadRoom", spec := "quadRoom", inPlace := ["internal/reflectlite.TypeOf"], unfollowed := true, recurses := true, plainKeys := false, apart := false, narrowed := true }
def QuadRoomUptoSaid : Prop := quadRoomUptoRow.holds Try.pinned (OpenSpec.upto quadRoomSpec)

/-- 'belvederelaw07.QuadNone', WHERE WHAT IT READS IS OF BULK AT MOST 1048576: true; the input reads as it did. -/
def quadNoneUptoRow : OpenClaim := { program := "ytfkjfkjhipieaaa", sum := "b161c93a495f2c919d521151fce4192b49837e72c7a23413de8c63ee1edfd489", func := "belvedere/belvederelaw07.QuadNone", spec := "quadNone", inPlace := ["internal/reflectlite.TypeOf"], unfollowed := true, recurses := true, plainKeys := false, apart := false, narrowed := true }
def QuadNoneUptoSaid : Prop := quadNoneUptoRow.holds Try.pinned (OpenSpec.upto quadNoneSpec)

end Rows
end Go.Proofs.Ytfkjfkjhipieaaa
