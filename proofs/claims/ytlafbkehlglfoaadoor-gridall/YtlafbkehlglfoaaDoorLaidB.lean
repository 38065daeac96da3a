/- What a row's condition on math/bits' two tables gives a walk; and a world that meets it. -/
import Derived.Test.YtlafbkehlglfoaaDoorRows
import Derived.Test.YtlafbkehlglfoaaDoorGr
import Derived.ChangeSame
import Derived.ChangeVars
import Derived.JoinedOf
import Derived.RowKit
import Derived.RowKitTokens
import Derived.LaidLaws
import Derived.LaidHandle
import Derived.Lib.LaidTab
import Derived.Stop.Joined
namespace Go.Proofs.YtlafbkehlglfoaaDoor
open Go.RowKit Go.ChangeShapes Go.WideShapes

def laidB : List (String × DataW Unit) := [("math/bits.deBruijn32tab", Rows.laid_math_bits_deBruijn32tab), ("math/bits.deBruijn64tab", Rows.laid_math_bits_deBruijn64tab)]
theorem parts_of_laidB {W : World} (h : laidMetH Tryd.prog laidB W) : laidMet Tryd.prog laidB W := h

def tab32 : List Int := [0, 1, 28, 2, 29, 14, 24, 3, 30, 22, 20, 15, 25, 17, 4, 8, 31, 27, 13, 23, 21, 19, 16, 7, 26, 12, 18, 6, 11, 5, 10, 9]
def tab64 : List Int := [0, 1, 56, 2, 57, 49, 28, 3, 61, 58, 42, 50, 38, 29, 17, 4, 62, 47, 59, 36, 45, 43, 51, 22, 53, 39, 33, 30, 24, 18, 12, 5, 63, 55, 48, 27, 60, 41, 37, 16, 46, 35, 44, 21, 52, 32, 23, 11, 54, 26, 40, 15, 34, 20, 31, 10, 25, 14, 19, 9, 13, 8, 7, 6]

theorem tab16_of_laidB {W : World} (h : laidMetH Tryd.prog laidB W) : Tab16 W := by
  obtain ⟨ps, ⟨_, _, _, _, _, _, _, _, _, _, h3, _⟩, _⟩ := parts_of_laidB h
  obtain ⟨g', t', cs, fuel, p, q, hg', ht', hvar, hd, _, _⟩ := h3
  have hg : Tryd.prog.globalNamed "math/bits.deBruijn64tab" = some 1 := by kernel_rfl
  have hty : (Tryd.prog.globals[1]?).map (·.type) = some 83 := by kernel_rfl
  obtain rfl := Option.some.inj (hg.symm.trans hg')
  obtain rfl := Option.some.inj (hty.symm.trans ht')
  have hd' : Rows.laid_math_bits_deBruijn64tab = (Lib.tabData .u8 tab64 : DataW Unit) := by rfl
  rw [hd'] at hd
  have hc := Lib.cells_of_tab Tryd.underlying83 Tryd.underlying5 (by kernel_rfl) (by kernel_rfl) hd
  have := World.var?_cell hg hvar 15
  rw [← Array.getElem?_toList, hc] at this
  simpa [Tab16, tab64] using this

/-- The cells of a table. -/
def rowOf (k : IntKind) (zs : List Int) (o : Obj) : Obj := match o with
  | .cells _ t frozen => .cells (zs.map fun z => Value.int k z).toArray t frozen
  | o => o
/-- The settled world, the two tables laid. -/
noncomputable def laidWorldB (os : Os) : World :=
  let w0 := World.holding Tryd.prog os ⟨#[], #[], []⟩
  { w0 with heap := (w0.heap.modify 0 (rowOf .u8 tab32)).modify 1 (rowOf .u8 tab64) }
theorem laidWorldB_met (os : Os) (args : Array Value) : laidMetH Tryd.prog laidB ((laidWorldB os).forCall (fun _ _ => 0) ⟨#[], args, []⟩).memory :=
  laidMetH_of_parts (show laidMet Tryd.prog laidB _ from laidMet_of_run' 8 (by kernel_rfl) (by kernel_rfl)) (by kernel_rfl)
end Go.Proofs.YtlafbkehlglfoaaDoor
