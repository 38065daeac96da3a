/- What the row's condition on the listed variables gives the walk; and a world that meets it. -/
import Derived.Test.YtjndfdhjipfijaaGreatDoorRows
import Derived.Test.YtjndfdhjipfijaaGreatDoorWtr2
import Derived.ChangeSame
import Derived.ChangeVars
import Derived.JoinedOf
import Derived.RowKit
import Derived.RowKitTokens
import Derived.LaidLaws
import Derived.LaidHandle
import Derived.Lib.LaidTab
import Derived.Stop.Joined
namespace Go.Proofs.YtjndfdhjipfijaaGreatDoor
open Go.RowKit Go.ChangeShapes Go.WideShapes

def laidZ : List (String × DataW Unit) := [("math/bits.deBruijn32tab", Rows.laid_math_bits_deBruijn32tab), ("math/bits.deBruijn64tab", Rows.laid_math_bits_deBruijn64tab), ("internal/strconv.uint64pow10", Rows.laid_internal_strconv_uint64pow10), ("unicode/utf8.acceptRanges", Rows.laid_unicode_utf8_acceptRanges), ("strconv.ErrRange", Rows.laid_strconv_ErrRange), ("strconv.ErrSyntax", Rows.laid_strconv_ErrSyntax), ("unicode/utf8.first", Rows.laid_unicode_utf8_first)]
theorem parts_of_laidZ {W : World} (h : laidMetH Tryz.prog laidZ W) : laidMet Tryz.prog laidZ W := h

theorem tab_of_laidZ {W : World} (h : laidMetH Tryz.prog laidZ W) : Tab W := by
  obtain ⟨ps, ⟨_, _, _, _, _, _, _, _, _, _, ⟨_, _, _, _, _, _, _, _, _, _, h3, _⟩, _⟩, _⟩ := parts_of_laidZ h
  obtain ⟨g', t', cs, fuel, p, q, hg', ht', hvar, hd, _, _⟩ := h3
  have hg : Tryz.prog.globalNamed "internal/strconv.uint64pow10" = some 1 := by kernel_rfl
  have hty : (Tryz.prog.globals[1]?).map (·.type) = some 142 := by kernel_rfl
  obtain rfl := Option.some.inj (hg.symm.trans hg')
  obtain rfl := Option.some.inj (hty.symm.trans ht')
  have hd' : Rows.laid_internal_strconv_uint64pow10 = (Lib.tabData .u64 Lib.pow10Tab : DataW Unit) := by rfl
  rw [hd'] at hd
  unfold Tab Lib.TabIs
  rw [hvar, ← Lib.cells_of_tab Tryz.underlying142 Tryz.underlying78 (by kernel_rfl) (by kernel_rfl) hd]

/-- The cells of a table. -/
def rowOf (k : IntKind) (zs : List Int) (o : Obj) : Obj := match o with
  | .cells _ t frozen => .cells (zs.map fun z => Value.int k z).toArray t frozen
  | o => o
def oneOf (v : Value) (o : Obj) : Obj := match o with
  | .cells _ t frozen => .cells #[v] t frozen
  | o => o
def tab32 : List Int := [0, 1, 28, 2, 29, 14, 24, 3, 30, 22, 20, 15, 25, 17, 4, 8, 31, 27, 13, 23, 21, 19, 16, 7, 26, 12, 18, 6, 11, 5, 10, 9]
def tab64 : List Int := [0, 1, 56, 2, 57, 49, 28, 3, 61, 58, 42, 50, 38, 29, 17, 4, 62, 47, 59, 36, 45, 43, 51, 22, 53, 39, 33, 30, 24, 18, 12, 5, 63, 55, 48, 27, 60, 41, 37, 16, 46, 35, 44, 21, 52, 32, 23, 11, 54, 26, 40, 15, 34, 20, 31, 10, 25, 14, 19, 9, 13, 8, 7, 6]
def tabAcc : List Int := [128, 191, 160, 191, 128, 159, 144, 191, 128, 143] ++ List.replicate 22 0
def txtRange : ByteArray := ⟨#[118, 97, 108, 117, 101, 32, 111, 117, 116, 32, 111, 102, 32, 114, 97, 110, 103, 101]⟩
def txtSyntax : ByteArray := ⟨#[105, 110, 118, 97, 108, 105, 100, 32, 115, 121, 110, 116, 97, 120]⟩
/-- The settled world, the seven variables laid; the two errors' texts lie behind all. -/
noncomputable def laidWorldZ (os : Os) : World :=
  let w0 := World.holding Tryz.prog os ⟨#[], #[], []⟩
  { w0 with heap := ((((((((w0.heap.modify 2 (rowOf .u8 tab32)).modify 3 (rowOf .u8 tab64)).modify 1 (rowOf .u64 Lib.pow10Tab)).modify 7 (rowOf .u8 tabAcc)).modify 5 (oneOf (.iface 171 (.pointer (some ⟨w0.heap.size, 0, none⟩))))).modify 4 (oneOf (.iface 171 (.pointer (some ⟨w0.heap.size + 1, 0, none⟩))))).modify 6 (rowOf .u8 (Pinned.utf8FirstZ.map Int.ofNat))).push (.cells #[.string txtRange] 173)).push (.cells #[.string txtSyntax] 173) }
theorem laidWorldZ_met (os : Os) (args : Array Value) : laidMetH Tryz.prog laidZ ((laidWorldZ os).forCall (fun _ _ => 0) ⟨#[], args, []⟩).memory :=
  laidMetH_of_parts (show laidMet Tryz.prog laidZ _ from laidMet_of_run' 8 (by kernel_rfl) (by kernel_rfl)) (by kernel_rfl)
end Go.Proofs.YtjndfdhjipfijaaGreatDoor
