-- P17
import Derived.Test.YtaapkngpnlnjeaaGreatDoorRows
import Derived.Test.YtaapkngpnlnjeaaGreatDoorP13
import Derived.ChangeSame
import Derived.ChangeVars
import Derived.JoinedOf
import Derived.RowKit
import Derived.RowKitTokens
import Derived.LaidLaws
import Derived.LaidHandle
import Derived.Lib.LaidTab
import Derived.Stop.Joined
import Derived.Test.YtaapkngpnlnjeaaGreatDoorNw11
import Derived.Lib.SmallJoins
import Derived.Deep.SlicePairs
import Derived.OpenShut
import Derived.ProofKit
section
namespace Go.Proofs.YtaapkngpnlnjeaaGreatDoor
open Go.RowKit Go.ChangeShapes Go.WideShapes Go.Shelf

def laidC : List (String × DataW Unit) := [("math/bits.deBruijn64tab", Rows.laid_math_bits_deBruijn64tab)]
theorem parts_of_laidC {W : World} (h : laidMetH Tryz.prog laidC W) : laidMet Tryz.prog laidC W := h
def tabC : List Int := Lib.deBruijn64tab.map fun (z : Nat) => (z : Int)
theorem tab_of_laidC {W : World} (h : laidMetH Tryz.prog laidC W) : TabAt 0 Lib.deBruijn64tab W := by
  obtain ⟨ps, h3, _⟩ := parts_of_laidC h
  obtain ⟨g', t', cs, fuel, p, q, hg', ht', hvar, hd, _, _⟩ := h3
  have hg : Tryz.prog.globalNamed "math/bits.deBruijn64tab" = some 0 := by kernel_rfl
  have hty : (Tryz.prog.globals[0]?).map (·.type) = some 122 := by kernel_rfl
  obtain rfl := Option.some.inj (hg.symm.trans hg')
  obtain rfl := Option.some.inj (hty.symm.trans ht')
  have hd' : Rows.laid_math_bits_deBruijn64tab = (Lib.tabData .u8 tabC : DataW Unit) := by rfl
  rw [hd'] at hd
  have hc := Lib.cells_of_tab Tryz.underlying122 Tryz.underlying5 (by kernel_rfl) (by kernel_rfl) hd
  intro j hj
  have := World.var?_cell hg hvar j
  rw [← Array.getElem?_toList, hc] at this
  rw [this]
  unfold tabC
  rw [List.map_map, List.getElem?_map, List.getElem?_eq_getElem hj, List.getD_eq_getElem?_getD, List.getElem?_eq_getElem hj]
  rfl
/-- The cells of a table. -/
def rowOfC (k : IntKind) (zs : List Int) (o : Obj) : Obj := match o with
  | .cells _ t frozen => .cells (zs.map fun z => Value.int k z).toArray t frozen
  | o => o
/-- The settled world, the table laid. -/
noncomputable def laidWorldC (os : Os) : World :=
  let w0 := World.holding Tryz.prog os ⟨#[], #[], []⟩
  { w0 with heap := w0.heap.modify 0 (rowOfC .u8 tabC) }
theorem laidWorldC_met (os : Os) (args : Array Value) : laidMetH Tryz.prog laidC ((laidWorldC os).forCall (fun _ _ => 0) ⟨#[], args, []⟩).memory :=
  laidMetH_of_parts (show laidMet Tryz.prog laidC _ from laidMet_of_run' 8 (by kernel_rfl) (by kernel_rfl)) (by kernel_rfl)
end Go.Proofs.YtaapkngpnlnjeaaGreatDoor
end

section
namespace Go.Proofs.YtaapkngpnlnjeaaGreatDoor
open Go.ChangeShapes Go.WideShapes Go.RowKit Go.Joins
set_option maxRecDepth 100000

theorem Tryz.knob : ownKnob Tryz.prog.godebug = none := by kernel_rfl
theorem Tryz.laidAll : laidOutB Tryz.prog = true := by kernel_rfl
theorem spot_noneC {w : World} {r : Reach} {b0 : Nat} {a : Addr} {n cap : Nat} (h : Value.okWide Tryz.prog w r b0 22 (.slice (some a) n cap)) : a.spot = none := by
  simp only [Value.okWide, Tryz.underlying22, Cell.okWide, Cell.ok] at h
  exact h.2.2.2.1
theorem open_pts11 {H : Type} {enc : TypeId × Value → H} {W : World} {r : Reach} {b0 : Nat} {v : Value} {d : DataW H} {p : List MemPlace}
    (hv : Value.okWide Tryz.prog W r b0 22 v) (h : DataW.Trod enc Tryz.prog W 0 (fun _ => true) true 22 v d p) :
    ∃ a n cap zs, v = .slice a n cap ∧ n = zs.length ∧ n ≤ maxLen ∧ Pt11 W W.heap.size a zs ∧ ∀ bk off, a = some ⟨bk, off, none⟩ → n = 0 ∨ bk < W.heap.size := by
  obtain ⟨a, n, cap, rfl⟩ := okWide_slice Tryz.underlying22 hv
  obtain ⟨fuel, hf⟩ := h
  rcases Go.Deep.open_slice_pairs Tryz.underlying22 Tryz.underlying55 (by kernel_rfl) rfl rfl (by kernel_rfl) (by kernel_rfl) hf with ⟨hcs, _⟩ | ⟨a', len, cap', m, k, V0, V1, D0, D1, P0, P1, hcs, _, hl, hm, hmm, _, hall⟩
  · simp [Value.cells] at hcs
    obtain ⟨rfl, rfl, rfl⟩ := hcs
    exact ⟨none, 0, 0, [], rfl, rfl, Nat.zero_le _, fun j c hc => by simp at hc, fun bk off e => by cases e⟩
  · simp [Value.cells] at hcs
    obtain ⟨rfl, rfl, rfl⟩ := hcs
    have hsp := spot_noneC hv
    obtain ⟨bk, off, spot⟩ := a'
    simp only at hsp
    subst hsp
    simp only [if_true] at hmm
    have each : ∀ i, i < n → ∃ z : Int × Int, W.cell? ⟨bk, off + i * 2, none⟩ = some (.int .i64 z.1) ∧ W.cell? ⟨bk, off + i * 2 + 1, none⟩ = some (.int .i64 z.2) := fun i hi => by
      obtain ⟨h0, h1, h2, h3⟩ := hall i (by omega)
      obtain ⟨x, e0, _, _⟩ := DataW.trod_int Tryz.underlying2 h2
      obtain ⟨y, e1, _, _⟩ := DataW.trod_int Tryz.underlying2 h3
      simp at e0 e1
      rw [e0] at h0
      rw [e1] at h1
      rw [Addr.add_lit] at h0 h1
      exact ⟨(x, y), h0, h1⟩
    obtain ⟨f, hf2⟩ := Go.Deep.choose_lt each
    refine ⟨some ⟨bk, off, none⟩, n, cap, (List.range n).map f, rfl, by simp, by omega, fun j z hz => ?_, fun bk' off' e => ?_⟩
    · have hj : j < n := by have := (List.getElem?_eq_some_iff.1 hz).1; simpa using this
      have : f j = z := by simpa [hj] using hz
      subst this
      obtain ⟨c0, c1⟩ := hf2 j hj
      exact ⟨bk, off, rfl, World.block_lt_of_cell? W _ c0, c0, c1⟩
    · cases e
      rcases Nat.eq_zero_or_pos n with h0 | h0
      · exact Or.inl h0
      · exact Or.inr (World.block_lt_of_cell? W _ (hf2 0 h0).1)
end Go.Proofs.YtaapkngpnlnjeaaGreatDoor
end
