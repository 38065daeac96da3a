/- A slice of acts that came in, opened. -/
import Derived.Test.YtjndfdhjipfijaaDoorSC
import Derived.Lib.SmallJoins
import Derived.Deep.Slices
import Derived.Deep.Strs
import Derived.Laws.IdiomArrays
import Derived.OpenShut
import Derived.ProofKit
namespace Go.Proofs.YtjndfdhjipfijaaDoor
open Go.ChangeShapes Go.WideShapes Go.RowKit Go.Joins Go.Deep
set_option maxRecDepth 100000

theorem Tryd.knob : ownKnob Tryd.prog.godebug = none := by kernel_rfl
theorem Tryd.laidAll : laidOutB Tryd.prog = true := by kernel_rfl
theorem spotA_none {w : World} {r : Reach} {b0 : Nat} {a : Addr} {n cap : Nat} (h : Value.okWide Tryd.prog w r b0 22 (.slice (some a) n cap)) : a.spot = none := by
  simp only [Value.okWide, Tryd.underlying22, Cell.okWide, Cell.ok] at h
  exact h.2.2.2.1
theorem nat8 {c : Value} {x : Int} (hc : [c] = [.int .u8 x]) (w : (Lit.int .u8 x).wf = true) : ∃ n : Nat, c = .int .u8 (n : Int) ∧ n < 256 := by
  obtain ⟨h0, h1⟩ := bounds_u8 w
  simp at hc
  exact ⟨x.toNat, by rw [hc]; congr 1; omega, by omega⟩
/-- One act: its six cells. -/
theorem act_cells {H : Type} {enc : TypeId × Value → H} {w : World} {base : Nat} {spare : Nat → Bool} {held : Bool} {fuel : Nat} {cs : List Value} {y : DataW H × List MemPlace} (h : DataW.trod enc Tryd.prog w base spare held fuel 34 cs = some y) :
    ∃ c : Av, c.ok ∧ cs = [.int .u8 (c.kd : Int), .int .u8 (c.a0 : Int), .int .u8 (c.a1 : Int), .int .u8 (c.a2 : Int), .int .u8 (c.a3 : Int), .int .i64 c.n] := by
  obtain ⟨y0, y1, y2, n, _, hl, h0, h1, h2⟩ := trod_struct3 Tryd.underlying34 h
  rw [show Tryd.prog.cellsOf 34 = 6 by kernel_rfl] at hl
  match cs, hl with
  | [c0, c1, c2, c3, c4, c5], _ =>
    rw [show Tryd.prog.cellsOf 5 = 1 by kernel_rfl] at h0
    rw [show Tryd.prog.cellsOf 32 = 4 by kernel_rfl] at h1
    rw [show Tryd.prog.cellsOf 3 = 1 by kernel_rfl] at h2
    simp only [List.drop, List.take] at h0 h1 h2
    obtain ⟨x, e0, _, w0⟩ := DataW.trod_int Tryd.underlying5 h0
    obtain ⟨z, e5, _, w5⟩ := DataW.trod_int Tryd.underlying3 h2
    obtain ⟨_, _, _, _, m, _, k1, k2, k3, k4⟩ := trod_array4 Tryd.underlying32 (by kernel_rfl) h1
    obtain ⟨x1, e1, _, w1⟩ := DataW.trod_int Tryd.underlying5 k1
    obtain ⟨x2, e2, _, w2⟩ := DataW.trod_int Tryd.underlying5 k2
    obtain ⟨x3, e3, _, w3⟩ := DataW.trod_int Tryd.underlying5 k3
    obtain ⟨x4, e4, _, w4⟩ := DataW.trod_int Tryd.underlying5 k4
    obtain ⟨n0, rfl, l0⟩ := nat8 e0 w0
    obtain ⟨n1, rfl, l1⟩ := nat8 e1 w1
    obtain ⟨n2, rfl, l2⟩ := nat8 e2 w2
    obtain ⟨n3, rfl, l3⟩ := nat8 e3 w3
    obtain ⟨n4, rfl, l4⟩ := nat8 e4 w4
    obtain ⟨b0, b1⟩ := bounds_i64 w5
    obtain rfl : c5 = .int .i64 z := by simpa using e5
    exact ⟨⟨n0, n1, n2, n3, n4, z⟩, ⟨l0, l1, l2, l3, l4, b0, b1⟩, rfl⟩
instance : Inhabited Av := ⟨⟨0, 0, 0, 0, 0, 0⟩⟩
theorem open_acts {H : Type} {enc : TypeId × Value → H} {W : World} {r : Reach} {b0 : Nat} {v : Value} {d : DataW H} {p : List MemPlace}
    (hv : Value.okWide Tryd.prog W r b0 22 v) (h : DataW.Trod enc Tryd.prog W 0 (fun _ => true) true 22 v d p) :
    ∃ a n cap L, v = .slice a n cap ∧ n = L.length ∧ n ≤ maxLen ∧ Avs W W.heap.size a L := by
  obtain ⟨a, n, cap, rfl⟩ := okWide_slice Tryd.underlying22 hv
  obtain ⟨fuel, hf⟩ := h
  rcases open_slice Tryd.underlying22 hf with ⟨hcs, _⟩ | ⟨a', len, cap', m, k, D, Pl, hcs, _, hl, hm, hmm, _, hall⟩
  · simp [Value.cells] at hcs
    obtain ⟨rfl, rfl, rfl⟩ := hcs
    exact ⟨none, 0, 0, [], rfl, rfl, Nat.zero_le _, fun j c hc => by simp at hc⟩
  · simp [Value.cells] at hcs
    obtain ⟨rfl, rfl, rfl⟩ := hcs
    have hsp := spotA_none hv
    obtain ⟨bk, off, spot⟩ := a'
    simp only at hsp
    subst hsp
    simp only [if_true] at hmm
    rw [show Tryd.prog.cellsOf 34 = 6 by kernel_rfl] at hall
    have each : ∀ i, i < n → ∃ c : Av, c.ok ∧ W.cell? ⟨bk, off + i * 6, none⟩ = some (.int .u8 (c.kd : Int)) ∧ W.cell? ⟨bk, off + i * 6 + 1, none⟩ = some (.int .u8 (c.a0 : Int)) ∧ W.cell? ⟨bk, off + i * 6 + 2, none⟩ = some (.int .u8 (c.a1 : Int)) ∧ W.cell? ⟨bk, off + i * 6 + 3, none⟩ = some (.int .u8 (c.a2 : Int)) ∧ W.cell? ⟨bk, off + i * 6 + 4, none⟩ = some (.int .u8 (c.a3 : Int)) ∧ W.cell? ⟨bk, off + i * 6 + 5, none⟩ = some (.int .i64 c.n) := fun i hi => by
      obtain ⟨cs', h1, h2⟩ := hall i (by omega)
      obtain ⟨c, hok, rfl⟩ := act_cells h2
      obtain ⟨_, _, hcell⟩ := World.cells?_some h1
      have q : ∀ j, j < 6 → W.cell? ⟨bk, off + i * 6 + j, none⟩ = ([.int .u8 (c.kd : Int), .int .u8 (c.a0 : Int), .int .u8 (c.a1 : Int), .int .u8 (c.a2 : Int), .int .u8 (c.a3 : Int), .int .i64 c.n] : List Value)[j]? := fun j hj => by
        have := hcell j (by simpa using hj)
        rw [add_add, Addr.add_lit, ← Nat.add_assoc] at this
        exact this
      exact ⟨c, hok, q 0 (by omega), q 1 (by omega), q 2 (by omega), q 3 (by omega), q 4 (by omega), q 5 (by omega)⟩
    obtain ⟨f, hf2⟩ := choose_lt each
    refine ⟨some ⟨bk, off, none⟩, n, cap, (List.range n).map f, rfl, by simp, by omega, fun j z hz => ?_⟩
    have hj : j < n := by have := (List.getElem?_eq_some_iff.1 hz).1; simpa using this
    have : f j = z := by simpa [hj] using hz
    subst this
    obtain ⟨c0, c1, c2⟩ := hf2 j hj
    exact ⟨c0, bk, off, rfl, World.block_lt_of_cell? W _ c1, c1, c2⟩
end Go.Proofs.YtjndfdhjipfijaaDoor
