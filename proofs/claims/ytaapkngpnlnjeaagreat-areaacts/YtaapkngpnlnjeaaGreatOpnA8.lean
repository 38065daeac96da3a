/- A slice of acts of layer 8 that came in, opened: each with a slice of points of its own. -/
import Derived.Test.YtaapkngpnlnjeaaGreatM25
import Derived.Test.YtaapkngpnlnjeaaGreatM27
import Derived.Lib.SmallJoins
import Derived.Deep.Slices
import Derived.Deep.SlicePairs
import Derived.Deep.Strs
namespace Go.Proofs.YtaapkngpnlnjeaaGreat
open Go.ChangeShapes Go.WideShapes Go.RowKit Go.Joins Go.Deep
set_option maxRecDepth 100000

theorem spot8_none {w : World} {r : Reach} {b0 : Nat} {a : Addr} {n cap : Nat} (h : Value.okWide Tryz.prog w r b0 22 (.slice (some a) n cap)) : a.spot = none := by
  simp only [Value.okWide, Tryz.underlying22, Cell.okWide, Cell.ok] at h
  exact h.2.2.2.1
theorem nat88 {c : Value} {x : Int} (hc : [c] = [.int .u8 x]) (w : (Lit.int .u8 x).wf = true) : ∃ n : Nat, c = .int .u8 (n : Int) ∧ n < 256 := by
  obtain ⟨h0, h1⟩ := bounds_u8 w
  simp at hc
  exact ⟨x.toNat, by rw [hc]; congr 1; omega, by omega⟩
/-- A slice of points in a field. -/
theorem inner_pts {H : Type} {enc : TypeId × Value → H} {W : World} {base fuel : Nat} {held : Bool} {c : Value} {y : DataW H × List MemPlace} (h : DataW.trod enc Tryz.prog W base (fun _ => true) held fuel 35 [c] = some y) :
    ∃ (a : Option Addr) (zs : List (Int × Int)) (cap : Nat), c = .slice a zs.length cap ∧ Pts W W.heap.size a zs := by
  rcases open_slice_pairs Tryz.underlying35 Tryz.underlying34 (by kernel_rfl) rfl rfl (by kernel_rfl) (by kernel_rfl) h with ⟨hcs, _⟩ | ⟨a', len, cap', m, k, V0, V1, D0, D1, P0, P1, hcs, _, hl, hm, hmm, _, hall⟩
  · simp at hcs
    exact ⟨none, [], 0, hcs, Pts.nil⟩
  · simp at hcs
    simp only [if_true] at hmm
    have each : ∀ i, i < len → ∃ z : Int × Int, W.cell? (a'.add (i * 2)) = some (.int .i64 z.1) ∧ W.cell? (a'.add (i * 2 + 1)) = some (.int .i64 z.2) := fun i hi => by
      obtain ⟨h0, h1, h2, h3⟩ := hall i (by omega)
      obtain ⟨x, e0, _, _⟩ := DataW.trod_int Tryz.underlying2 h2
      obtain ⟨y, e1, _, _⟩ := DataW.trod_int Tryz.underlying2 h3
      simp at e0 e1
      rw [e0] at h0
      rw [e1] at h1
      exact ⟨(x, y), h0, h1⟩
    obtain ⟨f, hf2⟩ := choose_lt each
    refine ⟨some a', (List.range len).map f, cap', by simpa using hcs, fun j z hz => ?_⟩
    have hj : j < len := by have := (List.getElem?_eq_some_iff.1 hz).1; simpa using this
    have : f j = z := by simpa [hj] using hz
    subst this
    obtain ⟨c0, c1⟩ := hf2 j hj
    obtain ⟨bk, off, spot⟩ := a'
    have hspot : spot = none := by simpa [Addr.add] using World.cell?_spot (hf2 0 (by omega)).1
    subst hspot
    rw [Addr.add_lit] at c0 c1
    exact ⟨bk, off, rfl, World.block_lt_of_cell? W _ c0, c0, c1⟩
theorem trod_struct6 {H : Type} {enc : TypeId × Value → H} {P : Program} {w : World} {base : Nat} {spare : Nat → Bool} {held : Bool} {t : TypeId} {f0 f1 f2 f3 f4 f5 : Field} {fuel : Nat} {cs : List Value} {x : DataW H × List MemPlace} (ht : P.underlying t = some (.struct #[f0, f1, f2, f3, f4, f5])) (h : DataW.trod enc P w base spare held fuel t cs = some x) :
    ∃ y0 y1 y2 y3 y4 y5 n, cs.length = P.cellsOf t ∧ DataW.trod enc P w base spare held n f0.type ((cs.drop f0.offset).take (P.cellsOf f0.type)) = some y0 ∧ DataW.trod enc P w base spare held n f1.type ((cs.drop f1.offset).take (P.cellsOf f1.type)) = some y1 ∧
      DataW.trod enc P w base spare held n f2.type ((cs.drop f2.offset).take (P.cellsOf f2.type)) = some y2 ∧ DataW.trod enc P w base spare held n f3.type ((cs.drop f3.offset).take (P.cellsOf f3.type)) = some y3 ∧
      DataW.trod enc P w base spare held n f4.type ((cs.drop f4.offset).take (P.cellsOf f4.type)) = some y4 ∧ DataW.trod enc P w base spare held n f5.type ((cs.drop f5.offset).take (P.cellsOf f5.type)) = some y5 := by
  obtain ⟨xs, n, _, _, hl, hlen, hf⟩ := DataW.trod_struct ht h
  match xs, hlen with
  | [y0, y1, y2, y3, y4, y5], _ => exact ⟨y0, y1, y2, y3, y4, y5, n, hl, by simpa using hf 0 f0 rfl, by simpa using hf 1 f1 rfl, by simpa using hf 2 f2 rfl, by simpa using hf 3 f3 rfl, by simpa using hf 4 f4 rfl, by simpa using hf 5 f5 rfl⟩
/-- One act: its seven cells. -/
theorem act8_cells {H : Type} {enc : TypeId × Value → H} {w : World} {base : Nat} {held : Bool} {fuel : Nat} {cs : List Value} {y : DataW H × List MemPlace} (h : DataW.trod enc Tryz.prog w base (fun _ => true) held fuel 37 cs = some y) :
    ∃ c : A8, (c.k < 256 ∧ c.W < 256 ∧ c.H < 256) ∧ Pts w w.heap.size c.ca c.cs ∧ cs = [.int .u8 (c.k : Int), .int .i64 c.p, .int .i64 c.q, .int .u8 (c.W : Int), .int .u8 (c.H : Int), .slice c.ca c.cs.length c.cc, .bool c.over] := by
  obtain ⟨x0, x1, x2, x3, x4, x5, n, hl, h0, h1, h2, h3, h4, h5⟩ := trod_struct6 Tryz.underlying37 h
  rw [show Tryz.prog.cellsOf 37 = 7 by kernel_rfl] at hl
  clear h
  match cs, hl with
  | [c0, c1, c2, c3, c4, c5, c6], _ =>
    have hc8 : Tryz.prog.cellsOf 5 = 1 := by kernel_rfl
    have hcp : Tryz.prog.cellsOf 34 = 2 := by kernel_rfl
    have hcs : Tryz.prog.cellsOf 35 = 1 := by kernel_rfl
    have hcb : Tryz.prog.cellsOf 4 = 1 := by kernel_rfl
    simp only [hc8, List.drop, List.take] at h0
    simp only [hcp, List.drop, List.take] at h1
    simp only [hc8, List.drop, List.take] at h2
    simp only [hc8, List.drop, List.take] at h3
    simp only [hcs, List.drop, List.take] at h4
    simp only [hcb, List.drop, List.take] at h5
    obtain ⟨z0, e0, _, w0⟩ := DataW.trod_int Tryz.underlying5 h0
    obtain ⟨n0, rfl, l0⟩ := nat88 e0 w0
    obtain ⟨a, b, rfl, rfl, _, _⟩ := two_ints h1
    obtain ⟨z2, e2, _, w2⟩ := DataW.trod_int Tryz.underlying5 h2
    obtain ⟨n2, rfl, l2⟩ := nat88 e2 w2
    obtain ⟨z3, e3, _, w3⟩ := DataW.trod_int Tryz.underlying5 h3
    obtain ⟨n3, rfl, l3⟩ := nat88 e3 w3
    obtain ⟨sa, zs, cap, rfl, hp⟩ := inner_pts h4
    obtain ⟨bb, e5, _⟩ := DataW.trod_bool Tryz.underlying4 h5
    obtain rfl : c6 = .bool bb := by simpa using e5
    exact ⟨⟨n0, a, b, n2, n3, sa, zs, cap, bb⟩, ⟨l0, l2, l3⟩, hp, rfl⟩
instance : Inhabited A8 := ⟨⟨0, 0, 0, 0, 0, none, [], 0, false⟩⟩
theorem open_acts8 {H : Type} {enc : TypeId × Value → H} {W : World} {r : Reach} {b0 : Nat} {v : Value} {d : DataW H} {p : List MemPlace}
    (hv : Value.okWide Tryz.prog W r b0 22 v) (h : DataW.Trod enc Tryz.prog W 0 (fun _ => true) true 22 v d p) :
    ∃ a n cap L, v = .slice a n cap ∧ n = L.length ∧ n ≤ maxLen ∧ A8s W W.heap.size a L := by
  obtain ⟨a, n, cap, rfl⟩ := okWide_slice Tryz.underlying22 hv
  obtain ⟨fuel, hf⟩ := h
  rcases open_slice Tryz.underlying22 hf with ⟨hcs, _⟩ | ⟨a', len, cap', m, k, D, Pl, hcs, _, hl, hm, hmm, _, hall⟩
  · simp [Value.cells] at hcs
    obtain ⟨rfl, rfl, rfl⟩ := hcs
    exact ⟨none, 0, 0, [], rfl, rfl, Nat.zero_le _, fun j c hc => by simp at hc⟩
  · simp [Value.cells] at hcs
    obtain ⟨rfl, rfl, rfl⟩ := hcs
    have hsp := spot8_none hv
    obtain ⟨bk, off, spot⟩ := a'
    simp only at hsp
    subst hsp
    simp only [if_true] at hmm
    rw [show Tryz.prog.cellsOf 37 = 7 by kernel_rfl] at hall
    have each : ∀ i, i < n → ∃ c : A8, (c.k < 256 ∧ c.W < 256 ∧ c.H < 256) ∧ Pts W W.heap.size c.ca c.cs ∧ ∀ j, j < 7 → W.cell? ⟨bk, off + i * 7 + j, none⟩ = ([.int .u8 (c.k : Int), .int .i64 c.p, .int .i64 c.q, .int .u8 (c.W : Int), .int .u8 (c.H : Int), .slice c.ca c.cs.length c.cc, .bool c.over] : List Value)[j]? := fun i hi => by
      obtain ⟨cs', h1, h2⟩ := hall i (by omega)
      obtain ⟨c, hok, hp, rfl⟩ := act8_cells h2
      obtain ⟨_, _, hcell⟩ := World.cells?_some h1
      refine ⟨c, hok, hp, fun j hj => ?_⟩
      have := hcell j (by simpa using hj)
      rw [add_add, Addr.add_lit, ← Nat.add_assoc] at this
      exact this
    obtain ⟨f, hf2⟩ := choose_lt each
    refine ⟨some ⟨bk, off, none⟩, n, cap, (List.range n).map f, rfl, by simp, by omega, fun j z hz => ?_⟩
    have hj : j < n := by have := (List.getElem?_eq_some_iff.1 hz).1; simpa using this
    have : f j = z := by simpa [hj] using hz
    subst this
    obtain ⟨c0, c1, q⟩ := hf2 j hj
    have q0 := q 0 (by omega)
    exact ⟨c0, c1, bk, off, rfl, World.block_lt_of_cell? W _ q0, q0, q 1 (by omega), q 2 (by omega), q 3 (by omega), q 4 (by omega), q 5 (by omega), q 6 (by omega)⟩
end Go.Proofs.YtaapkngpnlnjeaaGreat
