/- A slice of acts of layer 7 that came in, opened. -/
import Derived.Test.YtfkjfkjhipieaaaQA
import Derived.Test.YtfkjfkjhipieaaaOpnG
import Derived.Deep.Slices
import Derived.Deep.Strs
namespace Go.Proofs.Ytfkjfkjhipieaaa
open Go.ChangeShapes Go.WideShapes Go.RowKit Go.Joins Go.Deep
set_option maxRecDepth 100000

theorem spotQ_none {w : World} {r : Reach} {b0 : Nat} {a : Addr} {n cap : Nat} (h : Value.okWide Try.prog w r b0 22 (.slice (some a) n cap)) : a.spot = none := by
  simp only [Value.okWide, Try.underlying22, Cell.okWide, Cell.ok] at h
  exact h.2.2.2.1
theorem nat8Q {c : Value} {x : Int} (hc : [c] = [.int .u8 x]) (w : (Lit.int .u8 x).wf = true) : ∃ n : Nat, c = .int .u8 (n : Int) ∧ n < 256 := by
  obtain ⟨h0, h1⟩ := bounds_u8 w
  simp at hc
  exact ⟨x.toNat, by rw [hc]; congr 1; omega, by omega⟩
/-- One act: its three cells. -/
theorem actQ_cells {H : Type} {enc : TypeId × Value → H} {w : World} {base : Nat} {spare : Nat → Bool} {held : Bool} {fuel : Nat} {cs : List Value} {y : DataW H × List MemPlace} (h : DataW.trod enc Try.prog w base spare held fuel 42 cs = some y) :
    ∃ c : Ac, c.kd < 256 ∧ cs = [.int .u8 (c.kd : Int), .int .i64 c.p, .int .i64 c.q] := by
  obtain ⟨y0, y1, n, _, hl, h0, h1⟩ := trod_struct2 Try.underlying42 h
  rw [show Try.prog.cellsOf 42 = 3 by kernel_rfl] at hl
  match cs, hl with
  | [c0, c1, c2], _ =>
    have hc8 : Try.prog.cellsOf 5 = 1 := by kernel_rfl
    have hcp : Try.prog.cellsOf 40 = 2 := by kernel_rfl
    simp only [hc8, List.drop, List.take] at h0
    simp only [hcp, List.drop, List.take] at h1
    obtain ⟨x, e0, _, w0⟩ := DataW.trod_int Try.underlying5 h0
    obtain ⟨n0, rfl, l0⟩ := nat8Q e0 w0
    obtain ⟨a, b, rfl, rfl, _, _⟩ := two_ints h1
    exact ⟨⟨n0, a, b⟩, l0, rfl⟩
instance : Inhabited Ac := ⟨⟨0, 0, 0⟩⟩
theorem open_actsQ {H : Type} {enc : TypeId × Value → H} {W : World} {r : Reach} {b0 : Nat} {v : Value} {d : DataW H} {p : List MemPlace}
    (hv : Value.okWide Try.prog W r b0 22 v) (h : DataW.Trod enc Try.prog W 0 (fun _ => true) true 22 v d p) :
    ∃ a n cap L, v = .slice a n cap ∧ n = L.length ∧ n ≤ maxLen ∧ Acs W W.heap.size a L := by
  obtain ⟨a, n, cap, rfl⟩ := okWide_slice Try.underlying22 hv
  obtain ⟨fuel, hf⟩ := h
  rcases open_slice Try.underlying22 hf with ⟨hcs, _⟩ | ⟨a', len, cap', m, k, D, Pl, hcs, _, hl, hm, hmm, _, hall⟩
  · simp [Value.cells] at hcs
    obtain ⟨rfl, rfl, rfl⟩ := hcs
    exact ⟨none, 0, 0, [], rfl, rfl, Nat.zero_le _, fun j c hc => by simp at hc⟩
  · simp [Value.cells] at hcs
    obtain ⟨rfl, rfl, rfl⟩ := hcs
    have hsp := spotQ_none hv
    obtain ⟨bk, off, spot⟩ := a'
    simp only at hsp
    subst hsp
    simp only [if_true] at hmm
    rw [show Try.prog.cellsOf 42 = 3 by kernel_rfl] at hall
    have each : ∀ i, i < n → ∃ c : Ac, c.kd < 256 ∧ W.cell? ⟨bk, off + i * 3, none⟩ = some (.int .u8 (c.kd : Int)) ∧ W.cell? ⟨bk, off + i * 3 + 1, none⟩ = some (.int .i64 c.p) ∧ W.cell? ⟨bk, off + i * 3 + 2, none⟩ = some (.int .i64 c.q) := fun i hi => by
      obtain ⟨cs', h1, h2⟩ := hall i (by omega)
      obtain ⟨c, hok, rfl⟩ := actQ_cells h2
      obtain ⟨_, _, hcell⟩ := World.cells?_some h1
      have q : ∀ j, j < 3 → W.cell? ⟨bk, off + i * 3 + j, none⟩ = ([.int .u8 (c.kd : Int), .int .i64 c.p, .int .i64 c.q] : List Value)[j]? := fun j hj => by
        have := hcell j (by simpa using hj)
        rw [add_add, Addr.add_lit, ← Nat.add_assoc] at this
        exact this
      exact ⟨c, hok, q 0 (by omega), q 1 (by omega), q 2 (by omega)⟩
    obtain ⟨f, hf2⟩ := choose_lt each
    refine ⟨some ⟨bk, off, none⟩, n, cap, (List.range n).map f, rfl, by simp, by omega, fun j z hz => ?_⟩
    have hj : j < n := by have := (List.getElem?_eq_some_iff.1 hz).1; simpa using this
    have : f j = z := by simpa [hj] using hz
    subst this
    obtain ⟨c0, c1, c2⟩ := hf2 j hj
    exact ⟨c0, bk, off, rfl, World.block_lt_of_cell? W _ c1, c1, c2⟩
end Go.Proofs.Ytfkjfkjhipieaaa
