/- The arguments of CollectPlanes: a slice of points, and a slice of numbers, that came in, opened. -/
import Derived.Test.YtgciceogggldhaaOpn
import Derived.Test.YtgciceogggldhaaCP13
import Derived.Lib.SmallJoins
import Derived.Deep.SlicePairs
namespace Go.Proofs.Ytgciceogggldhaa
open Go.ChangeShapes Go.WideShapes Go.RowKit Go.Joins
set_option maxRecDepth 100000

theorem spot_none13 {w : World} {r : Reach} {b0 : Nat} {a : Addr} {n cap : Nat} (h : Value.okWide Try.prog w r b0 22 (.slice (some a) n cap)) : a.spot = none := by
  simp only [Value.okWide, Try.underlying22, Cell.okWide, Cell.ok] at h
  exact h.2.2.2.1
theorem open_pts13 {H : Type} {enc : TypeId × Value → H} {W : World} {r : Reach} {b0 : Nat} {v : Value} {d : DataW H} {p : List MemPlace}
    (hv : Value.okWide Try.prog W r b0 22 v) (h : DataW.Trod enc Try.prog W 0 (fun _ => true) true 22 v d p) :
    ∃ a n cap zs, v = .slice a n cap ∧ n = zs.length ∧ Pt13 W W.heap.size a zs := by
  obtain ⟨a, n, cap, rfl⟩ := okWide_slice Try.underlying22 hv
  obtain ⟨fuel, hf⟩ := h
  rcases Go.Deep.open_slice_pairs Try.underlying22 Try.underlying27 (by kernel_rfl) rfl rfl (by kernel_rfl) (by kernel_rfl) hf with ⟨hcs, _⟩ | ⟨a', len, cap', m, k, V0, V1, D0, D1, P0, P1, hcs, _, hl, hm, hmm, _, hall⟩
  · simp [Value.cells] at hcs
    obtain ⟨rfl, rfl, rfl⟩ := hcs
    exact ⟨none, 0, 0, [], rfl, rfl, fun j c hc => by simp at hc⟩
  · simp [Value.cells] at hcs
    obtain ⟨rfl, rfl, rfl⟩ := hcs
    have hsp := spot_none13 hv
    obtain ⟨bk, off, spot⟩ := a'
    simp only at hsp
    subst hsp
    simp only [if_true] at hmm
    have each : ∀ i, i < n → ∃ z : Int × Int, W.cell? ⟨bk, off + i * 2, none⟩ = some (.int .i64 z.1) ∧ W.cell? ⟨bk, off + i * 2 + 1, none⟩ = some (.int .i64 z.2) := fun i hi => by
      obtain ⟨h0, h1, h2, h3⟩ := hall i (by omega)
      obtain ⟨x, e0, _, _⟩ := DataW.trod_int Try.underlying2 h2
      obtain ⟨y, e1, _, _⟩ := DataW.trod_int Try.underlying2 h3
      simp at e0 e1
      rw [e0] at h0
      rw [e1] at h1
      rw [Addr.add_lit] at h0 h1
      exact ⟨(x, y), h0, h1⟩
    obtain ⟨f, hf2⟩ := Go.Deep.choose_lt each
    refine ⟨some ⟨bk, off, none⟩, n, cap, (List.range n).map f, rfl, by simp, fun j z hz => ?_⟩
    have hj : j < n := by have := (List.getElem?_eq_some_iff.1 hz).1; simpa using this
    have : f j = z := by simpa [hj] using hz
    subst this
    obtain ⟨c0, c1⟩ := hf2 j hj
    exact ⟨bk, off, rfl, World.block_lt_of_cell? W _ c0, c0, c1⟩
theorem lrow_of {w : World} {a : Option Addr} {zs : List Int} (h : Row .u32 w w.heap.size a zs) (hw : ∀ z ∈ zs, (Lit.int .u32 z).wf = true) : LRow w a (zs.map Int.toNat) := fun j x hj => by
  rw [List.getElem?_map] at hj
  cases hz : zs[j]? with
  | none => rw [hz] at hj; cases hj
  | some z =>
    rw [hz] at hj
    obtain rfl : z.toNat = x := by simpa using hj
    obtain ⟨b0, b1⟩ := bounds_u32 (hw z (List.mem_of_getElem? hz))
    obtain ⟨bk, off, h1, h2, h3⟩ := h j z hz
    refine ⟨by omega, bk, off, h1, h2, ?_⟩
    rw [h3, show ((z.toNat : Nat) : Int) = z by omega]
end Go.Proofs.Ytgciceogggldhaa
