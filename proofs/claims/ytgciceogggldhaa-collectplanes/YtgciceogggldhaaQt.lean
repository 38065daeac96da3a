/- Package quad: Expand, Reach, Trim: contracts. -/
import Derived.Test.YtgciceogggldhaaQr
namespace Go.Proofs.Ytgciceogggldhaa
open Go.RowKit Go.Maps
set_option maxRecDepth 100000

/-- A plane of the same cells, made. -/
def Made (sb tb most : Nat) (w : World) (g : Nat) (N : List Nd) (c : Nat) (w' : World) (e : Ending) (m L : Nat) (A : Int → Int → Bool) : Prop :=
  ∃ g' N', Nx sb tb most w g N c w' g' N' ∧
      ((∃ r : Nat, e = .returned (.tuple #[plV sb r, .nilIface]) ∧ Sq N' (m + 1) r ∧ (∀ a b, alK N' m (kidZ N' r) a b = A a b) ∧ HasEm N' L) ∨ (e = .returned (.tuple #[.agg #[.pointer none, .int .u32 0], .iface 53 (.int .i64 7)]) ∧ most ≤ N'.length))
/-- The entry of a method of a plane with a block for its result. -/
structure Ent (w W : World) (sb g tb cap most : Nat) (N : List Nd) (x : Nat) : Prop where
  bel : Below w.heap.size w W
  st : St W sb g tb cap most N
  pl : Ob W sb g tb w.heap.size (plO sb x)
  res : Ob W sb g tb (w.heap.size + 1) (.cells #[.pointer none, .int .u32 0] 36 (0, 0))
theorem ent_new {w : World} {sb g tb cap most : Nat} {N : List Nd} (h : St w sb g tb cap most N) (x : Nat) : Ent w ((w.alloc (.cells #[.pointer (some ⟨sb, 0, none⟩), .int .u32 (x : Int)] 36)).alloc (.cells #[.pointer none, .int .u32 0] 36)) sb g tb cap most N x := by
  have hr0 := Ob.new (h.later (bel1 w (.cells #[.pointer (some ⟨sb, 0, none⟩), .int .u32 (x : Int)] 36))) #[.pointer none, .int .u32 0] 36
  rw [show (w.alloc (.cells #[.pointer (some ⟨sb, 0, none⟩), .int .u32 (x : Int)] 36)).heap.size = w.heap.size + 1 by simp] at hr0
  exact ⟨bel2 _ _ _, h.later (bel2 _ _ _), (Ob.new h _ _).later (bel1 _ _), hr0⟩
theorem Ent.later {w W W' : World} {sb g tb cap most : Nat} {N : List Nd} {x : Nat} (h : Ent w W sb g tb cap most N x) (hb : Below W.heap.size W W') : Ent w W' sb g tb cap most N x :=
  ⟨h.bel.trans (hb.mono h.bel.size), h.st.later hb, h.pl.later hb, h.res.later hb⟩
/-- The result written, without a square made. -/
theorem Ent.put {w W : World} {sb g tb cap most : Nat} {N : List Nd} {x : Nat} (h : Ent w W sb g tb cap most N x) (p' v' : Value) :
    ∃ W', (W.setCell ⟨w.heap.size + 1, 0, none⟩ p').setCell ⟨w.heap.size + 1, 1, none⟩ v' = W' ∧ Below w.heap.size w W' ∧ W'.cell? ⟨w.heap.size + 1, 0, none⟩ = some p' ∧ W'.cell? ⟨w.heap.size + 1, 1, none⟩ = some v' := by
  have h0 := pl_set0 h.res.at_ p'
  have h1 := pl_set1 h0 v'
  exact ⟨_, rfl, (h.bel.setCell (p := ⟨w.heap.size + 1, 0, none⟩) (by simp) _).setCell (p := ⟨w.heap.size + 1, 1, none⟩) (by simp) _, (res_cells h1).1, (res_cells h1).2.1⟩
theorem Ent.other {w W : World} {sb g tb cap most : Nat} {N : List Nd} {x kb i : Nat} (h : Ent w W sb g tb cap most N x) (hk : w.heap.size ≤ kb) (h0 : w.heap.size ≠ kb ∧ w.heap.size + 1 ≠ kb) (h1 : kb ≠ sb ∧ kb ≠ g ∧ kb ≠ tb) (v : Value) : Ent w (W.setCell ⟨kb, i, none⟩ v) sb g tb cap most N x :=
  ⟨h.bel.setCell (p := ⟨kb, i, none⟩) hk _, h.st.keep (Below.heap_setCell _ _ _ _ (Ne.symm h1.1)) (Below.heap_setCell _ _ _ _ (Ne.symm h1.2.1)) (Below.heap_setCell _ _ _ _ (Ne.symm h1.2.2)), h.pl.other (Ne.symm h0.1) v, h.res.other (Ne.symm h0.2) v⟩
end Go.Proofs.Ytgciceogggldhaa
