/- Rows of numbers that are read, and rows of bytes of the call's own. -/
import Derived.Test.YtgciceogggldhaaProg
import Derived.WalkKit
import Derived.WalkLawsBesides
import Derived.Lib.Hide
import Derived.IntWalk
import Derived.Deep.LoopGhost
import Derived.Deep.RegionWith
import Derived.BigRegion
import Derived.Maps.AppendAt
import Derived.Below
import Derived.Laws.BytesArg
import Derived.RowKitTokens
namespace Go.Proofs.Ytgciceogggldhaa
open Go.RowKit

theorem Try.infoU8 : (Try.prog.info? 5).map (fun i => (i.zero, i.size, i.bytes)) = some (some (.int .u8 0), 1, 1) := by kernel_rfl
/-- A row of bytes of the call's own. -/
def Own (w : World) (B : Nat) (v : Value) (zs : List Int) : Prop := w.ownsRow B 5 1 v zs.length (zs.map (Value.int .u8))


/-- A row of numbers, as a slice holds it, below block B. -/
def Row (k : IntKind) (w : World) (B : Nat) (a : Option Addr) (zs : List Int) : Prop :=
  ∀ (j : Nat) z, zs[j]? = some z → ∃ bk off, a = some ⟨bk, off, none⟩ ∧ bk < B ∧ w.cell? ⟨bk, off + j, none⟩ = some (.int k z)
theorem Row.later {k : IntKind} {w w' : World} {B B' : Nat} {a : Option Addr} {zs : List Int} (h : Row k w B a zs) (hb : Below B' w w') (hB : B ≤ B') : Row k w' B a zs := by
  intro j z hz
  obtain ⟨bk, off, h1, h2, h3⟩ := h j z hz
  exact ⟨bk, off, h1, h2, by rw [hb.cell (p := ⟨bk, off + j, none⟩) (show bk < B' by omega)]; exact h3⟩
theorem Row.mono {k : IntKind} {w : World} {B B' : Nat} {a : Option Addr} {zs : List Int} (h : Row k w B a zs) (hB : B ≤ B') : Row k w B' a zs := by
  intro j z hz
  obtain ⟨bk, off, h1, h2, h3⟩ := h j z hz
  exact ⟨bk, off, h1, by omega, h3⟩
theorem Row.nil {k : IntKind} {w : World} {B : Nat} {a : Option Addr} : Row k w B a [] := by intro j z hz; simp at hz
theorem add_at (bk off j : Nat) : (⟨bk, off, none⟩ : Addr).add j = ⟨bk, off + j, none⟩ := by
  unfold Addr.add; split <;> simp_all
theorem Own.row {w : World} {B : Nat} {v : Value} {zs : List Int} (h : Own w B v zs) :
    ∃ a c, v = .slice a zs.length c ∧ zs.length ≤ c ∧ c ≤ maxLen ∧ Row .u8 w w.heap.size a zs := by
  have h' := h
  rcases h.2 with ⟨rfl, hn⟩ | ⟨g, cap, cur, rfl, _, hg, h1, h2, _, _⟩
  · obtain rfl := List.eq_nil_of_length_eq_zero hn
    exact ⟨none, 0, rfl, Nat.le_refl _, Nat.zero_le _, Row.nil⟩
  · refine ⟨_, _, rfl, h1, h2, fun j z hz => ⟨g, 0, rfl, (Array.getElem?_eq_some_iff.1 hg).1, ?_⟩⟩
    have hj : j < zs.length := (List.getElem?_eq_some_iff.1 hz).1
    have := h'.cellAt j (by omega)
    rw [Nat.zero_add, this, List.getElem?_map, hz]; rfl

theorem cell_in {w : World} {b : Nat} {cs : Array Value} {t : TypeId} (h : w.heap[b]? = some (.cells cs t (0, 0))) (i : Nat) : w.cell? ⟨b, i, none⟩ = cs[i]? := cell_of_row w b i cs t (0, 0) h
theorem Row.drewN {k : IntKind} {w : World} {B : Nat} {a : Option Addr} {zs : List Int} (h : Row k w B a zs) {q : Nat} : Row k (w.drewN q) B a zs := h
theorem take_next {l : List Int} {j : Nat} {z : Int} (h : l[j]? = some z) : l.take (j + 1) = l.take j ++ [z] := by rw [List.take_add_one, h]; rfl

theorem below_alloc1 (w : World) (o : Obj) : Below w.heap.size w (w.alloc o) := (Below.refl _ _).alloc (Nat.le_refl _) o
theorem row_new (k : IntKind) (w : World) (zs : List Int) (t : TypeId) : Row k (w.alloc (.cells (zs.map (Value.int k)).toArray t)) (w.heap.size + 1) (some ⟨w.heap.size, 0, none⟩) zs := by
  intro j z hz
  refine ⟨w.heap.size, 0, rfl, by omega, ?_⟩
  rw [cell_in (heap_alloc_new w _)]
  simp [hz]
end Go.Proofs.Ytgciceogggldhaa
