-- P12
import Derived.Test.YtaapkngpnlnjeaaProg
import Derived.WalkKit
import Derived.WalkLawsBesides
import Derived.Lib.Hide
import Derived.IntWalk
import Derived.Deep.LoopGhost
import Derived.Deep.RegionWith
import Derived.BigRegion
import Derived.Maps.AppendAt
import Derived.Below
import Derived.Laws.BytesArg
import Derived.RowKitTokens
import Derived.ProofKit
import Derived.OpenShut
import Derived.ChangeOld
import Derived.Carry
import Derived.SizedLaws
section
namespace Go.Proofs.Ytaapkngpnlnjeaa
open Go.RowKit

theorem Try.infoU8 : (Try.prog.info? 5).map (fun i => (i.zero, i.size, i.bytes)) = some (some (.int .u8 0), 1, 1) := by kernel_rfl
/-- A row of bytes of the call's own. -/
def Own (w : World) (B : Nat) (v : Value) (zs : List Int) : Prop := w.ownsRow B 5 1 v zs.length (zs.map (Value.int .u8))


/-- A row of numbers, as a slice holds it, below block B. -/
def Row (k : IntKind) (w : World) (B : Nat) (a : Option Addr) (zs : List Int) : Prop :=
  ∀ (j : Nat) z, zs[j]? = some z → ∃ bk off, a = some ⟨bk, off, none⟩ ∧ bk < B ∧ w.cell? ⟨bk, off + j, none⟩ = some (.int k z)
theorem Row.later {k : IntKind} {w w' : World} {B B' : Nat} {a : Option Addr} {zs : List Int} (h : Row k w B a zs) (hb : Below B' w w') (hB : B ≤ B') : Row k w' B a zs := by
  intro j z hz
  obtain ⟨bk, off, h1, h2, h3⟩ := h j z hz
  exact ⟨bk, off, h1, h2, by rw [hb.cell (p := ⟨bk, off + j, none⟩) (show bk < B' by omega)]; exact h3⟩
theorem Row.mono {k : IntKind} {w : World} {B B' : Nat} {a : Option Addr} {zs : List Int} (h : Row k w B a zs) (hB : B ≤ B') : Row k w B' a zs := by
  intro j z hz
  obtain ⟨bk, off, h1, h2, h3⟩ := h j z hz
  exact ⟨bk, off, h1, by omega, h3⟩
theorem Row.nil {k : IntKind} {w : World} {B : Nat} {a : Option Addr} : Row k w B a [] := by intro j z hz; simp at hz
theorem add_at (bk off j : Nat) : (⟨bk, off, none⟩ : Addr).add j = ⟨bk, off + j, none⟩ := by
  unfold Addr.add; split <;> simp_all
theorem Own.row {w : World} {B : Nat} {v : Value} {zs : List Int} (h : Own w B v zs) :
    ∃ a c, v = .slice a zs.length c ∧ zs.length ≤ c ∧ c ≤ maxLen ∧ Row .u8 w w.heap.size a zs := by
  have h' := h
  rcases h.2 with ⟨rfl, hn⟩ | ⟨g, cap, cur, rfl, _, hg, h1, h2, _, _⟩
  · obtain rfl := List.eq_nil_of_length_eq_zero hn
    exact ⟨none, 0, rfl, Nat.le_refl _, Nat.zero_le _, Row.nil⟩
  · refine ⟨_, _, rfl, h1, h2, fun j z hz => ⟨g, 0, rfl, (Array.getElem?_eq_some_iff.1 hg).1, ?_⟩⟩
    have hj : j < zs.length := (List.getElem?_eq_some_iff.1 hz).1
    have := h'.cellAt j (by omega)
    rw [Nat.zero_add, this, List.getElem?_map, hz]; rfl

theorem cell_in {w : World} {b : Nat} {cs : Array Value} {t : TypeId} (h : w.heap[b]? = some (.cells cs t (0, 0))) (i : Nat) : w.cell? ⟨b, i, none⟩ = cs[i]? := cell_of_row w b i cs t (0, 0) h
theorem Row.drewN {k : IntKind} {w : World} {B : Nat} {a : Option Addr} {zs : List Int} (h : Row k w B a zs) {q : Nat} : Row k (w.drewN q) B a zs := h
theorem take_next {l : List Int} {j : Nat} {z : Int} (h : l[j]? = some z) : l.take (j + 1) = l.take j ++ [z] := by rw [List.take_add_one, h]; rfl

theorem below_alloc1 (w : World) (o : Obj) : Below w.heap.size w (w.alloc o) := (Below.refl _ _).alloc (Nat.le_refl _) o
theorem row_new (k : IntKind) (w : World) (zs : List Int) (t : TypeId) : Row k (w.alloc (.cells (zs.map (Value.int k)).toArray t)) (w.heap.size + 1) (some ⟨w.heap.size, 0, none⟩) zs := by
  intro j z hz
  refine ⟨w.heap.size, 0, rfl, by omega, ?_⟩
  rw [cell_in (heap_alloc_new w _)]
  simp [hz]
end Go.Proofs.Ytaapkngpnlnjeaa
end

section
namespace Go.Proofs.Ytaapkngpnlnjeaa
open Go.ChangeShapes Go.WideShapes Go.ChangeAt Go.RowKit

theorem Try.knob : ownKnob Try.prog.godebug = none := by kernel_rfl
theorem Try.laidAll : laidOutB Try.prog = true := by kernel_rfl

theorem open_row {H : Type} {enc : TypeId × Value → H} {W : World} {t e : TypeId} {k : IntKind} {a : Option Addr} {len cap : Nat} {d : DataW H} {p : List MemPlace} (ht : Try.prog.underlying t = some (.slice e)) (he : Try.prog.underlying e = some (.int k)) (hc : Try.prog.cellsOf e = 1)
    (h : DataW.Trod enc Try.prog W 0 (fun _ => true) true t (.slice a len cap) d p) :
    ∃ zs : List Int, zs.length = len ∧ len ≤ cap ∧ cap ≤ maxLen ∧ Row k W W.heap.size a zs ∧ (∀ z ∈ zs, (Lit.int k z).wf = true) ∧ (a = none → cap = 0) := by
  obtain ⟨fuel, hf⟩ := h
  rcases open_ints ht he hc hf with ⟨hcs, _⟩ | ⟨x, l, c, zs, hcs, _, hl, hm, hz, _, hcell, hwz⟩
  · simp [Value.cells] at hcs
    obtain ⟨rfl, rfl, rfl⟩ := hcs
    exact ⟨[], rfl, Nat.le_refl _, Nat.zero_le _, Row.nil, (fun z hz => by simp at hz), fun _ => rfl⟩
  · simp [Value.cells] at hcs
    obtain ⟨rfl, rfl, rfl⟩ := hcs
    simp only [if_true] at hz
    refine ⟨zs.take len, by rw [List.length_take]; omega, hl, hm, fun j z hj => ?_, (fun z hz => hwz z (List.mem_of_mem_take hz)), (fun h => by cases h)⟩
    have hjl : j < len := by
      have := (List.getElem?_eq_some_iff.1 hj).1
      rw [List.length_take] at this; omega
    rw [List.getElem?_take_of_lt hjl] at hj
    have hjz : j < zs.length := (List.getElem?_eq_some_iff.1 hj).1
    obtain ⟨bk, off, rfl, hc⟩ := ints_at hcell (by omega)
    have hc' := hc j hjz
    rw [List.getD_eq_getElem?_getD, hj] at hc'
    exact ⟨bk, off, rfl, World.block_lt_of_cell? W _ hc', hc'⟩
theorem open_len {H : Type} {enc : TypeId × Value → H} {W : World} {t e : TypeId} {k : IntKind} {a : Option Addr} {len cap : Nat} {d : DataW H} {p : List MemPlace} (ht : Try.prog.underlying t = some (.slice e)) (he : Try.prog.underlying e = some (.int k)) (hc : Try.prog.cellsOf e = 1)
    (h : DataW.Trod enc Try.prog W 0 (fun _ => true) true t (.slice a len cap) d p) : len = 0 ∨ ∃ elems spare, d = .slice elems spare ∧ elems.length = len := by
  obtain ⟨fuel, hf⟩ := h
  rcases open_ints ht he hc hf with ⟨hcs, _⟩ | ⟨x, l, c, zs, hcs, _, hl, hm, hz, hd, _, _⟩
  · simp [Value.cells] at hcs
    exact Or.inl hcs.2.1
  · simp [Value.cells] at hcs
    obtain ⟨rfl, rfl, rfl⟩ := hcs
    simp only [if_true] at hz
    right
    refine ⟨_, _, (Prod.mk.inj hd).1, ?_⟩
    simp [lits]; omega
/-- A slice that came in is of fewer than 2^47 bytes. -/
theorem len_reach {H : Type} {ts : List TypeId} {ds : List (DataW H)} (h : (DataW.weightsEach Try.prog ts ds).all (· ≤ reachBytes) = true) {j : Nat} {t e : TypeId} {d : DataW H} {len : Nat} (ht : ts[j]? = some t) (hd : ds[j]? = some d) (hu : Try.prog.underlying t = some (.slice e)) (hb : 1 ≤ Try.prog.bytesOf e)
    (hl : len = 0 ∨ ∃ elems spare, d = .slice elems spare ∧ elems.length = len) : len ≤ 140737488355328 := by
  rcases hl with rfl | ⟨elems, spare, rfl, rfl⟩
  · omega
  · have h1 := sized_slice h ht hd hu
    have h2 := reachBytes_lt
    have h3 : elems.length + spare.length ≤ (elems.length + spare.length) * Try.prog.bytesOf e := Nat.le_mul_of_pos_right _ hb
    omega
end Go.Proofs.Ytaapkngpnlnjeaa
end
