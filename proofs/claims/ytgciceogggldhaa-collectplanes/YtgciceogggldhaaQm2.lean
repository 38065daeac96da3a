/- Package quad: middle, inMiddle, Centre: contracts. -/
import Derived.Test.YtgciceogggldhaaQm
namespace Go.Proofs.Ytgciceogggldhaa
open Go.RowKit Go.Maps
set_option maxRecDepth 100000

theorem kept {w w' : World} {b : Nat} {o : Obj} (h : w.heap[b]? = some o) (hb : Below w.heap.size w w') : w'.heap[b]? = some o := by
  rw [hb.block b (Array.getElem?_eq_some_iff.1 h).1]; exact h
theorem new_2 (w : World) (o1 o2 : Obj) : ((w.alloc o1).alloc o2).heap[w.heap.size + 1]? = some o2 := by
  have := heap_alloc_new (w.alloc o1) o2
  rw [show (w.alloc o1).heap.size = w.heap.size + 1 by simp] at this
  exact this
theorem new_3 (w : World) (o1 o2 o3 : Obj) : (((w.alloc o1).alloc o2).alloc o3).heap[w.heap.size + 1 + 1]? = some o3 := by
  have := heap_alloc_new ((w.alloc o1).alloc o2) o3
  rw [show ((w.alloc o1).alloc o2).heap.size = w.heap.size + 1 + 1 by simp] at this
  exact this
theorem k_res2 {w W : World} {B b : Nat} {k : K4} (hb : Below B w W) (hB : B ≤ b) (h : W.heap[b]? = some (kO k)) (d : K4) :
    ∃ W', ((((W.setCell ⟨b, 0, none⟩ (.int .u32 (d.1 : Int))).setCell ⟨b, 1, none⟩ (.int .u32 (d.2.1 : Int))).setCell ⟨b, 2, none⟩ (.int .u32 (d.2.2.1 : Int))).setCell ⟨b, 3, none⟩ (.int .u32 (d.2.2.2 : Int))) = W' ∧ Below B w W' ∧ W'.heap[b]? = some (kO d) :=
  ⟨_, rfl, (((hb.setCell (p := ⟨b, 0, none⟩) hB _).setCell (p := ⟨b, 1, none⟩) hB _).setCell (p := ⟨b, 2, none⟩) hB _).setCell (p := ⟨b, 3, none⟩) hB _, KAt.put h d⟩
theorem of_sqk {w : World} {sb g tb cap most : Nat} {N : List Nd} (h : St w sb g tb cap most N) {n x : Nat} (hx : Sq N (n + 1) x) :
    Calls Try.prog 22 #[.pointer (some ⟨sb, 0, none⟩), .int .u32 (x : Int)] w fun e w' => e = .returned (.tuple #[.agg #[.int .u32 ((kidZ N x).1 : Int), .int .u32 ((kidZ N x).2.1 : Int), .int .u32 ((kidZ N x).2.2.1 : Int), .int .u32 ((kidZ N x).2.2.2 : Int)], .bool true]) ∧ Below w.heap.size w w' := of_sq h hx
end Go.Proofs.Ytgciceogggldhaa
