/- Package evolve: New, Known, Forget, prune, later: contracts. -/
import Derived.Test.YtaapkngpnlnjeaaGreatDoorMe
namespace Go.Proofs.YtaapkngpnlnjeaaGreatDoor
open Go.RowKit Go.Maps
set_option maxRecDepth 100000

theorem enew_any {w : World} {sb g tb cap most : Nat} {N : List Nd} (h : St w sb g tb cap most N) :
    Calls Tryz.prog 10 #[.pointer (some ⟨sb, 0, none⟩)] w fun e w' => ∃ mb, e = .returned (.pointer (some ⟨mb, 0, none⟩)) ∧ w.heap.size ≤ mb ∧ Me w' sb g tb most N mb FbT.no (fun _ => none) ∧ Below w.heap.size w w' := by
  have HS := Lib.hid h
  clear h
  go_enter Tryz.func10, Tryz.ntmps10
  go_wp2_with fail
  go_ret
  have hb := bel1 w (.cells #[.pointer (some ⟨sb, 0, none⟩), .map none, .slice none 0 0, .int .i64 0, .map none] 78)
  obtain ⟨l1, l2, l3⟩ := HS.out.lt
  exact ⟨w.heap.size, rfl, Nat.le_refl _, ⟨⟨cap, HS.out.later hb⟩, ⟨_, _, heap_alloc_new w _, [], ⟨rfl, Or.inl ⟨rfl, rfl⟩⟩, rfl, Nat.zero_le _, fun j s hs => by simp at hs⟩, Or.inl ⟨rfl, fun _ => rfl⟩, (fun a v hv => by cases hv), ⟨by omega, by omega, by omega⟩, (fun b hb => absurd hb no_bl)⟩, hb⟩
theorem enext_nil (x : Nat) (p : Int) (w : World) : Calls Tryz.prog 67 #[.pointer none, .int .u32 (x : Int), .int .i64 p] w fun e w' => e = .returned (.tuple #[.int .u32 0, .iface 48 (.int .i64 1)]) ∧ w = w' := by
  go_enter Tryz.func67, Tryz.ntmps67
  go_wp2
  go_ret2
  exact ⟨rfl, rfl⟩
theorem later_any (mb p : Nat) (w : World) : Calls Tryz.prog 92 #[.pointer (some ⟨mb, 0, none⟩), .int .i64 (p : Int)] w fun e w' => ∃ a b, e = .returned (.func (.func 101) #[] #[.pointer (some ⟨a, 0, none⟩), .pointer (some ⟨b, 0, none⟩)]) ∧
    w.heap.size ≤ a ∧ w.heap.size ≤ b ∧ w'.heap[a]? = some (.cells #[.pointer (some ⟨mb, 0, none⟩)] 42 (0, 0)) ∧ w'.heap[b]? = some (.cells #[.int .i64 (p : Int)] 3 (0, 0)) ∧ Below w.heap.size w w' := by
  have hmf : ∀ (fn : Fn) (first cap : Array Value) (w : World), (Instr.makeFunc fn first cap).run Tryz.prog w = .ok (.func fn first cap) w := fun _ _ _ _ => rfl
  go_enter Tryz.func92, Tryz.ntmps92
  go_wp2_with fail
  go_ret
  refine ⟨w.heap.size, w.heap.size + 1, rfl, Nat.le_refl _, by omega, kept (heap_alloc_new w _) (bel1 _ _), ?_, bel2 w _ _⟩
  have := heap_alloc_new (w.alloc (.cells #[.pointer (some ⟨mb, 0, none⟩)] 42)) (.cells #[.int .i64 (p : Int)] 3)
  simpa using this
end Go.Proofs.YtaapkngpnlnjeaaGreatDoor
