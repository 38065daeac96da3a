/- The laws' example of layer 6; StoreArgs: the walk. -/
import Derived.Test.YtjndfdhjipfijaaDoorMake7
import Derived.Test.YtjndfdhjipfijaaDoorFis
namespace Go.Proofs.YtjndfdhjipfijaaDoor
open Go.RowKit Go.Maps
set_option maxRecDepth 100000

theorem mk_first (most : Nat) (h : 2 < most) : mkZ N0 most (0, 0, 0, 0) = (N0 ++ [⟨(0, 0, 0, 0), 1, 0⟩], 2, 0) := by
  rw [mk_add (by decide) (by decide) (by simpa [N0] using h)]
  rfl
theorem mk_second (most : Nat) : mkZ (N0 ++ [⟨(0, 0, 0, 0), 1, 0⟩]) most (0, 0, 0, 0) = (N0 ++ [⟨(0, 0, 0, 0), 1, 0⟩], 2, 0) := by
  rw [Go.Proofs.YtjndfdhjipfijaaDoor.mk_there (i := 2) (by decide) (by decide)]
theorem inK0 : InK (0, 0, 0, 0) := by unfold InK; decide
set_option maxHeartbeats 2000000 in
theorem lives6_any (w : World) : Calls Tryd.prog 4 #[] w fun e w' => e = .returned (.bool true) ∧ Below w.heap.size w w' := by
  go_enter Tryd.func4, Tryd.ntmps4
  go_wp2_with fail
  refine (new_good 9 (by omega) (by omega) _).mono ?_
  rintro e W1 ⟨sb, g, tb, rfl, hS, hB, l1, l2, l3⟩
  have HS := Lib.hid hS
  have HB := Lib.hid hB
  clear hS hB
  go_wp2_with fail
  refine (make_any HS.out (0, 0, 0, 0) inK0).mono ?_
  rw [mk_first 9 (by omega)]
  rintro e W2 ⟨g2, cap2, rfl, hS, hF, hg⟩
  have HS2 := Lib.hid hS
  have HB2 : Hid (Below w.heap.size w W2) := HB.out.trans (hF.below (by intro b hb; simp at hb; omega) HB.out.size)
  have hg2 : w.heap.size ≤ g2 := by have := HB.out.size; omega
  clear hS hF hg HS HB
  unfold errV
  go_wp2_with fail
  refine (make_any HS2.out (0, 0, 0, 0) inK0).mono ?_
  rw [mk_second 9]
  rintro e W3 ⟨g3, cap3, rfl, hS, hF, hg⟩
  have HB3 : Hid (Below w.heap.size w W3) := HB2.out.trans (hF.below (by intro b hb; simp at hb; omega) HB2.out.size)
  clear hS hF hg
  unfold errV
  go_wp2_with fail
  go_ret
  exact ⟨rfl, HB3.out⟩
end Go.Proofs.YtjndfdhjipfijaaDoor
