/- The laws' example of layer 5: contract; slices.Clone at points. -/
import Derived.Test.YtjndfdhjipfijaaGreatDoorSm5
namespace Go.Proofs.YtjndfdhjipfijaaGreatDoor
open Go.RowKit

theorem lives_text : headL 3 1 ++ 10 :: [51, 111, 33] = [120, 32, 61, 32, 51, 44, 32, 121, 32, 61, 32, 49, 44, 32, 114, 117, 108, 101, 32, 61, 32, 66, 51, 47, 83, 50, 51, 10, 51, 111, 33] := by
  simp [headL, Lib.decDigits]
theorem lives_runs (i : Nat) : runsP 3 1 [51, 111, 33] i ⟨0, 0, 0, []⟩ = ([(0, 0), (1, 0), (2, 0)], 0, 0) := by
  rfl
set_option maxRecDepth 100000 in
set_option maxHeartbeats 1000000 in
theorem lives5_any (w : World) :
    Calls Tryz.prog 4 #[] w fun e w' => e = .returned (.bool true) ∧ Below w.heap.size w w' := by
  have H0 := Lib.hid (fun w => parse_any 3 1 [51, 111, 33] [(0, 0), (1, 0), (2, 0)] 0 w (by decide) (by decide) (by rw [lives_text]; decide) (lives_runs _))
  rw [lives_text] at H0
  go_enter Tryz.func4, Tryz.ntmps4
  go_wp2_with fail
  refine (H0.out _).mono ?_
  rintro e w1 ⟨⟨v, rfl, a, cap, rfl, h1, h2, hp⟩, hb⟩
  obtain ⟨bk, off, rfl, hlt, x2, y2⟩ := hp 2 (2, 0) rfl
  have X2 : w1.cell? ⟨bk, off + 4, none⟩ = some (.int .i64 2) := x2
  have Y2 : w1.cell? ⟨bk, off + 4 + 1, none⟩ = some (.int .i64 0) := y2
  have HB := Lib.hid hb
  clear hb hp x2 y2
  go_wp2_with fail
  go_ret
  exact ⟨rfl, by have := HB.out; have := HB.out.size; go_grown <;> assumption⟩
end Go.Proofs.YtjndfdhjipfijaaGreatDoor
