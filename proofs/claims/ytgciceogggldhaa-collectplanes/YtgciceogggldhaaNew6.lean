/- Package store: New, Make: contracts. -/
import Derived.Test.YtgciceogggldhaaMk6
import Derived.Deep.RegionWith
namespace Go.Proofs.Ytgciceogggldhaa
open Go.RowKit Go.Maps
set_option maxRecDepth 100000

theorem new_bad (most : Int) (h : most < 2 ∨ 1048576 < most) (w : World) :
    Calls Try.prog 17 #[.int .i64 most] w fun e w' => e = .returned (.tuple #[.pointer none, .iface 53 (.int .i64 1)]) ∧ w = w' := by
  by_cases h0 : most < 2
  · have g0 : decide (most < 2) = true := by simpa using h0
    go_enter Try.func17, Try.ntmps17
    go_wp2
    go_ret2
    exact ⟨rfl, rfl⟩
  · have g0 : decide (most < 2) = false := by simpa using h0
    have g1 : decide (1048576 < most) = true := by simp; omega
    go_enter Try.func17, Try.ntmps17
    go_wp2
    go_ret2
    exact ⟨rfl, rfl⟩
def newW (w : World) (most : Nat) : World := ((w.alloc (.cells #[.int .u32 0, .int .u32 0, .int .u32 0, .int .u32 0, .int .i64 0, .int .u64 0, .int .u32 0, .int .u32 0, .int .u32 0, .int .u32 0, .int .i64 0, .int .u64 1] 76)).alloc (.map #[] 0)).alloc (.cells #[.int .i64 (most : Int), .slice (some ⟨w.heap.size, 0, none⟩) 2 2, .map (some (w.heap.size + 1))] 66)
theorem new_st (w : World) (most : Nat) (h0 : 2 ≤ most) (h1 : most ≤ 1048576) : St (newW w most) (w.heap.size + 1 + 1) w.heap.size (w.heap.size + 1) 2 most N0 ∧ Below w.heap.size w (newW w most) := by
  unfold newW
  generalize hc : (.cells #[.int .u32 0, .int .u32 0, .int .u32 0, .int .u32 0, .int .i64 0, .int .u64 0, .int .u32 0, .int .u32 0, .int .u32 0, .int .u32 0, .int .i64 0, .int .u64 1] 76 : Obj) = o1
  have e1 : (w.alloc o1).heap.size = w.heap.size + 1 := by simp
  have e2 : ((w.alloc o1).alloc (.map #[] 0)).heap.size = w.heap.size + 1 + 1 := by simp
  have b3 := bel1 ((w.alloc o1).alloc (.map #[] 0)) (.cells #[.int .i64 (most : Int), .slice (some ⟨w.heap.size, 0, none⟩) 2 2, .map (some (w.heap.size + 1))] 66)
  have b2 := bel1 (w.alloc o1) (.map #[] 0)
  have b1 := bel1 w o1
  refine ⟨⟨?_, ⟨rfl, Or.inr ⟨w.heap.size, 2, #[.int .u32 0, .int .u32 0, .int .u32 0, .int .u32 0, .int .i64 0, .int .u64 0, .int .u32 0, .int .u32 0, .int .u32 0, .int .u32 0, .int .i64 0, .int .u64 1], rfl, Nat.zero_le _, ?_, Nat.le_refl _, by unfold maxLen; omega, rfl, rfl⟩⟩, ?_, wf_new, h0, h1, by omega⟩, (b1.trans (b2.mono (by omega))).trans (b3.mono (by omega))⟩
  · have := heap_alloc_new ((w.alloc o1).alloc (.map #[] 0)) (.cells #[.int .i64 (most : Int), .slice (some ⟨w.heap.size, 0, none⟩) 2 2, .map (some (w.heap.size + 1))] 66)
    rw [e2] at this
    exact this
  · rw [b3.block w.heap.size (by omega), b2.block w.heap.size (by omega), heap_alloc_new, ← hc]
  · have := kmap_new (w.alloc o1)
    rw [e1] at this
    exact this.blk (b3.block _ (by omega))
set_option maxHeartbeats 1000000 in
theorem new_good (most : Nat) (h0 : 2 ≤ most) (h1 : most ≤ 1048576) (w : World) :
    Calls Try.prog 17 #[.int .i64 (most : Int)] w fun e w' => ∃ sb g tb, e = .returned (.tuple #[.pointer (some ⟨sb, 0, none⟩), .nilIface]) ∧ St w' sb g tb 2 most N0 ∧ Below w.heap.size w w' ∧ w.heap.size ≤ sb ∧ w.heap.size ≤ g ∧ w.heap.size ≤ tb := by
  have g0 : decide ((most : Int) < 2) = false := by simp; omega
  have g1 : decide ((1048576 : Int) < (most : Int)) = false := by simp; omega
  have hmm := @run_makeMap Try.prog
  go_enter Try.func17, Try.ntmps17
  go_wp2_with fail
  go_ret2
  obtain ⟨s1, s2⟩ := new_st w most h0 h1
  exact ⟨_, _, _, rfl, s1, s2, by omega, by omega, by omega⟩
end Go.Proofs.Ytgciceogggldhaa
