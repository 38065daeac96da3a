/- Package quad: no store, no plane: contracts. -/
import Derived.Test.YtfkjfkjhipieaaaQg
import Derived.Test.YtfkjfkjhipieaaaMake7
namespace Go.Proofs.Ytfkjfkjhipieaaa
open Go.RowKit Go.Maps
set_option maxRecDepth 100000

theorem res_set {w W : World} {b B : Nat} {p v : Value} (h : W.heap[b]? = some (.cells #[p, v] 32 (0, 0))) (hb : Below B w W) (hB : B ≤ b) (p' v' : Value) :
    ∃ W', (W.setCell ⟨b, 0, none⟩ p').setCell ⟨b, 1, none⟩ v' = W' ∧ Below B w W' ∧ W'.cell? ⟨b, 0, none⟩ = some p' ∧ W'.cell? ⟨b, 1, none⟩ = some v' := by
  have h0 : (W.setCell ⟨b, 0, none⟩ p').heap[b]? = some (.cells #[p', v] 32 (0, 0)) := by simp only [World.setCell, Array.getElem?_modify, h]; simp
  generalize hW0 : W.setCell ⟨b, 0, none⟩ p' = W0 at *
  have h1 : (W0.setCell ⟨b, 1, none⟩ v').heap[b]? = some (.cells #[p', v'] 32 (0, 0)) := by simp only [World.setCell, Array.getElem?_modify, h0]; simp
  subst hW0
  exact ⟨_, rfl, (hb.setCell (p := ⟨b, 0, none⟩) hB _).setCell (p := ⟨b, 1, none⟩) hB _, by rw [Lib.cell_of_heap h1]; rfl, by rw [Lib.cell_of_heap h1]; rfl⟩
def noP : Value := .agg #[.pointer none, .int .u32 0]
def noO : Obj := .cells #[.pointer none, .int .u32 0] 32 (0, 0)
theorem no_cells {w : World} {b : Nat} (h : w.heap[b]? = some noO) : w.cell? ⟨b, 0, none⟩ = some (.pointer none) ∧ w.cell? ⟨b, 1, none⟩ = some (.int .u32 0) ∧ w.frozen? ⟨b, 0, none⟩ = false ∧ w.frozen? ⟨b, 1, none⟩ = false :=
  ⟨by rw [Lib.cell_of_heap h]; rfl, by rw [Lib.cell_of_heap h]; rfl, Lib.frozen_of_heap h 0, Lib.frozen_of_heap h 1⟩
theorem keptN {w w' : World} {b : Nat} {o : Obj} (h : w.heap[b]? = some o) (hb : Below w.heap.size w w') : w'.heap[b]? = some o := by
  rw [hb.block b (Array.getElem?_eq_some_iff.1 h).1]; exact h
theorem right_nil (w : World) : Calls Try.prog 29 #[.agg #[.pointer none, .int .u32 0]] w fun e w' => e = .returned (.bool false) ∧ Below w.heap.size w w' := by
  have HB := Lib.hid (bel1 w (.cells #[.pointer none, .int .u32 0] 32))
  go_enter Try.func29, Try.ntmps29
  go_wp2_with fail
  refine (level_nil 0 (by omega) _).mono ?_
  rintro e W1 ⟨rfl, rfl⟩
  go_wp2
  go_ret
  exact ⟨rfl, HB.out⟩
set_option maxHeartbeats 1000000 in
theorem get_nil (a b : Int) (w : World) : Calls Try.prog 12 #[.agg #[.pointer none, .int .u32 0], .agg #[.int .i64 a, .int .i64 b]] w fun e w' => e = .returned (.bool false) ∧ Below w.heap.size w w' := by
  have HB := Lib.hid (bel2 w (.cells #[.pointer none, .int .u32 0] 32) (.cells #[.int .i64 a, .int .i64 b] 40))
  have HP : Hid (((w.alloc (.cells #[.pointer none, .int .u32 0] 32)).alloc (.cells #[.int .i64 a, .int .i64 b] 40)).heap[w.heap.size]? = some noO) := keptN (heap_alloc_new _ _) (bel1 _ _)
  go_enter Try.func12, Try.ntmps12
  go_wp2_with fail
  refine (level_nil 0 (by omega) _).mono ?_
  rintro e W1 ⟨rfl, rfl⟩
  generalize (w.alloc (.cells #[.pointer none, .int .u32 0] 32)).alloc (.cells #[.int .i64 a, .int .i64 b] 40) = W0 at *
  go_wp2_with fail
  obtain ⟨p0, p1, _⟩ := no_cells HP.out
  have hne := Up.me W0
  have HR := Lib.hid (fun z : Up W0 => Up.calls (fun W _ => right_nil W) z)
  have g0 := fun z : Up W0 => Up.cell p0 z
  have g1 := fun z : Up W0 => Up.cell p1 z
  refine region_up (by kernel_rfl) (by kernel_rfl) ?_
  repeat (go_big_quiet_step ((go_at_call 29; with_reducible exact HR.out _)))
  refine wpQuiet_nil ?_
  rintro w2 ⟨⟨W2, hW2⟩, rfl⟩
  go_wp2_with fail
  go_ret
  exact ⟨rfl, HB.out.trans (hW2.mono HB.out.size)⟩
def Bad (w : World) (e : Ending) (w' : World) : Prop := e = .returned (.tuple #[.agg #[.pointer none, .int .u32 0], .iface 63 (.int .i64 1)]) ∧ Below w.heap.size w w'
set_option maxHeartbeats 1000000 in
theorem qnew_nil (w : World) : Calls Try.prog 9 #[.pointer none] w (Bad w) := by
  have HB := Lib.hid (bel1 w (.cells #[.pointer none, .int .u32 0] 32))
  have HR : Hid ((w.alloc (.cells #[.pointer none, .int .u32 0] 32)).heap[w.heap.size]? = some noO) := heap_alloc_new _ _
  go_enter Try.func9, Try.ntmps9
  go_wp2_with fail
  generalize w.alloc (.cells #[.pointer none, .int .u32 0] 32) = W1 at *
  refine (empty_nil 3 _).mono ?_
  rintro e W2 ⟨rfl, rfl⟩
  obtain ⟨r0, r1, f0, f1⟩ := no_cells HR.out
  go_wp2_with fail
  obtain ⟨W, hW, hb, q0, q1⟩ := res_set HR.out HB.out (by omega) (.pointer none) (.int .u32 0)
  rw [hW]
  refine bodyPost_ret (v := _) (by simp [results, Try.results9, go_sem, q0, q1]; rfl) rfl ?_
  exact ⟨rfl, hb⟩
theorem new2 (w : World) (o1 o2 : Obj) : ((w.alloc o1).alloc o2).heap[w.heap.size + 1]? = some o2 := by
  have := heap_alloc_new (w.alloc o1) o2
  rw [show (w.alloc o1).heap.size = w.heap.size + 1 by simp] at this
  exact this
theorem new3 (w : World) (o1 o2 o3 : Obj) : (((w.alloc o1).alloc o2).alloc o3).heap[w.heap.size + 1 + 1]? = some o3 := by
  have := heap_alloc_new ((w.alloc o1).alloc o2) o3
  rw [show ((w.alloc o1).alloc o2).heap.size = w.heap.size + 1 + 1 by simp] at this
  exact this
set_option maxHeartbeats 1000000 in
theorem expand_nil (w : World) : Calls Try.prog 23 #[.agg #[.pointer none, .int .u32 0]] w (Bad w) := by
  have HB := Lib.hid (bel2 w (.cells #[.pointer none, .int .u32 0] 32) (.cells #[.pointer none, .int .u32 0] 32))
  have HP : Hid (((w.alloc (.cells #[.pointer none, .int .u32 0] 32)).alloc (.cells #[.pointer none, .int .u32 0] 32)).heap[w.heap.size]? = some noO) := keptN (heap_alloc_new _ _) (bel1 _ _)
  have HR : Hid (((w.alloc (.cells #[.pointer none, .int .u32 0] 32)).alloc (.cells #[.pointer none, .int .u32 0] 32)).heap[w.heap.size + 1]? = some noO) := new2 _ _ _
  go_enter Try.func23, Try.ntmps23
  go_wp2_with fail
  refine (level_nil 0 (by omega) _).mono ?_
  rintro e W1 ⟨rfl, rfl⟩
  generalize (w.alloc (.cells #[.pointer none, .int .u32 0] 32)).alloc (.cells #[.pointer none, .int .u32 0] 32) = W0 at *
  obtain ⟨p0, p1, _⟩ := no_cells HP.out
  go_wp2_with fail
  refine (right_nil _).mono ?_
  rintro e W2 ⟨rfl, hb⟩
  have HB2 := Lib.hid (HB.out.trans (hb.mono HB.out.size))
  have HR2 := Lib.hid (keptN HR.out hb)
  clear hb HB HR
  obtain ⟨r0, r1, f0, f1⟩ := no_cells HR2.out
  go_wp2_with fail
  obtain ⟨W, hW, hb, q0, q1⟩ := res_set HR2.out HB2.out (by omega) (.pointer none) (.int .u32 0)
  rw [hW]
  refine bodyPost_ret (v := _) (by simp [results, Try.results23, go_sem, q0, q1]; rfl) rfl ?_
  exact ⟨rfl, hb⟩
set_option maxHeartbeats 1000000 in
theorem trim_nil (w : World) : Calls Try.prog 24 #[.agg #[.pointer none, .int .u32 0]] w (Bad w) := by
  have HB := Lib.hid (bel2 w (.cells #[.pointer none, .int .u32 0] 32) (.cells #[.pointer none, .int .u32 0] 32))
  have HR : Hid (((w.alloc (.cells #[.pointer none, .int .u32 0] 32)).alloc (.cells #[.pointer none, .int .u32 0] 32)).heap[w.heap.size + 1]? = some noO) := new2 _ _ _
  go_enter Try.func24, Try.ntmps24
  go_wp2_with fail
  generalize (w.alloc (.cells #[.pointer none, .int .u32 0] 32)).alloc (.cells #[.pointer none, .int .u32 0] 32) = W0 at *
  refine (right_nil _).mono ?_
  rintro e W2 ⟨rfl, hb⟩
  have HB2 := Lib.hid (HB.out.trans (hb.mono HB.out.size))
  have HR2 := Lib.hid (keptN HR.out hb)
  clear hb HB HR
  obtain ⟨r0, r1, f0, f1⟩ := no_cells HR2.out
  go_wp2_with fail
  obtain ⟨W, hW, hb, q0, q1⟩ := res_set HR2.out HB2.out (by omega) (.pointer none) (.int .u32 0)
  rw [hW]
  refine bodyPost_ret (v := _) (by simp [results, Try.results24, go_sem, q0, q1]; rfl) rfl ?_
  exact ⟨rfl, hb⟩
set_option maxHeartbeats 1000000 in
theorem reach_nil (a b : Int) (w : World) : Calls Try.prog 25 #[.agg #[.pointer none, .int .u32 0], .agg #[.int .i64 a, .int .i64 b]] w (Bad w) := by
  have HB := Lib.hid (bel3 w (.cells #[.pointer none, .int .u32 0] 32) (.cells #[.int .i64 a, .int .i64 b] 40) (.cells #[.pointer none, .int .u32 0] 32))
  have HR : Hid ((((w.alloc (.cells #[.pointer none, .int .u32 0] 32)).alloc (.cells #[.int .i64 a, .int .i64 b] 40)).alloc (.cells #[.pointer none, .int .u32 0] 32)).heap[w.heap.size + 1 + 1]? = some noO) := new3 _ _ _ _
  go_enter Try.func25, Try.ntmps25
  go_wp2_with fail
  generalize ((w.alloc (.cells #[.pointer none, .int .u32 0] 32)).alloc (.cells #[.int .i64 a, .int .i64 b] 40)).alloc (.cells #[.pointer none, .int .u32 0] 32) = W0 at *
  refine (right_nil _).mono ?_
  rintro e W2 ⟨rfl, hb⟩
  have HB2 := Lib.hid (HB.out.trans (hb.mono HB.out.size))
  have HR2 := Lib.hid (keptN HR.out hb)
  clear hb HB HR
  obtain ⟨r0, r1, f0, f1⟩ := no_cells HR2.out
  go_wp2_with fail
  obtain ⟨W, hW, hb, q0, q1⟩ := res_set HR2.out HB2.out (by omega) (.pointer none) (.int .u32 0)
  rw [hW]
  refine bodyPost_ret (v := _) (by simp [results, Try.results25, go_sem, q0, q1]; rfl) rfl ?_
  exact ⟨rfl, hb⟩
set_option maxHeartbeats 1000000 in
theorem set_nil (a b : Int) (alive : Bool) (w : World) : Calls Try.prog 17 #[.agg #[.pointer none, .int .u32 0], .agg #[.int .i64 a, .int .i64 b], .bool alive] w (Bad w) := by
  have HB := Lib.hid (bel3 w (.cells #[.pointer none, .int .u32 0] 32) (.cells #[.int .i64 a, .int .i64 b] 40) (.cells #[.pointer none, .int .u32 0] 32))
  have HR : Hid ((((w.alloc (.cells #[.pointer none, .int .u32 0] 32)).alloc (.cells #[.int .i64 a, .int .i64 b] 40)).alloc (.cells #[.pointer none, .int .u32 0] 32)).heap[w.heap.size + 1 + 1]? = some noO) := new3 _ _ _ _
  go_enter Try.func17, Try.ntmps17
  go_wp2_with fail
  generalize ((w.alloc (.cells #[.pointer none, .int .u32 0] 32)).alloc (.cells #[.int .i64 a, .int .i64 b] 40)).alloc (.cells #[.pointer none, .int .u32 0] 32) = W0 at *
  refine (reach_nil a b _).mono ?_
  rintro e W2 ⟨rfl, hb⟩
  have hb2 := hb.trans ((bel1 W2 (.cells #[.pointer none, .int .u32 0] 32)).mono hb.size)
  have HB2 := Lib.hid (HB.out.trans (hb2.mono HB.out.size))
  have HR2 := Lib.hid (keptN HR.out hb2)
  clear hb hb2 HB HR
  obtain ⟨r0, r1, f0, f1⟩ := no_cells HR2.out
  go_wp2_with fail
  obtain ⟨W, hW, hb, q0, q1⟩ := res_set HR2.out HB2.out (by omega) (.pointer none) (.int .u32 0)
  rw [hW]
  refine bodyPost_ret (v := _) (by simp [results, Try.results17, go_sem, q0, q1]; rfl) rfl ?_
  exact ⟨rfl, hb⟩
end Go.Proofs.Ytfkjfkjhipieaaa
