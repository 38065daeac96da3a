/- The law QuadNone: its walk. -/
import Derived.Test.YtfkjfkjhipieaaaLv7
import Derived.Test.YtfkjfkjhipieaaaQn
import Derived.Test.YtfkjfkjhipieaaaFis
namespace Go.Proofs.Ytfkjfkjhipieaaa
open Go.RowKit Go.Maps
set_option maxRecDepth 100000

theorem cell_n0 (w : World) (v : Value) (t : TypeId) : (w.alloc (.cells #[v] t)).cell? ⟨w.heap.size, 0, none⟩ = some v := by simp
theorem cell_n1 (w : World) (o : Obj) (v : Value) (t : TypeId) : ((w.alloc o).alloc (.cells #[v] t)).cell? ⟨w.heap.size + 1, 0, none⟩ = some v := by
  have := cell_n0 (w.alloc o) v t
  rw [show (w.alloc o).heap.size = w.heap.size + 1 by simp] at this
  exact this
set_option maxHeartbeats 4000000 in
theorem qnone_any (a b : Int) (w : World) : Calls Try.prog 6 #[.agg #[.int .i64 a, .int .i64 b]] w fun e w' => e = .returned (.bool true) ∧ Below w.heap.size w w' := by
  have HB := Lib.hid (bel1 w (.cells #[.int .i64 a, .int .i64 b] 40))
  have HQ : Hid ((w.alloc (.cells #[.int .i64 a, .int .i64 b] 40)).heap[w.heap.size]? = some (ptO a b)) := heap_alloc_new _ _
  go_enter Try.func6, Try.ntmps6
  go_wp2_with fail
  generalize w.alloc (.cells #[.int .i64 a, .int .i64 b] 40) = W0 at *
  refine (lives7_any _).mono ?_
  rintro e W1 ⟨rfl, hb⟩
  have hb1 := hb.trans ((bel1 W1 (.cells #[.pointer none, .int .u32 0] 32)).mono hb.size)
  have HB1 := Lib.hid (HB.out.trans (hb1.mono HB.out.size))
  have HQ1 := Lib.hid (keptN HQ.out hb1)
  have HP1 : Hid ((W1.alloc (.cells #[.pointer none, .int .u32 0] 32)).heap[W1.heap.size]? = some noO) := heap_alloc_new _ _
  clear hb hb1 HB HQ
  go_wp2_with fail
  generalize W1.alloc (.cells #[.pointer none, .int .u32 0] 32) = W2 at *
  generalize W1.heap.size = pb at *
  refine (qnew_nil _).mono ?_
  rintro e W3 ⟨rfl, hb⟩
  have hb3 := hb.trans ((bel1 W3 (.cells #[.pointer none, .int .u32 0] 32)).mono hb.size)
  have HB3 := Lib.hid (HB1.out.trans (hb3.mono HB1.out.size))
  have HQ3 := Lib.hid (keptN HQ1.out hb3)
  have HP3 := Lib.hid (keptN HP1.out hb3)
  clear hb hb3 HB1 HQ1 HP1 W1
  obtain ⟨p0, p1, _⟩ := no_cells HP3.out
  go_wp2_with fail
  generalize W3.alloc (.cells #[.pointer none, .int .u32 0] 32) = W4 at *
  refine (expand_nil _).mono ?_
  rintro e W5 ⟨rfl, hb⟩
  have hb3 := hb.trans ((bel1 W5 (.cells #[.pointer none, .int .u32 0] 32)).mono hb.size)
  have HB5 := Lib.hid (HB3.out.trans (hb3.mono HB3.out.size))
  have HQ5 := Lib.hid (keptN HQ3.out hb3)
  have HP5 := Lib.hid (keptN HP3.out hb3)
  clear hb hb3 HB3 HQ3 HP3 p0 p1
  obtain ⟨p0, p1, _⟩ := no_cells HP5.out
  go_wp2_with fail
  generalize W5.alloc (.cells #[.pointer none, .int .u32 0] 32) = W6 at *
  refine (trim_nil _).mono ?_
  rintro e W7 ⟨rfl, hb⟩
  have hb3 := hb.trans ((bel1 W7 (.cells #[.pointer none, .int .u32 0] 32)).mono hb.size)
  have HB7 := Lib.hid (HB5.out.trans (hb3.mono HB5.out.size))
  have HQ7 := Lib.hid (keptN HQ5.out hb3)
  have HP7 := Lib.hid (keptN HP5.out hb3)
  clear hb hb3 HB5 HQ5 HP5 p0 p1
  obtain ⟨p0, p1, _⟩ := no_cells HP7.out
  obtain ⟨q0, q1⟩ := pt_cells HQ7.out
  go_wp2_with fail
  generalize W7.alloc (.cells #[.pointer none, .int .u32 0] 32) = W8 at *
  refine (reach_nil a b _).mono ?_
  rintro e W9 ⟨rfl, hb⟩
  have hb3 := hb.trans ((bel1 W9 (.cells #[.pointer none, .int .u32 0] 32)).mono hb.size)
  have HB9 := Lib.hid (HB7.out.trans (hb3.mono HB7.out.size))
  have HQ9 := Lib.hid (keptN HQ7.out hb3)
  have HP9 := Lib.hid (keptN HP7.out hb3)
  clear hb hb3 HB7 HQ7 HP7 p0 p1 q0 q1
  obtain ⟨p0, p1, _⟩ := no_cells HP9.out
  obtain ⟨q0, q1⟩ := pt_cells HQ9.out
  go_wp2_with fail
  generalize W9.alloc (.cells #[.pointer none, .int .u32 0] 32) = W10 at *
  refine (set_nil a b true _).mono ?_
  rintro e W11 ⟨rfl, hb⟩
  have hb3 := hb.trans ((bel1 W11 (.cells #[.pointer none, .int .u32 0] 32)).mono hb.size)
  have HBA := Lib.hid (HB9.out.trans (hb3.mono HB9.out.size))
  have HQA := Lib.hid (keptN HQ9.out hb3)
  have HPA := Lib.hid (keptN HP9.out hb3)
  clear hb hb3 HB9 HQ9 HP9 p0 p1 q0 q1
  go_wp2_with fail
  generalize W11.alloc (.cells #[.pointer none, .int .u32 0] 32) = W12 at *
  refine (centre_nil 0 (by omega) _).mono ?_
  rintro e W13 ⟨rfl, hb⟩
  have hb3 := hb.trans ((bel1 W13 (.cells #[.int .u32 0, .int .u32 0, .int .u32 0, .int .u32 0] 56)).mono hb.size)
  have HBB := Lib.hid (HBA.out.trans (hb3.mono HBA.out.size))
  have HQB := Lib.hid (keptN HQA.out hb3)
  have HPB := Lib.hid (keptN HPA.out hb3)
  clear hb hb3 HBA HQA HPA
  go_wp2_with fail
  refine (fis_one 1 (by omega) _ _ _ (cell_n1 _ _ _ _)).mono ?_
  rintro e V1 ⟨rfl, hV⟩
  have hb : Below _ _ V1 := hV ▸ bel1 (W13.alloc (.cells #[.int .u32 0, .int .u32 0, .int .u32 0, .int .u32 0] 56)) (.cells #[.int .i64 1] 63)
  have HC1 := Lib.hid (HBB.out.trans (hb.mono HBB.out.size))
  have HQ1 := Lib.hid (keptN HQB.out hb)
  have HP1 := Lib.hid (keptN HPB.out hb)
  clear hb hV HBB HQB HPB
  go_wp2_with fail
  refine (fis_one 1 (by omega) _ _ _ (cell_n0 _ _ _)).mono ?_
  rintro e V2 ⟨rfl, hV⟩
  have hb : Below _ _ V2 := hV ▸ bel1 V1 (.cells #[.int .i64 1] 63)
  have HC2 := Lib.hid (HC1.out.trans (hb.mono HC1.out.size))
  have HQ2 := Lib.hid (keptN HQ1.out hb)
  have HP2 := Lib.hid (keptN HP1.out hb)
  clear hb hV HC1 HQ1 HP1
  go_wp2_with fail
  refine (fis_one 1 (by omega) _ _ _ (cell_n0 _ _ _)).mono ?_
  rintro e V3 ⟨rfl, hV⟩
  have hb : Below _ _ V3 := hV ▸ bel1 V2 (.cells #[.int .i64 1] 63)
  have HC3 := Lib.hid (HC2.out.trans (hb.mono HC2.out.size))
  have HQ3 := Lib.hid (keptN HQ2.out hb)
  have HP3 := Lib.hid (keptN HP2.out hb)
  clear hb hV HC2 HQ2 HP2
  go_wp2_with fail
  refine (fis_one 1 (by omega) _ _ _ (cell_n0 _ _ _)).mono ?_
  rintro e V4 ⟨rfl, hV⟩
  have hb : Below _ _ V4 := hV ▸ bel1 V3 (.cells #[.int .i64 1] 63)
  have HC4 := Lib.hid (HC3.out.trans (hb.mono HC3.out.size))
  have HQ4 := Lib.hid (keptN HQ3.out hb)
  have HP4 := Lib.hid (keptN HP3.out hb)
  clear hb hV HC3 HQ3 HP3
  go_wp2_with fail
  refine (fis_one 1 (by omega) _ _ _ (cell_n0 _ _ _)).mono ?_
  rintro e V5 ⟨rfl, hV⟩
  have hb : Below _ _ V5 := hV ▸ bel1 V4 (.cells #[.int .i64 1] 63)
  have HC5 := Lib.hid (HC4.out.trans (hb.mono HC4.out.size))
  have HQ5 := Lib.hid (keptN HQ4.out hb)
  have HP5 := Lib.hid (keptN HP4.out hb)
  clear hb hV HC4 HQ4 HP4
  obtain ⟨p0, p1, _⟩ := no_cells HP5.out
  obtain ⟨q0, q1⟩ := pt_cells HQ5.out
  go_wp2_with fail
  refine (get_nil a b _).mono ?_
  rintro e V6 ⟨rfl, hb⟩
  have HC6 := Lib.hid (HC5.out.trans (hb.mono HC5.out.size))
  clear hb
  go_wp2_with fail
  go_ret
  exact ⟨rfl, HC6.out⟩

theorem qnone_walk (x y : Int) (w : World) : Calls Try.prog 6 #[.agg #[.int .i64 x, .int .i64 y]] w fun e w' => e = .returned (.bool true) ∧ Below w.heap.size w w' := qnone_any x y w
end Go.Proofs.Ytfkjfkjhipieaaa
