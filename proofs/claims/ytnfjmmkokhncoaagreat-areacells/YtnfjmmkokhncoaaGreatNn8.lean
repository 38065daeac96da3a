/- Package area: without a plane; the laws' rect, plane: contracts. -/
import Derived.Test.YtnfjmmkokhncoaaGreatM14
namespace Go.Proofs.YtnfjmmkokhncoaaGreat
open Go.RowKit Go.Maps
set_option maxRecDepth 100000

theorem nx_bel8 {w w' : World} {sb tb most g g' c B : Nat} {N N' : List Nd} (h : Nx sb tb most w g N c w' g' N') (h1 : B ≤ sb) (h2 : B ≤ g) (h3 : B ≤ tb) (h4 : B ≤ w.heap.size) : Below B w w' ∧ B ≤ g' := by
  refine ⟨h.frm.below (fun b hb => ?_) h4, ?_⟩
  · simp only [List.mem_cons, List.not_mem_nil, or_false] at hb
    omega
  · rcases h.gin with e | e <;> omega
theorem nx_len8 {w w' : World} {sb tb most g g' c : Nat} {N N' : List Nd} (h : Nx sb tb most w g N c w' g' N') : N'.length ≤ N.length + c := by
  obtain ⟨E, rfl, hE⟩ := h.ext
  rw [List.length_append]; omega
set_option maxHeartbeats 2000000 in
theorem rect8_any (x y p q : Int) (h1 : I64 (x + p)) (h2 : I64 (y + q)) (w : World) : Calls Tryz.prog 8 #[.agg #[.int .i64 x, .int .i64 y], .int .i64 p, .int .i64 q] w fun e w' => e = .returned (.agg #[.int .i64 x, .int .i64 y, .int .i64 (x + p), .int .i64 (y + q)]) ∧ Below w.heap.size w w' := by
  have e1 : wrap64 (x + p) = x + p := IntWalk.wrap64_in _ (by unfold I64 at h1; omega)
  have e2 : wrap64 (y + q) = y + q := IntWalk.wrap64_in _ (by unfold I64 at h2; omega)
  have e3 : IntKind.i64.wrap (x + p) = x + p := IntWalk.i64_in _ (by unfold I64 at h1; omega)
  have e4 : IntKind.i64.wrap (y + q) = y + q := IntWalk.i64_in _ (by unfold I64 at h2; omega)
  clear h1 h2
  go_enter Tryz.func8, Tryz.ntmps8
  go_wp2_with fail
  refine bodyPost_ret (rc_ret (i := 6) (b := w.heap.size + 1) (q := ⟨x, y, x + p, y + q⟩) rfl rfl (new_2 w _ _)) rfl ?_
  exact ⟨rfl, bel2 w _ _⟩
theorem pl_ret {fn : Func} {tmps : Array Value} {w : World} {i b : Nat} {p v : Value} (hr : fn.results = #[.cell i 32]) (ha : tmps.getD i undef = .pointer (some ⟨b, 0, none⟩)) (h : w.heap[b]? = some (.cells #[p, v] 32 (0, 0))) : (results fn tmps).run Tryz.prog w = .ok (.agg #[p, v]) w :=
  res_cell hr ha (run_loadVar_row w b 32 32 _ (0, 0) _ h Tryz.underlying32 rfl (by as_aux_lemma => kernel_rfl))
theorem pl_ret2 {fn : Func} {tmps : Array Value} {w : World} {i j b : Nat} {p v u : Value} (hr : fn.results = #[.cell i 32, .tmp j]) (ha : tmps.getD i undef = .pointer (some ⟨b, 0, none⟩)) (hj : tmps.getD j undef = u) (h : w.heap[b]? = some (.cells #[p, v] 32 (0, 0))) : (results fn tmps).run Tryz.prog w = .ok (.tuple #[.agg #[p, v], u]) w :=
  res_cell2 hr ha hj (run_loadVar_row w b 32 32 _ (0, 0) _ h Tryz.underlying32 rfl (by as_aux_lemma => kernel_rfl))
theorem st_set8 {w : World} {sb g tb cap most b i : Nat} {N : List Nd} (h : St w sb g tb cap most N) (h1 : b ≠ sb) (h2 : b ≠ g) (h3 : b ≠ tb) (v : Value) : St (w.setCell ⟨b, i, none⟩ v) sb g tb cap most N :=
  h.keep (Below.heap_setCell _ _ _ _ (Ne.symm h1)) (Below.heap_setCell _ _ _ _ (Ne.symm h2)) (Below.heap_setCell _ _ _ _ (Ne.symm h3))
set_option maxHeartbeats 4000000 in
theorem plane8_any (w : World) : Calls Tryz.prog 6 #[] w fun e w' => ∃ (sb g tb cap x : Nat) (N : List Nd), e = .returned (.agg #[.pointer (some ⟨sb, 0, none⟩), .int .u32 (x : Int)]) ∧ St w' sb g tb cap 131072 N ∧ Em N 3 x ∧ N.length ≤ 5 ∧ Below w.heap.size w w' ∧ w.heap.size ≤ sb ∧ w.heap.size ≤ g ∧ w.heap.size ≤ tb := by
  have HB := Lib.hid (bel1 w (.cells #[.pointer none, .int .u32 0] 32))
  have hz : (w.alloc (.cells #[.pointer none, .int .u32 0] 32)).heap[w.heap.size]? = some zeO8 := heap_alloc_new w _
  have HZ := Lib.hid hz
  clear hz
  go_enter Tryz.func6, Tryz.ntmps6
  go_wp2_with fail
  generalize w.alloc (.cells #[.pointer none, .int .u32 0] 32) = W0 at *
  refine (new_good 131072 (by omega) (by omega) _).mono ?_
  rintro e W1 ⟨sb, g, tb, rfl, hS, hB, l1, l2, l3⟩
  have HS := Lib.hid hS
  have HB1 := Lib.hid (HB.out.trans (hB.mono HB.out.size))
  have HZ1 := Lib.hid (keep8 HZ.out hB)
  have HL : Hid (w.heap.size < sb ∧ w.heap.size < g ∧ w.heap.size < tb) := by
    show _ ∧ _
    have := (Array.getElem?_eq_some_iff.1 HZ.out).1
    omega
  clear hS hB HB HZ l1 l2 l3
  go_wp2_with fail
  refine (qnew_any HS.out).mono ?_
  rintro e W2 ⟨g2, N2, hnx, hres⟩
  have hlen := nx_len8 hnx
  simp only [N0, List.length_cons, List.length_nil] at hlen
  obtain ⟨hb2, l4⟩ := nx_bel8 (B := w.heap.size + 1) hnx HL.out.1 HL.out.2.1 HL.out.2.2 (by have := (Array.getElem?_eq_some_iff.1 HZ1.out).1; omega)
  have HB2 := Lib.hid (HB1.out.trans (hb2.mono (Nat.le_succ _)))
  have HZ2 : Hid (W2.heap[w.heap.size]? = some zeO8) := by
    show _ = _
    rw [hb2.block _ (Nat.lt_succ_self _)]; exact HZ1.out
  obtain ⟨cap2, hS2⟩ := hnx.st
  have HS2 := Lib.hid hS2
  clear hnx hb2 hS2 HB1 HZ1 HS
  unfold plV at hres
  rcases hres with ⟨r, rfl, hem, _⟩ | ⟨rfl, hfull⟩
  · have HEM := Lib.hid hem
    clear hem
    have HB3 := Lib.hid (bel1 W2 (.cells #[.pointer (some ⟨sb, 0, none⟩), .int .u32 (r : Int)] 32))
    have HZ3 := Lib.hid (keep8 HZ2.out HB3.out)
    have hp3 : (W2.alloc (.cells #[.pointer (some ⟨sb, 0, none⟩), .int .u32 (r : Int)] 32)).heap[W2.heap.size]? = some (plO sb r) := heap_alloc_new W2 _
    obtain ⟨p0, p1⟩ := pl_cells hp3
    obtain ⟨z0, z1, f0, f1⟩ := res_cells HZ3.out
    clear hp3
    go_wp2_with fail
    have HS3 := HS2.out.later HB3.out
    have HB4 := HB2.out.trans (HB3.out.mono HB2.out.size)
    generalize W2.alloc (.cells #[.pointer (some ⟨sb, 0, none⟩), .int .u32 (r : Int)] 32) = W3 at *
    refine bodyPost_ret (pl_ret (i := 0) rfl rfl (pl_set1 (pl_set0 HZ3.out (.pointer (some ⟨sb, 0, none⟩))) (.int .u32 (r : Int)))) rfl ?_
    have hl := HL.out
    exact ⟨sb, g2, tb, cap2, r, N2, rfl, st_set8 (st_set8 HS3 (by omega) (by omega) (by omega) _) (by omega) (by omega) (by omega) _, HEM.out, by omega, (HB4.setCell (p := ⟨w.heap.size, 0, none⟩) (Nat.le_refl _) _).setCell (p := ⟨w.heap.size, 1, none⟩) (Nat.le_refl _) _, by omega, by omega, by omega⟩
  · omega
set_option maxHeartbeats 2000000 in
theorem paste_nil8 (w : World) : Calls Tryz.prog 26 #[.agg #[.pointer none, .int .u32 0], .agg #[.int .i64 0, .int .i64 0, .slice none 0 0], .agg #[.int .i64 0, .int .i64 0], .bool true] w fun e w' => e = .returned (.tuple #[.agg #[.pointer none, .int .u32 0], .iface 52 (.int .i64 1)]) ∧ Below w.heap.size w w' := by
  have HIP := Lib.hid (fun W => isPlane_nil W)
  have h4 := heap_alloc_new (((w.alloc (.cells #[.pointer none, .int .u32 0] 32)).alloc (.cells #[.int .i64 0, .int .i64 0, .slice none 0 0] 69)).alloc (.cells #[.int .i64 0, .int .i64 0] 24)) (.cells #[.pointer none, .int .u32 0] 32)
  rw [show (((w.alloc (.cells #[.pointer none, .int .u32 0] 32)).alloc (.cells #[.int .i64 0, .int .i64 0, .slice none 0 0] 69)).alloc (.cells #[.int .i64 0, .int .i64 0] 24)).heap.size = w.heap.size + 1 + 1 + 1 by simp] at h4
  have HZ := Lib.hid h4
  have hb : Below w.heap.size w ((((w.alloc (.cells #[.pointer none, .int .u32 0] 32)).alloc (.cells #[.int .i64 0, .int .i64 0, .slice none 0 0] 69)).alloc (.cells #[.int .i64 0, .int .i64 0] 24)).alloc (.cells #[.pointer none, .int .u32 0] 32)) := by go_grown
  have HB := Lib.hid hb
  clear h4 hb
  go_enter Tryz.func26, Tryz.ntmps26
  go_wp2_with fail
  refine (HIP.out _).mono ?_
  rintro e W1 ⟨rfl, hb⟩
  have HB1 := Lib.hid (HB.out.trans (hb.mono HB.out.size))
  have HZ1 := Lib.hid (keep8 HZ.out hb)
  clear hb HB HZ
  obtain ⟨z0, z1, f0, f1⟩ := res_cells HZ1.out
  go_wp2_with fail
  refine bodyPost_ret (pl_ret2 (i := 8) (j := 9) rfl rfl rfl (pl_set1 (pl_set0 HZ1.out (.pointer none)) (.int .u32 0))) rfl ?_
  exact ⟨rfl, (HB1.out.setCell (p := ⟨w.heap.size + 1 + 1 + 1, 0, none⟩) (by show _ ≤ w.heap.size + 1 + 1 + 1; omega) (.pointer none)).setCell (p := ⟨w.heap.size + 1 + 1 + 1, 1, none⟩) (by show _ ≤ w.heap.size + 1 + 1 + 1; omega) (.int .u32 0)⟩
set_option maxHeartbeats 2000000 in
theorem cells_nil8 (w : World) : Calls Tryz.prog 11 #[.agg #[.pointer none, .int .u32 0], .agg #[.int .i64 0, .int .i64 0, .int .i64 0, .int .i64 0], .int .i64 1] w fun e w' => e = .returned (.tuple #[.slice none 0 0, .iface 52 (.int .i64 1)]) ∧ Below w.heap.size w w' := by
  have HIP := Lib.hid (fun W => isPlane_nil W)
  have HB : Hid (∀ o1 o2, Below w.heap.size w ((w.alloc o1).alloc o2)) := fun o1 o2 => bel2 w o1 o2
  go_enter Tryz.func11, Tryz.ntmps11
  go_wp2_with fail
  refine (HIP.out _).mono ?_
  rintro e W1 ⟨rfl, hb⟩
  have HB1 := Lib.hid ((HB.out _ _).trans (hb.mono (HB.out _ _).size))
  clear hb HB
  go_wp2_with fail
  go_ret2
  exact ⟨rfl, HB1.out⟩
set_option maxHeartbeats 2000000 in
theorem cells_neg8 {w : World} {sb g tb cap most : Nat} {N : List Nd} (h : St w sb g tb cap most N) (x : Nat) (hx : x < 4294967296) (m : Int) (hm : m < 0) : Calls Tryz.prog 11 #[.agg #[.pointer (some ⟨sb, 0, none⟩), .int .u32 (x : Int)], .agg #[.int .i64 0, .int .i64 0, .int .i64 0, .int .i64 0], .int .i64 m] w fun e w' => e = .returned (.tuple #[.slice none 0 0, .iface 52 (.int .i64 1)]) ∧ Below w.heap.size w w' := by
  have HB := Lib.hid (bel2 w (.cells #[.pointer (some ⟨sb, 0, none⟩), .int .u32 (x : Int)] 32) (.cells #[.int .i64 0, .int .i64 0, .int .i64 0, .int .i64 0] 42))
  have HIP := Lib.hid (isPlane_any (h.later HB.out) x hx)
  have hp : ((w.alloc (.cells #[.pointer (some ⟨sb, 0, none⟩), .int .u32 (x : Int)] 32)).alloc (.cells #[.int .i64 0, .int .i64 0, .int .i64 0, .int .i64 0] 42)).heap[w.heap.size]? = some (plO sb x) := keep8 (heap_alloc_new w _) (bel1 _ _)
  obtain ⟨p0, p1⟩ := pl_cells hp
  have hd : decide (m < 0) = true := decide_eq_true hm
  clear h hp
  go_enter Tryz.func11, Tryz.ntmps11
  go_wp2_with fail
  generalize (w.alloc (.cells #[.pointer (some ⟨sb, 0, none⟩), .int .u32 (x : Int)] 32)).alloc (.cells #[.int .i64 0, .int .i64 0, .int .i64 0, .int .i64 0] 42) = W0 at *
  refine HIP.out.mono ?_
  rintro e W1 ⟨rfl, hb⟩
  have HB1 := Lib.hid (HB.out.trans (hb.mono HB.out.size))
  clear hb HB HIP
  cases decide (3 ≤ lvZ N x)
  all_goals
    go_wp2_with fail
    go_ret2
    exact ⟨rfl, HB1.out⟩
end Go.Proofs.YtnfjmmkokhncoaaGreat
