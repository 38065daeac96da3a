/- Package clock: near, Step: contracts. -/
import Derived.Test.YtaapkngpnlnjeaaGreatDoorLa11
import Derived.LaidEqlPtr
namespace Go.Proofs.YtaapkngpnlnjeaaGreatDoor
open Go.RowKit Go.Maps Go.Shelf
set_option maxRecDepth 100000

def tmO (sb x : Nat) (gen : Int) : Obj := .cells #[.pointer (some ⟨sb, 0, none⟩), .int .u32 (x : Int), .int .u64 gen] 37 (0, 0)
theorem tm_cells {w : World} {b sb x : Nat} {gen : Int} (h : w.heap[b]? = some (tmO sb x gen)) : w.cell? ⟨b, 0, none⟩ = some (.pointer (some ⟨sb, 0, none⟩)) ∧ w.cell? ⟨b, 1, none⟩ = some (.int .u32 (x : Int)) ∧ w.cell? ⟨b, 2, none⟩ = some (.int .u64 gen) :=
  ⟨by rw [Lib.cell_of_heap h]; rfl, by rw [Lib.cell_of_heap h]; rfl, by rw [Lib.cell_of_heap h]; rfl⟩
set_option maxHeartbeats 1000000 in
/-- All points of a small enough plane are near. -/
theorem near_low {w : World} {sb g tb cap most : Nat} {N : List Nd} (h : St w sb g tb cap most N) {n x : Nat} (hx : Sq N (n + 1) x) (hn : n ≤ 58) (gen : Int) :
    Calls Tryz.prog 25 #[.agg #[.pointer (some ⟨sb, 0, none⟩), .int .u32 (x : Int), .int .u64 gen]] w fun e w' => e = .returned (.bool true) ∧ Below w.heap.size w w' := by
  have HB := Lib.hid (bel1 w (.cells #[.pointer (some ⟨sb, 0, none⟩), .int .u32 (x : Int), .int .u64 gen] 37))
  have hb0 : (w.alloc (.cells #[.pointer (some ⟨sb, 0, none⟩), .int .u32 (x : Int), .int .u64 gen] 37)).heap[w.heap.size]? = some (tmO sb x gen) := heap_alloc_new w _
  obtain ⟨t0, t1, t2⟩ := tm_cells hb0
  have HLV := Lib.hid (level_any (h.later HB.out) x (Sq.u32 h hx))
  rw [show lvZ N x = (n : Int) + 1 from hx] at HLV
  have hg : decide ((n : Int) + 1 ≤ 59) = true := decide_eq_true (by omega)
  clear h hx hb0
  go_enter Tryz.func25, Tryz.ntmps25
  go_wp2_with fail
  generalize w.alloc (.cells #[.pointer (some ⟨sb, 0, none⟩), .int .u32 (x : Int), .int .u64 gen] 37) = W0 at *
  refine HLV.out.mono ?_
  rintro e w1 ⟨rfl, rfl⟩
  go_wp2_with fail
  go_ret
  exact ⟨rfl, HB.out⟩
theorem Tryz.infoSt11 : (Tryz.prog.info? 69).isSome = true := by kernel_rfl
theorem eqIn11 (sb d : Nat) (w : World) : (Op.equalIn (d + 1) 26 (.pointer (some ⟨sb, 0, none⟩)) (.pointer (some ⟨sb, 0, none⟩))).run Tryz.prog w = .ok true w := by
  obtain ⟨j, hj⟩ := Option.isSome_iff_exists.1 Tryz.infoSt11
  simp [Op.equalIn, run_underlying Tryz.underlying26, sizeOf, typeInfo, hj, run_sameAddr_same]
theorem neSt11 (sb : Nat) (w : World) : (binOp .neq 26 (.pointer (some ⟨sb, 0, none⟩)) (.pointer (some ⟨sb, 0, none⟩))).run Tryz.prog w = .ok (.bool false) w := by
  have h := eqIn11 sb 9999 w
  simp only [Nat.reduceAdd] at h
  simp only [binOp, Op.equal, Op.maxDepth, Sem.run_bind, h, Result.andThen_ok]
  rfl
theorem tm_ret11 {fn : Func} {tmps : Array Value} {w : World} {i j b : Nat} {p v z u : Value} (hr : fn.results = #[.cell i 37, .tmp j]) (ha : tmps.getD i undef = .pointer (some ⟨b, 0, none⟩)) (hj : tmps.getD j undef = u) (h : w.heap[b]? = some (.cells #[p, v, z] 37 (0, 0))) : (results fn tmps).run Tryz.prog w = .ok (.tuple #[.agg #[p, v, z], u]) w :=
  res_cell11 hr ha hj (run_loadVar_row w b 37 37 _ (0, 0) _ h Tryz.underlying37 rfl (by as_aux_lemma => kernel_rfl))
end Go.Proofs.YtaapkngpnlnjeaaGreatDoor
