/- errors.As and fault.Code of a number: contracts. -/
import Derived.Test.YtjndfdhjipfijaaDoorAs
namespace Go.Proofs.YtjndfdhjipfijaaDoor
open Go.RowKit Go.Extern.Stop Go.Stop Go.Extern

theorem cell_alloc {w : World} {a : Addr} {v : Value} (o : Obj) (h : w.cell? a = some v) : (w.alloc o).cell? a = some v := by
  have hl : a.block < w.heap.size := by
    rcases Nat.lt_or_ge a.block w.heap.size with h' | h'
    · exact h'
    · simp [World.cell?, Array.getElem?_eq_none h'] at h
  rw [World.cell?_alloc_lt _ _ a hl]; exact h
theorem lt_of_cell {w : World} {a : Addr} {v : Value} (h : w.cell? a = some v) : a.block < w.heap.size := by
  rcases Nat.lt_or_ge a.block w.heap.size with h' | h'
  · exact h'
  · simp [World.cell?, Array.getElem?_eq_none h'] at h
theorem frozen_alloc {w : World} {a : Addr} {v : Value} (o : Obj) (h : w.cell? a = some v) (hf : w.frozen? a = false) : (w.alloc o).frozen? a = false := by
  rw [World.frozen?_alloc_old _ _ a (Nat.ne_of_lt (lt_of_cell h))]; exact hf
theorem below_setBoth {n : Nat} {w w' : World} (h : Below n w w') (t : Addr) (u : Value) : Below n (w.setCell t u) (w'.setCell t u) := by
  refine ⟨h.os, h.tape, h.output, by simpa [World.setCell] using h.size, fun k hk => ?_⟩
  have hb := h.block k hk
  by_cases e : t.block = k
  · subst e; simp [World.setCell, Array.getElem?_modify, hb]
  · rw [Below.heap_setCell _ _ _ _ (by omega), Below.heap_setCell _ _ _ _ (by omega)]; exact hb
theorem below_alloc (w : World) (o : Obj) : Below w.heap.size w (w.alloc o) := (Below.refl _ _).alloc (Nat.le_refl _) o

set_option maxHeartbeats 1000000 in
/-- errors.as at a *api.Errno, of a number: that number is set. -/
theorem as23N (c : Int) (t b0 : Addr) (old : Value) (w : World)
    (ht0 : w.cell? t = some old) (hf0 : w.frozen? t = false) (hb0 : w.cell? b0 = some (.pointer (some t))) :
    Calls Tryd.prog 30 #[.iface 41 (.int .i64 c), .iface 67 (.pointer (some t)), .agg #[.pointer (some ⟨1, 67, none⟩), .pointer (some b0), .int .u64 150], (.iface 92 (.agg #[.pointer (some ⟨1, 41, none⟩)]))] w fun e w' => e = .returned (.bool true) ∧ Below w.heap.size (w.setCell t (.int .i64 c)) w' := by
  have h6 := @run_callFunc_extern Tryd.prog 27 _ (fun args => ReflectliteValue.unpack (args.getD 0 (.tuple #[]))) Tryd.func27 (by kernel_rfl) (by kernel_rfl) (by kernel_rfl) (by kernel_rfl)
  have h10 := @run_callFunc_extern Tryd.prog 31 _ ReflectliteType.typeOf Tryd.func31 (by kernel_rfl) (by kernel_rfl) (by kernel_rfl) (by kernel_rfl)
  have h35 := @run_callFunc_extern Tryd.prog 56 _ (ReflectliteType.relation "AssignableTo" ReflectliteType.assignableTo) Tryd.func56 (by kernel_rfl) (by kernel_rfl) (by kernel_rfl) (by kernel_rfl)
  have mA := Tryd.methodAssignableTo
  have h11 := @run_callFunc_extern Tryd.prog 32 _ (ReflectliteValue.method (ReflectliteValue.valueError "reflectlite.Value.Elem" 0) ReflectliteValue.elem) Tryd.func32 (by kernel_rfl) (by kernel_rfl) (by kernel_rfl) (by kernel_rfl)
  have h12 := @run_callFunc_extern Tryd.prog 33 _ ReflectliteValue.set Tryd.func33 (by kernel_rfl) (by kernel_rfl) (by kernel_rfl) (by kernel_rfl)
  have tO := Tryd.typeOfE
  have a25 := Tryd.assignableE
  have v25 := Tryd.valueOfE
  have hb1 := cell_alloc (.cells #[.pointer (some ⟨1, 67, none⟩), .pointer (some b0), .int .u64 150] 82) hb0
  have el := Tryd.elemVPE b0 t _ hb1
  have st := Tryd.setE t ⟨w.heap.size + 1, 0, none⟩ c old ((w.alloc (.cells #[.pointer (some ⟨1, 67, none⟩), .pointer (some b0), .int .u64 150] 82)).alloc (.cells #[.int .i64 c] 41))
    (by rw [World.cell?_alloc_at _ _ _ _ (by simp)]; rfl) (cell_alloc _ (cell_alloc _ ht0)) (frozen_alloc _ (cell_alloc _ ht0) (frozen_alloc _ ht0 hf0))
  have htl := lt_of_cell ht0
  go_enter Tryd.func30, Tryd.ntmps30
  go_wp2
  go_loopg [0] 0 (fun k x wr => k = 0 ∧ x = .iface 41 (.int .i64 c) ∧ wr = w.alloc (.cells #[.pointer (some ⟨1, 67, none⟩), .pointer (some b0), .int .u64 150] 82))
  case atStart => exact ⟨rfl, rfl, rfl⟩
  case round =>
    obtain ⟨_, rfl, rfl⟩ := hrel
    go_wp2
    go_ret
    exact ⟨rfl, below_setBoth ((below_alloc w _).trans ((below_alloc _ _).mono (by simp))) t _⟩

set_option maxHeartbeats 1000000 in
/-- errors.As, of an error that isn't nil, at such a target: what errors.as answers. -/
theorem as8E (T : TypeId) (y : Value) (t : Addr) (old : Value) (w : World) (R : Ending → World → Prop)
    (hg : w.cell? ⟨0, 0, none⟩ = some (.iface 92 (.agg #[.pointer (some ⟨1, 27, none⟩)])))
    (_ht0 : w.cell? t = some old)
    (h23 : ∀ b0 W, Below w.heap.size w W → W.cell? b0 = some (.pointer (some t)) → Calls Tryd.prog 30 #[.iface T y, .iface 67 (.pointer (some t)), .agg #[.pointer (some ⟨1, 67, none⟩), .pointer (some b0), .int .u64 150], (.iface 92 (.agg #[.pointer (some ⟨1, 41, none⟩)]))] W fun e w' => ∃ b, e = .returned (.bool b) ∧ R e w') :
    Calls Tryd.prog 16 #[.iface T y, .iface 67 (.pointer (some t))] w R := by
  have h6 := @run_callFunc_extern Tryd.prog 27 _ (fun args => ReflectliteValue.unpack (args.getD 0 (.tuple #[]))) Tryd.func27 (by kernel_rfl) (by kernel_rfl) (by kernel_rfl) (by kernel_rfl)
  have h7 := @run_callFunc_extern Tryd.prog 28 _ (ReflectliteValue.methodAny (ReflectliteValue.valueError "reflectlite.Value.Type" 0) (fun t _ _ _ => ReflectliteType.toType t)) Tryd.func28 (by kernel_rfl) (by kernel_rfl) (by kernel_rfl) (by kernel_rfl)
  have h8 := @run_callFunc_extern Tryd.prog 29 _ (ReflectliteValue.method (ReflectliteValue.valueError "reflectlite.Value.IsNil" 0) ReflectliteValue.isNil) Tryd.func29 (by kernel_rfl) (by kernel_rfl) (by kernel_rfl) (by kernel_rfl)
  have h27 := @run_callFunc_extern Tryd.prog 48 _ (ReflectliteType.abiMethod fun t => do pure (.int .u8 (← Rtype.kind t))) Tryd.func48 (by kernel_rfl) (by kernel_rfl) (by kernel_rfl) (by kernel_rfl)
  have h37 := @run_callFunc_extern Tryd.prog 58 _ (ReflectliteType.method ReflectliteType.elem) Tryd.func58 (by kernel_rfl) (by kernel_rfl) (by kernel_rfl) (by kernel_rfl)
  have h38 := @run_callFunc_extern Tryd.prog 59 _ (ReflectliteType.relation "Implements" ReflectliteType.implements_) Tryd.func59 (by kernel_rfl) (by kernel_rfl) (by kernel_rfl) (by kernel_rfl)
  have f6 := Tryd.valueOfPE
  have f7 := Tryd.typePE
  have mK := Tryd.methodKind
  have mE := Tryd.methodElem
  have mI := Tryd.methodImplements
  have k27 := Tryd.kindPE
  have k25 := Tryd.kindE
  have e27 := Tryd.elemPE
  have i25 := Tryd.implementsE
  have n8 := Tryd.isNilPE ⟨w.heap.size, 0, none⟩ t ((w.alloc (.cells #[.pointer (some t)] 67)).alloc (.cells #[.pointer (some ⟨1, 67, none⟩), .pointer (some ⟨w.heap.size, 0, none⟩), .int .u64 150] 82)) (by simp)
  have hg2 := cell_alloc (.cells #[.pointer (some ⟨1, 67, none⟩), .pointer (some ⟨w.heap.size, 0, none⟩), .int .u64 150] 82) (cell_alloc (.cells #[.pointer (some t)] 67) hg)
  have H23 := Lib.hid h23
  clear h23
  have hh : ((w.alloc (.cells #[.pointer (some t)] 67)).alloc (.cells #[.pointer (some ⟨1, 67, none⟩), .pointer (some ⟨w.heap.size, 0, none⟩), .int .u64 150] 82)).cell? ⟨w.heap.size, 0, none⟩ = some (.pointer (some t)) := cell_alloc _ (by rw [World.cell?_alloc_at _ _ _ _ rfl]; rfl)
  go_enter Tryd.func16, Tryd.ntmps16
  go_wp2_with fail
  refine (H23.out ⟨w.heap.size, 0, none⟩ _ ?_ ?_).mono ?_
  · exact (below_alloc w _).trans ((below_alloc _ _).mono (by simp))
  · exact hh
  · rintro e w' ⟨b, rfl, hR⟩
    have HR := Lib.hid hR
    clear hR
    go_wp2
    exact HR.out

theorem code_nil (w : World) :
    Calls Tryd.prog 9 #[.nilIface] w fun e w' => e = .returned (.int .i64 0) ∧ w = w' := by
  go_enter Tryd.func9, Tryd.ntmps9
  go_wp2
  go_ret
  exact ⟨rfl, rfl⟩

/-- errors.errorType holds the handle of the type error. -/
def TypeLaid (w : World) : Prop := w.cell? ⟨0, 0, none⟩ = some (.iface 92 (.agg #[.pointer (some ⟨1, 27, none⟩)]))
theorem TypeLaid.later {w w' : World} (h : TypeLaid w) (hb : Below w.heap.size w w') : TypeLaid w' := by
  have hl : 0 < w.heap.size := block_lt h
  unfold TypeLaid
  rw [hb.cell (p := ⟨0, 0, none⟩) hl]; exact h

theorem below_set_new {w w' : World} {o : Obj} {u : Value} (h : Below (w.alloc o).heap.size ((w.alloc o).setCell ⟨w.heap.size, 0, none⟩ u) w') : Below w.heap.size w w' :=
  ((below_alloc w o).setCell (p := ⟨w.heap.size, 0, none⟩) (Nat.le_refl _) u).trans (h.mono (by simp))

set_option maxHeartbeats 1000000 in
theorem code_num (c : Int) (w : World) (hg : TypeLaid w) :
    Calls Tryd.prog 9 #[.iface 41 (.int .i64 c)] w fun e w' => e = .returned (.int .i64 c) ∧ Below w.heap.size w w' := by
  have hg1 := hg.later (below_alloc w (.cells #[.int .i64 0] 41))
  have ht : (w.alloc (.cells #[.int .i64 0] 41)).cell? ⟨w.heap.size, 0, none⟩ = some (.int .i64 0) := by simp
  have hf : (w.alloc (.cells #[.int .i64 0] 41)).frozen? ⟨w.heap.size, 0, none⟩ = false := by simp
  have hset : ((w.alloc (.cells #[.int .i64 0] 41)).setCell ⟨w.heap.size, 0, none⟩ (.int .i64 c)).cell? ⟨w.heap.size, 0, none⟩ = some (.int .i64 c) := World.cell?_setCell_same _ _ _ ht
  have H := Lib.hid (as8E 41 (.int .i64 c) ⟨w.heap.size, 0, none⟩ (.int .i64 0) (w.alloc (.cells #[.int .i64 0] 41)) (fun e w' => e = .returned (.bool true) ∧ Below (w.alloc (.cells #[.int .i64 0] 41)).heap.size ((w.alloc (.cells #[.int .i64 0] 41)).setCell ⟨w.heap.size, 0, none⟩ (.int .i64 c)) w') hg1 ht (fun b0 W hW hb0 => by
    refine (as23N c ⟨w.heap.size, 0, none⟩ b0 (.int .i64 0) W (by rw [hW.cell (p := ⟨w.heap.size, 0, none⟩) (by simp)]; exact ht) (by rw [hW.frozen (p := ⟨w.heap.size, 0, none⟩) (by simp)]; exact hf) hb0).mono ?_
    rintro e w' ⟨rfl, hb⟩
    exact ⟨true, rfl, rfl, (below_setBoth hW _ _).trans (hb.mono hW.size)⟩))
  clear hg hg1 ht hf
  go_enter Tryd.func9, Tryd.ntmps9
  go_wp2_with fail
  refine H.out.mono ?_
  rintro e w' ⟨rfl, hb⟩
  have hc : w'.cell? ⟨w.heap.size, 0, none⟩ = some (.int .i64 c) := by rw [hb.cell (p := ⟨w.heap.size, 0, none⟩) (by simp)]; exact hset
  have Hb := Lib.hid hb
  clear hb hset
  go_wp2
  go_ret
  exact ⟨rfl, below_set_new Hb.out⟩

end Go.Proofs.YtjndfdhjipfijaaDoor
