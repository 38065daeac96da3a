/- errors.As at the targets *api.Errno and **fault.Fault: contracts. -/
import Derived.Test.YtjafmnhnemdedaaDoorAsE
namespace Go.Proofs.YtjafmnhnemdedaaDoor
open Go.RowKit Go.Extern.Stop Go.Stop Go.Extern

set_option maxHeartbeats 1000000 in
/-- errors.As, of an error that isn't nil, at such a target: what errors.as answers. -/
theorem as8E (T : TypeId) (y : Value) (t : Addr) (old : Value) (w : World) (R : Ending → World → Prop)
    (hg : w.cell? ⟨0, 0, none⟩ = some (.iface 80 (.agg #[.pointer (some ⟨5, 26, none⟩)])))
    (_ht0 : w.cell? t = some old)
    (h23 : ∀ b0 W, Below w.heap.size w W → W.cell? b0 = some (.pointer (some t)) → Calls Tryd.prog 23 #[.iface T y, .iface 62 (.pointer (some t)), .agg #[.pointer (some ⟨5, 62, none⟩), .pointer (some b0), .int .u64 150], (.iface 80 (.agg #[.pointer (some ⟨5, 24, none⟩)]))] W fun e w' => ∃ b, e = .returned (.bool b) ∧ R e w') :
    Calls Tryd.prog 8 #[.iface T y, .iface 62 (.pointer (some t))] w R := by
  have h6 := @run_callFunc_extern Tryd.prog 20 _ (fun args => ReflectliteValue.unpack (args.getD 0 (.tuple #[]))) Tryd.func20 (by kernel_rfl) (by kernel_rfl) (by kernel_rfl) (by kernel_rfl)
  have h7 := @run_callFunc_extern Tryd.prog 21 _ (ReflectliteValue.methodAny (ReflectliteValue.valueError "reflectlite.Value.Type" 0) (fun t _ _ _ => ReflectliteType.toType t)) Tryd.func21 (by kernel_rfl) (by kernel_rfl) (by kernel_rfl) (by kernel_rfl)
  have h8 := @run_callFunc_extern Tryd.prog 22 _ (ReflectliteValue.method (ReflectliteValue.valueError "reflectlite.Value.IsNil" 0) ReflectliteValue.isNil) Tryd.func22 (by kernel_rfl) (by kernel_rfl) (by kernel_rfl) (by kernel_rfl)
  have h27 := @run_callFunc_extern Tryd.prog 67 _ (ReflectliteType.abiMethod fun t => do pure (.int .u8 (← Rtype.kind t))) Tryd.func67 (by kernel_rfl) (by kernel_rfl) (by kernel_rfl) (by kernel_rfl)
  have h37 := @run_callFunc_extern Tryd.prog 78 _ (ReflectliteType.method ReflectliteType.elem) Tryd.func78 (by kernel_rfl) (by kernel_rfl) (by kernel_rfl) (by kernel_rfl)
  have h38 := @run_callFunc_extern Tryd.prog 79 _ (ReflectliteType.relation "Implements" ReflectliteType.implements_) Tryd.func79 (by kernel_rfl) (by kernel_rfl) (by kernel_rfl) (by kernel_rfl)
  have f6 := Tryd.valueOfPE
  have f7 := Tryd.typePE
  have mK := Tryd.methodKind
  have mE := Tryd.methodElem
  have mI := Tryd.methodImplements
  have k27 := Tryd.kindPE
  have k25 := Tryd.kindE
  have e27 := Tryd.elemPE
  have i25 := Tryd.implementsE
  have n8 := Tryd.isNilPE ⟨w.heap.size, 0, none⟩ t ((w.alloc (.cells #[.pointer (some t)] 62)).alloc (.cells #[.pointer (some ⟨5, 62, none⟩), .pointer (some ⟨w.heap.size, 0, none⟩), .int .u64 150] 53)) (by simp)
  have hg2 := cell_alloc (.cells #[.pointer (some ⟨5, 62, none⟩), .pointer (some ⟨w.heap.size, 0, none⟩), .int .u64 150] 53) (cell_alloc (.cells #[.pointer (some t)] 62) hg)
  have H23 := Lib.hid h23
  clear h23
  have hh : ((w.alloc (.cells #[.pointer (some t)] 62)).alloc (.cells #[.pointer (some ⟨5, 62, none⟩), .pointer (some ⟨w.heap.size, 0, none⟩), .int .u64 150] 53)).cell? ⟨w.heap.size, 0, none⟩ = some (.pointer (some t)) := cell_alloc _ (by rw [World.cell?_alloc_at _ _ _ _ rfl]; rfl)
  go_enter Tryd.func8, Tryd.ntmps8
  go_wp2_with fail
  refine (H23.out ⟨w.heap.size, 0, none⟩ _ ?_ ?_).mono ?_
  · exact (below_alloc w _).trans ((below_alloc _ _).mono (by simp))
  · exact hh
  · rintro e w' ⟨b, rfl, hR⟩
    have HR := Lib.hid hR
    clear hR
    go_wp2
    exact HR.out

set_option maxHeartbeats 1000000 in
/-- errors.As, of an error that isn't nil, at such a target: what errors.as answers. -/
theorem as8F (T : TypeId) (y : Value) (t : Addr) (old : Value) (w : World) (R : Ending → World → Prop)
    (hg : w.cell? ⟨0, 0, none⟩ = some (.iface 80 (.agg #[.pointer (some ⟨5, 26, none⟩)])))
    (_ht0 : w.cell? t = some old)
    (h23 : ∀ b0 W, Below w.heap.size w W → W.cell? b0 = some (.pointer (some t)) → Calls Tryd.prog 23 #[.iface T y, .iface 33 (.pointer (some t)), .agg #[.pointer (some ⟨5, 33, none⟩), .pointer (some b0), .int .u64 150], (.iface 80 (.agg #[.pointer (some ⟨5, 31, none⟩)]))] W fun e w' => ∃ b, e = .returned (.bool b) ∧ R e w') :
    Calls Tryd.prog 8 #[.iface T y, .iface 33 (.pointer (some t))] w R := by
  have h6 := @run_callFunc_extern Tryd.prog 20 _ (fun args => ReflectliteValue.unpack (args.getD 0 (.tuple #[]))) Tryd.func20 (by kernel_rfl) (by kernel_rfl) (by kernel_rfl) (by kernel_rfl)
  have h7 := @run_callFunc_extern Tryd.prog 21 _ (ReflectliteValue.methodAny (ReflectliteValue.valueError "reflectlite.Value.Type" 0) (fun t _ _ _ => ReflectliteType.toType t)) Tryd.func21 (by kernel_rfl) (by kernel_rfl) (by kernel_rfl) (by kernel_rfl)
  have h8 := @run_callFunc_extern Tryd.prog 22 _ (ReflectliteValue.method (ReflectliteValue.valueError "reflectlite.Value.IsNil" 0) ReflectliteValue.isNil) Tryd.func22 (by kernel_rfl) (by kernel_rfl) (by kernel_rfl) (by kernel_rfl)
  have h27 := @run_callFunc_extern Tryd.prog 67 _ (ReflectliteType.abiMethod fun t => do pure (.int .u8 (← Rtype.kind t))) Tryd.func67 (by kernel_rfl) (by kernel_rfl) (by kernel_rfl) (by kernel_rfl)
  have h37 := @run_callFunc_extern Tryd.prog 78 _ (ReflectliteType.method ReflectliteType.elem) Tryd.func78 (by kernel_rfl) (by kernel_rfl) (by kernel_rfl) (by kernel_rfl)
  have h38 := @run_callFunc_extern Tryd.prog 79 _ (ReflectliteType.relation "Implements" ReflectliteType.implements_) Tryd.func79 (by kernel_rfl) (by kernel_rfl) (by kernel_rfl) (by kernel_rfl)
  have f6 := Tryd.valueOfPF
  have f7 := Tryd.typePF
  have mK := Tryd.methodKind
  have mE := Tryd.methodElem
  have mI := Tryd.methodImplements
  have k27 := Tryd.kindPF
  have k25 := Tryd.kindF
  have e27 := Tryd.elemPF
  have i25 := Tryd.implementsF
  have n8 := Tryd.isNilPF ⟨w.heap.size, 0, none⟩ t ((w.alloc (.cells #[.pointer (some t)] 33)).alloc (.cells #[.pointer (some ⟨5, 33, none⟩), .pointer (some ⟨w.heap.size, 0, none⟩), .int .u64 150] 53)) (by simp)
  have hg2 := cell_alloc (.cells #[.pointer (some ⟨5, 33, none⟩), .pointer (some ⟨w.heap.size, 0, none⟩), .int .u64 150] 53) (cell_alloc (.cells #[.pointer (some t)] 33) hg)
  have H23 := Lib.hid h23
  clear h23
  have hh : ((w.alloc (.cells #[.pointer (some t)] 33)).alloc (.cells #[.pointer (some ⟨5, 33, none⟩), .pointer (some ⟨w.heap.size, 0, none⟩), .int .u64 150] 53)).cell? ⟨w.heap.size, 0, none⟩ = some (.pointer (some t)) := cell_alloc _ (by rw [World.cell?_alloc_at _ _ _ _ rfl]; rfl)
  go_enter Tryd.func8, Tryd.ntmps8
  go_wp2_with fail
  refine (H23.out ⟨w.heap.size, 0, none⟩ _ ?_ ?_).mono ?_
  · exact (below_alloc w _).trans ((below_alloc _ _).mono (by simp))
  · exact hh
  · rintro e w' ⟨b, rfl, hR⟩
    have HR := Lib.hid hR
    clear hR
    go_wp2
    exact HR.out

end Go.Proofs.YtjafmnhnemdedaaDoor
