/- errors.As at the targets *api.Errno and **fault.Fault: contracts. -/
import Derived.Test.YtbliddmkmieppaaDoorAsE
namespace Go.Proofs.YtbliddmkmieppaaDoor
open Go.RowKit Go.Extern.Stop Go.Stop Go.Extern

set_option maxHeartbeats 1000000 in
/-- errors.As, of an error that isn't nil, at such a target: what errors.as answers. -/
theorem as8E (T : TypeId) (y : Value) (t : Addr) (old : Value) (w : World) (R : Ending → World → Prop)
    (hg : w.cell? ⟨0, 0, none⟩ = some (.iface 80 (.agg #[.pointer (some ⟨1, 39, none⟩)])))
    (_ht0 : w.cell? t = some old)
    (h23 : ∀ b0 W, Below w.heap.size w W → W.cell? b0 = some (.pointer (some t)) → Calls Tryd.prog 37 #[.iface T y, .iface 77 (.pointer (some t)), .agg #[.pointer (some ⟨1, 77, none⟩), .pointer (some b0), .int .u64 150], (.iface 80 (.agg #[.pointer (some ⟨1, 45, none⟩)]))] W fun e w' => ∃ b, e = .returned (.bool b) ∧ R e w') :
    Calls Tryd.prog 27 #[.iface T y, .iface 77 (.pointer (some t))] w R := by
  have h6 := @run_callFunc_extern Tryd.prog 34 _ (fun args => ReflectliteValue.unpack (args.getD 0 (.tuple #[]))) Tryd.func34 (by kernel_rfl) (by kernel_rfl) (by kernel_rfl) (by kernel_rfl)
  have h7 := @run_callFunc_extern Tryd.prog 35 _ (ReflectliteValue.methodAny (ReflectliteValue.valueError "reflectlite.Value.Type" 0) (fun t _ _ _ => ReflectliteType.toType t)) Tryd.func35 (by kernel_rfl) (by kernel_rfl) (by kernel_rfl) (by kernel_rfl)
  have h8 := @run_callFunc_extern Tryd.prog 36 _ (ReflectliteValue.method (ReflectliteValue.valueError "reflectlite.Value.IsNil" 0) ReflectliteValue.isNil) Tryd.func36 (by kernel_rfl) (by kernel_rfl) (by kernel_rfl) (by kernel_rfl)
  have h27 := @run_callFunc_extern Tryd.prog 59 _ (ReflectliteType.abiMethod fun t => do pure (.int .u8 (← Rtype.kind t))) Tryd.func59 (by kernel_rfl) (by kernel_rfl) (by kernel_rfl) (by kernel_rfl)
  have h37 := @run_callFunc_extern Tryd.prog 71 _ (ReflectliteType.method ReflectliteType.elem) Tryd.func71 (by kernel_rfl) (by kernel_rfl) (by kernel_rfl) (by kernel_rfl)
  have h38 := @run_callFunc_extern Tryd.prog 72 _ (ReflectliteType.relation "Implements" ReflectliteType.implements_) Tryd.func72 (by kernel_rfl) (by kernel_rfl) (by kernel_rfl) (by kernel_rfl)
  have f6 := Tryd.valueOfPE
  have f7 := Tryd.typePE
  have mK := Tryd.methodKind
  have mE := Tryd.methodElem
  have mI := Tryd.methodImplements
  have k27 := Tryd.kindPE
  have k25 := Tryd.kindE
  have e27 := Tryd.elemPE
  have i25 := Tryd.implementsE
  have n8 := Tryd.isNilPE ⟨w.heap.size, 0, none⟩ t ((w.alloc (.cells #[.pointer (some t)] 77)).alloc (.cells #[.pointer (some ⟨1, 77, none⟩), .pointer (some ⟨w.heap.size, 0, none⟩), .int .u64 150] 68)) (by simp)
  have hg2 := cell_alloc (.cells #[.pointer (some ⟨1, 77, none⟩), .pointer (some ⟨w.heap.size, 0, none⟩), .int .u64 150] 68) (cell_alloc (.cells #[.pointer (some t)] 77) hg)
  have H23 := Lib.hid h23
  clear h23
  have hh : ((w.alloc (.cells #[.pointer (some t)] 77)).alloc (.cells #[.pointer (some ⟨1, 77, none⟩), .pointer (some ⟨w.heap.size, 0, none⟩), .int .u64 150] 68)).cell? ⟨w.heap.size, 0, none⟩ = some (.pointer (some t)) := cell_alloc _ (by rw [World.cell?_alloc_at _ _ _ _ rfl]; rfl)
  go_enter Tryd.func27, Tryd.ntmps27
  go_wp2_with fail
  refine (H23.out ⟨w.heap.size, 0, none⟩ _ ?_ ?_).mono ?_
  · exact (below_alloc w _).trans ((below_alloc _ _).mono (by simp))
  · exact hh
  · rintro e w' ⟨b, rfl, hR⟩
    have HR := Lib.hid hR
    clear hR
    go_wp2
    exact HR.out

set_option maxHeartbeats 1000000 in
/-- errors.As, of an error that isn't nil, at such a target: what errors.as answers. -/
theorem as8F (T : TypeId) (y : Value) (t : Addr) (old : Value) (w : World) (R : Ending → World → Prop)
    (hg : w.cell? ⟨0, 0, none⟩ = some (.iface 80 (.agg #[.pointer (some ⟨1, 39, none⟩)])))
    (_ht0 : w.cell? t = some old)
    (h23 : ∀ b0 W, Below w.heap.size w W → W.cell? b0 = some (.pointer (some t)) → Calls Tryd.prog 37 #[.iface T y, .iface 55 (.pointer (some t)), .agg #[.pointer (some ⟨1, 55, none⟩), .pointer (some b0), .int .u64 150], (.iface 80 (.agg #[.pointer (some ⟨1, 53, none⟩)]))] W fun e w' => ∃ b, e = .returned (.bool b) ∧ R e w') :
    Calls Tryd.prog 27 #[.iface T y, .iface 55 (.pointer (some t))] w R := by
  have h6 := @run_callFunc_extern Tryd.prog 34 _ (fun args => ReflectliteValue.unpack (args.getD 0 (.tuple #[]))) Tryd.func34 (by kernel_rfl) (by kernel_rfl) (by kernel_rfl) (by kernel_rfl)
  have h7 := @run_callFunc_extern Tryd.prog 35 _ (ReflectliteValue.methodAny (ReflectliteValue.valueError "reflectlite.Value.Type" 0) (fun t _ _ _ => ReflectliteType.toType t)) Tryd.func35 (by kernel_rfl) (by kernel_rfl) (by kernel_rfl) (by kernel_rfl)
  have h8 := @run_callFunc_extern Tryd.prog 36 _ (ReflectliteValue.method (ReflectliteValue.valueError "reflectlite.Value.IsNil" 0) ReflectliteValue.isNil) Tryd.func36 (by kernel_rfl) (by kernel_rfl) (by kernel_rfl) (by kernel_rfl)
  have h27 := @run_callFunc_extern Tryd.prog 59 _ (ReflectliteType.abiMethod fun t => do pure (.int .u8 (← Rtype.kind t))) Tryd.func59 (by kernel_rfl) (by kernel_rfl) (by kernel_rfl) (by kernel_rfl)
  have h37 := @run_callFunc_extern Tryd.prog 71 _ (ReflectliteType.method ReflectliteType.elem) Tryd.func71 (by kernel_rfl) (by kernel_rfl) (by kernel_rfl) (by kernel_rfl)
  have h38 := @run_callFunc_extern Tryd.prog 72 _ (ReflectliteType.relation "Implements" ReflectliteType.implements_) Tryd.func72 (by kernel_rfl) (by kernel_rfl) (by kernel_rfl) (by kernel_rfl)
  have f6 := Tryd.valueOfPF
  have f7 := Tryd.typePF
  have mK := Tryd.methodKind
  have mE := Tryd.methodElem
  have mI := Tryd.methodImplements
  have k27 := Tryd.kindPF
  have k25 := Tryd.kindF
  have e27 := Tryd.elemPF
  have i25 := Tryd.implementsF
  have n8 := Tryd.isNilPF ⟨w.heap.size, 0, none⟩ t ((w.alloc (.cells #[.pointer (some t)] 55)).alloc (.cells #[.pointer (some ⟨1, 55, none⟩), .pointer (some ⟨w.heap.size, 0, none⟩), .int .u64 150] 68)) (by simp)
  have hg2 := cell_alloc (.cells #[.pointer (some ⟨1, 55, none⟩), .pointer (some ⟨w.heap.size, 0, none⟩), .int .u64 150] 68) (cell_alloc (.cells #[.pointer (some t)] 55) hg)
  have H23 := Lib.hid h23
  clear h23
  have hh : ((w.alloc (.cells #[.pointer (some t)] 55)).alloc (.cells #[.pointer (some ⟨1, 55, none⟩), .pointer (some ⟨w.heap.size, 0, none⟩), .int .u64 150] 68)).cell? ⟨w.heap.size, 0, none⟩ = some (.pointer (some t)) := cell_alloc _ (by rw [World.cell?_alloc_at _ _ _ _ rfl]; rfl)
  go_enter Tryd.func27, Tryd.ntmps27
  go_wp2_with fail
  refine (H23.out ⟨w.heap.size, 0, none⟩ _ ?_ ?_).mono ?_
  · exact (below_alloc w _).trans ((below_alloc _ _).mono (by simp))
  · exact hh
  · rintro e w' ⟨b, rfl, hR⟩
    have HR := Lib.hid hR
    clear hR
    go_wp2
    exact HR.out

end Go.Proofs.YtbliddmkmieppaaDoor
