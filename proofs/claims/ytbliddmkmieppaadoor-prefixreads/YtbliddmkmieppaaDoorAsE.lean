/- errors.as and errors.As at the targets *api.Errno and **fault.Fault, over a chain of Faults: contracts. -/
import Derived.Test.YtbliddmkmieppaaDoorAs
namespace Go.Proofs.YtbliddmkmieppaaDoor
open Go.RowKit Go.Extern.Stop Go.Stop Go.Extern

theorem cell_alloc {w : World} {a : Addr} {v : Value} (o : Obj) (h : w.cell? a = some v) : (w.alloc o).cell? a = some v := by
  have hl : a.block < w.heap.size := by
    rcases Nat.lt_or_ge a.block w.heap.size with h' | h'
    · exact h'
    · simp [World.cell?, Array.getElem?_eq_none h'] at h
  rw [World.cell?_alloc_lt _ _ a hl]; exact h
theorem lt_of_cell {w : World} {a : Addr} {v : Value} (h : w.cell? a = some v) : a.block < w.heap.size := by
  rcases Nat.lt_or_ge a.block w.heap.size with h' | h'
  · exact h'
  · simp [World.cell?, Array.getElem?_eq_none h'] at h
theorem frozen_alloc {w : World} {a : Addr} {v : Value} (o : Obj) (h : w.cell? a = some v) (hf : w.frozen? a = false) : (w.alloc o).frozen? a = false := by
  rw [World.frozen?_alloc_old _ _ a (Nat.ne_of_lt (lt_of_cell h))]; exact hf
theorem below_setBoth {n : Nat} {w w' : World} (h : Below n w w') (t : Addr) (u : Value) : Below n (w.setCell t u) (w'.setCell t u) := by
  refine ⟨h.os, h.tape, h.output, by simpa [World.setCell] using h.size, fun k hk => ?_⟩
  have hb := h.block k hk
  by_cases e : t.block = k
  · subst e; simp [World.setCell, Array.getElem?_modify, hb]
  · rw [Below.heap_setCell _ _ _ _ (by omega), Below.heap_setCell _ _ _ _ (by omega)]; exact hb
theorem below_alloc (w : World) (o : Obj) : Below w.heap.size w (w.alloc o) := (Below.refl _ _).alloc (Nat.le_refl _) o

set_option maxHeartbeats 1000000 in
/-- errors.as at a *api.Errno, over a chain that ends in a number: that number is set. -/
theorem as23E (c : Int) (t b0 : Addr) (old : Value) (l : List (Nat × ByteArray × Int)) (v : Value) (w : World)
    (hch : Chain w (.iface 45 (.int .i64 c)) l v) (ht0 : w.cell? t = some old) (hf0 : w.frozen? t = false) (hb0 : w.cell? b0 = some (.pointer (some t))) :
    Calls Tryd.prog 37 #[v, .iface 77 (.pointer (some t)), .agg #[.pointer (some ⟨1, 77, none⟩), .pointer (some b0), .int .u64 150], (.iface 80 (.agg #[.pointer (some ⟨1, 45, none⟩)]))] w fun e w' => e = .returned (.bool true) ∧ Below w.heap.size (w.setCell t (.int .i64 c)) w' := by
  have h6 := @run_callFunc_extern Tryd.prog 34 _ (fun args => ReflectliteValue.unpack (args.getD 0 (.tuple #[]))) Tryd.func34 (by kernel_rfl) (by kernel_rfl) (by kernel_rfl) (by kernel_rfl)
  have h10 := @run_callFunc_extern Tryd.prog 42 _ ReflectliteType.typeOf Tryd.func42 (by kernel_rfl) (by kernel_rfl) (by kernel_rfl) (by kernel_rfl)
  have h35 := @run_callFunc_extern Tryd.prog 69 _ (ReflectliteType.relation "AssignableTo" ReflectliteType.assignableTo) Tryd.func69 (by kernel_rfl) (by kernel_rfl) (by kernel_rfl) (by kernel_rfl)
  have mA := Tryd.methodAssignableTo
  have h11 := @run_callFunc_extern Tryd.prog 43 _ (ReflectliteValue.method (ReflectliteValue.valueError "reflectlite.Value.Elem" 0) ReflectliteValue.elem) Tryd.func43 (by kernel_rfl) (by kernel_rfl) (by kernel_rfl) (by kernel_rfl)
  have h12 := @run_callFunc_extern Tryd.prog 44 _ ReflectliteValue.set Tryd.func44 (by kernel_rfl) (by kernel_rfl) (by kernel_rfl) (by kernel_rfl)
  have tO := Tryd.typeOfE
  have tF := Tryd.typeOfF
  have a25 := Tryd.assignableE
  have aN := Tryd.notAssignableFE
  have nA := Tryd.noAsF
  have uF := Tryd.hasUnwrapF
  have mU := Tryd.methodUnwrap
  have nU := Tryd.nilAheadUnwrap
  have v25 := Tryd.valueOfE
  have hch1 := hch.later (below_alloc w (.cells #[.pointer (some ⟨1, 77, none⟩), .pointer (some b0), .int .u64 150] 68))
  have hb1 := cell_alloc (.cells #[.pointer (some ⟨1, 77, none⟩), .pointer (some b0), .int .u64 150] 68) hb0
  have el := Tryd.elemVPE b0 t _ hb1
  have st := Tryd.setE t ⟨w.heap.size + 1, 0, none⟩ c old ((w.alloc (.cells #[.pointer (some ⟨1, 77, none⟩), .pointer (some b0), .int .u64 150] 68)).alloc (.cells #[.int .i64 c] 45))
    (by rw [World.cell?_alloc_at _ _ _ _ (by simp)]; rfl) (cell_alloc _ (cell_alloc _ ht0)) (frozen_alloc _ (cell_alloc _ ht0) (frozen_alloc _ ht0 hf0))
  have htl := lt_of_cell ht0
  clear hch
  go_enter Tryd.func37, Tryd.ntmps37
  go_wp2
  go_loopg [0] l.length (fun k x wr => ∃ r, r.length = k ∧ Chain (w.alloc (.cells #[.pointer (some ⟨1, 77, none⟩), .pointer (some b0), .int .u64 150] 68)) (.iface 45 (.int .i64 c)) r x ∧ wr = w.alloc (.cells #[.pointer (some ⟨1, 77, none⟩), .pointer (some b0), .int .u64 150] 68))
  case atStart => exact ⟨l, rfl, hch1, rfl⟩
  case round =>
    clear hch1
    obtain ⟨r, hr, hc, rfl⟩ := hrel
    match r, hr, hc with
    | [], hr, hc =>
      obtain rfl : _ = _ := hc
      clear hr
      go_wp2
      go_ret
      exact ⟨rfl, by first | exact below_setBoth ((below_alloc w _).trans ((below_alloc _ _).mono (by simp))) t _ | (trace_state; sorry)⟩
    | (b, s, n) :: r', hr, ⟨h1, _, _, x, h4, h5⟩ =>
      obtain rfl : _ = _ := h1
      have H5 := Lib.hid h5
      have Hr := Lib.hid hr
      obtain ⟨T, y, rfl⟩ : ∃ T y, x = .iface T y := by
        match r', h5 with
        | [], h5 => exact ⟨_, _, h5⟩
        | (_, _, _) :: _, ⟨h, _⟩ => exact ⟨_, _, h⟩
      clear h5 hr
      go_wp2
      go_roundg r'.length
      case measure => rw [← Hr.out]; simp
      case rel => exact ⟨r', rfl, H5.out, rfl⟩

set_option maxHeartbeats 1000000 in
/-- errors.as at a **fault.Fault: the error is a Fault itself. -/
theorem as23F (p t b0 : Addr) (old : Value) (w : World)
    (ht0 : w.cell? t = some old) (hf0 : w.frozen? t = false) (hb0 : w.cell? b0 = some (.pointer (some t))) :
    Calls Tryd.prog 37 #[.iface 53 (.pointer (some p)), .iface 55 (.pointer (some t)), .agg #[.pointer (some ⟨1, 55, none⟩), .pointer (some b0), .int .u64 150], (.iface 80 (.agg #[.pointer (some ⟨1, 53, none⟩)]))] w fun e w' => e = .returned (.bool true) ∧ Below w.heap.size (w.setCell t (.pointer (some p))) w' := by
  have h6 := @run_callFunc_extern Tryd.prog 34 _ (fun args => ReflectliteValue.unpack (args.getD 0 (.tuple #[]))) Tryd.func34 (by kernel_rfl) (by kernel_rfl) (by kernel_rfl) (by kernel_rfl)
  have h10 := @run_callFunc_extern Tryd.prog 42 _ ReflectliteType.typeOf Tryd.func42 (by kernel_rfl) (by kernel_rfl) (by kernel_rfl) (by kernel_rfl)
  have h35 := @run_callFunc_extern Tryd.prog 69 _ (ReflectliteType.relation "AssignableTo" ReflectliteType.assignableTo) Tryd.func69 (by kernel_rfl) (by kernel_rfl) (by kernel_rfl) (by kernel_rfl)
  have mA := Tryd.methodAssignableTo
  have h11 := @run_callFunc_extern Tryd.prog 43 _ (ReflectliteValue.method (ReflectliteValue.valueError "reflectlite.Value.Elem" 0) ReflectliteValue.elem) Tryd.func43 (by kernel_rfl) (by kernel_rfl) (by kernel_rfl) (by kernel_rfl)
  have h12 := @run_callFunc_extern Tryd.prog 44 _ ReflectliteValue.set Tryd.func44 (by kernel_rfl) (by kernel_rfl) (by kernel_rfl) (by kernel_rfl)
  have tF := Tryd.typeOfF
  have a25 := Tryd.assignableF
  have v25 := Tryd.valueOfF
  have hb1 := cell_alloc (.cells #[.pointer (some ⟨1, 55, none⟩), .pointer (some b0), .int .u64 150] 68) hb0
  have el := Tryd.elemVPF b0 t _ hb1
  have st := Tryd.setF t ⟨w.heap.size + 1, 0, none⟩ p old ((w.alloc (.cells #[.pointer (some ⟨1, 55, none⟩), .pointer (some b0), .int .u64 150] 68)).alloc (.cells #[.pointer (some p)] 53))
    (by rw [World.cell?_alloc_at _ _ _ _ (by simp)]; rfl) (cell_alloc _ (cell_alloc _ ht0)) (frozen_alloc _ (cell_alloc _ ht0) (frozen_alloc _ ht0 hf0))
  have htl := lt_of_cell ht0
  go_enter Tryd.func37, Tryd.ntmps37
  go_wp2
  refine wp_loop_rounds 1 ?_
  rw [rounds_succ]
  go_wp2
  go_ret
  exact ⟨rfl, below_setBoth ((below_alloc w _).trans ((below_alloc _ _).mono (by simp))) t _⟩

set_option maxHeartbeats 1000000 in
/-- errors.as at a **fault.Fault: the error is a number. -/
theorem as23F_none (c : Int) (t b0 : Addr) (w : World) :
    Calls Tryd.prog 37 #[.iface 45 (.int .i64 c), .iface 55 (.pointer (some t)), .agg #[.pointer (some ⟨1, 55, none⟩), .pointer (some b0), .int .u64 150], (.iface 80 (.agg #[.pointer (some ⟨1, 53, none⟩)]))] w fun e w' => e = .returned (.bool false) ∧ Below w.heap.size w w' := by
  have h10 := @run_callFunc_extern Tryd.prog 42 _ ReflectliteType.typeOf Tryd.func42 (by kernel_rfl) (by kernel_rfl) (by kernel_rfl) (by kernel_rfl)
  have h35 := @run_callFunc_extern Tryd.prog 69 _ (ReflectliteType.relation "AssignableTo" ReflectliteType.assignableTo) Tryd.func69 (by kernel_rfl) (by kernel_rfl) (by kernel_rfl) (by kernel_rfl)
  have mA := Tryd.methodAssignableTo
  have tF := Tryd.typeOfE
  have a25 := Tryd.notAssignableEF
  have nS := Tryd.noAsE
  have uS := Tryd.noUnwrapE
  have vS := Tryd.noUnwrapsE
  go_enter Tryd.func37, Tryd.ntmps37
  go_wp2
  refine wp_loop_rounds 1 ?_
  rw [rounds_succ]
  go_wp2
  go_ret
  exact ⟨rfl, below_alloc w _⟩

end Go.Proofs.YtbliddmkmieppaaDoor
