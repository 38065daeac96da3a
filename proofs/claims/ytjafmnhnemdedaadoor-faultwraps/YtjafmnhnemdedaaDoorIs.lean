/- What errors.Is answers for a chain of Faults: contracts, used by the laws' proofs. -/
import Derived.Test.YtjafmnhnemdedaaDoorAsE
namespace Go.Proofs.YtjafmnhnemdedaaDoor
open Go.RowKit Go.Extern.Stop Go.Stop Go.Extern

/-- Two interface values that hold numbers of one integer type: equal just as the numbers are. -/
theorem eql_nums {P : Program} (w : World) {ti tn : TypeId} {ms : Array (String × TypeId)} {i : TypeInfo} {k : IntKind} (a b : Int)
    (hi : P.underlying ti = some (.interface ms)) (hn : P.underlying tn = some (.int k)) (hinfo : P.info? tn = some i) (hc : i.comparable = true) :
    (binOp .eql ti (.iface tn (.int k a)) (.iface tn (.int k b))).run P w = .ok (.bool (a == b)) w := by
  have h : ∀ d : Nat, (Op.equalIn (d + 2) ti (.iface tn (.int k a)) (.iface tn (.int k b))).run P w = .ok (a == b) w := fun d => by
    simp [Op.equalIn, run_underlying hi, run_underlying hn, typeInfo, hinfo, hc]
  simp only [binOp]
  simp [Op.equal, Op.maxDepth, h 9998]

theorem Tryd.methodComparable (h : Value) (w : World) : (Go.method 242 80 (.agg #[h]) "Comparable").run Tryd.prog w = .ok (77, .agg #[h]) w := by kernel_rfl
theorem Tryd.comparableE (w : World) : (callFunc 77 #[.agg #[.pointer (some ⟨5, 24, none⟩)]]).run Tryd.prog w = .ok (.value (.bool true)) w := by kernel_rfl
theorem Tryd.comparableS (w : World) : (callFunc 77 #[.agg #[.pointer (some ⟨5, 70, none⟩)]]).run Tryd.prog w = .ok (.value (.bool true)) w := by kernel_rfl
theorem Tryd.compE : (Tryd.prog.info? 24).map (·.comparable) = some true := by kernel_rfl
theorem Tryd.compS : (Tryd.prog.info? 70).map (·.comparable) = some true := by kernel_rfl
theorem Tryd.infoS : (Tryd.prog.info? 72).isSome = true := by kernel_rfl

theorem is_nil (T : TypeId) (y : Value) (w : World) :
    Calls Tryd.prog 15 #[.nilIface, .iface T y] w fun e w' => e = .returned (.bool false) ∧ w = w' := by
  have hn := run_eql_iface_nil_left (P := Tryd.prog) w T y Tryd.underlying26
  go_enter Tryd.func15, Tryd.ntmps15
  go_wp2
  go_ret
  exact ⟨rfl, rfl⟩

set_option maxHeartbeats 1000000 in
/-- errors.is over a chain that ends in a number. -/
theorem is28E (c d : Int) (l : List (Nat × ByteArray × Int)) (v : Value) (w : World) (hch : Chain w (.iface 24 (.int .i64 c)) l v) :
    Calls Tryd.prog 28 #[v, (.iface 24 (.int .i64 d)), .bool true] w fun e w' => e = .returned (.bool (c == d)) ∧ w = w' := by
  have nA := Tryd.noIsF
  have uF := Tryd.hasUnwrapF
  have mU := Tryd.methodUnwrap
  have nU := Tryd.nilAheadUnwrap
  have hty : ∀ a w, (binOp .eql 26 (.iface 31 (.pointer (some a))) (.iface 24 (.int .i64 d))).run Tryd.prog w = .ok (.bool false) w := fun a w => run_eql_iface_types (P := Tryd.prog) _ _ _ _ Tryd.underlying26 (by decide) w
  obtain ⟨i, hi, hcmp⟩ := Option.map_eq_some_iff.1 Tryd.compE
  have heq := fun w => eql_nums (P := Tryd.prog) w c d Tryd.underlying26 Tryd.underlying24 hi hcmp
  have nE := Tryd.noIsE
  have uE := Tryd.noUnwrapE
  have vE := Tryd.noUnwrapsE
  go_enter Tryd.func28, Tryd.ntmps28
  go_wp2
  go_loopg [0] l.length (fun k x wr => ∃ r, r.length = k ∧ Chain w (.iface 24 (.int .i64 c)) r x ∧ wr = w)
  case atStart => exact ⟨l, rfl, hch, rfl⟩
  case round =>
    clear hch
    obtain ⟨r, hr, hc, rfl⟩ := hrel
    match r, hr, hc with
    | [], hr, hc =>
      obtain rfl : _ = _ := hc
      clear hr
      by_cases hcd : (c == d) = true
      · go_wp2
        go_ret
        exact ⟨(congrArg (fun b => Ending.returned (.bool b)) hcd).symm, rfl⟩
      · have hcd' : (c == d) = false := by simpa using hcd
        clear hcd
        go_wp2
        go_ret
        exact ⟨(congrArg (fun b => Ending.returned (.bool b)) hcd').symm, rfl⟩
    | (b, s, n) :: r', hr, ⟨h1, _, _, x, h4, h5⟩ =>
      obtain rfl : _ = _ := h1
      have H5 := Lib.hid h5
      have Hr := Lib.hid hr
      obtain ⟨T, y, rfl⟩ : ∃ T y, x = .iface T y := by
        match r', h5 with
        | [], h5 => exact ⟨_, _, h5⟩
        | (_, _, _) :: _, ⟨h, _⟩ => exact ⟨_, _, h⟩
      clear h5 hr
      go_wp2
      go_roundg r'.length
      case measure => rw [← Hr.out]; simp
      case rel => exact ⟨r', rfl, H5.out, rfl⟩

set_option maxHeartbeats 1000000 in
/-- errors.is over a chain that ends in the very errors.New error that is asked for. -/
theorem is28S (p : Addr) (l : List (Nat × ByteArray × Int)) (v : Value) (w : World) (hch : Chain w (.iface 70 (.pointer (some p))) l v) :
    Calls Tryd.prog 28 #[v, (.iface 70 (.pointer (some p))), .bool true] w fun e w' => e = .returned (.bool true) ∧ w = w' := by
  have nA := Tryd.noIsF
  have uF := Tryd.hasUnwrapF
  have mU := Tryd.methodUnwrap
  have nU := Tryd.nilAheadUnwrap
  have hty : ∀ a w, (binOp .eql 26 (.iface 31 (.pointer (some a))) (.iface 70 (.pointer (some p)))).run Tryd.prog w = .ok (.bool false) w := fun a w => run_eql_iface_types (P := Tryd.prog) _ _ _ _ Tryd.underlying26 (by decide) w
  obtain ⟨i, hi, hcmp⟩ := Option.map_eq_some_iff.1 Tryd.compS
  obtain ⟨j, hj⟩ := Option.isSome_iff_exists.1 Tryd.infoS
  have heq := fun w => run_eql_iface_ptr_same (P := Tryd.prog) w p Tryd.underlying26 Tryd.underlying70 hi hcmp hj
  go_enter Tryd.func28, Tryd.ntmps28
  go_wp2
  go_loopg [0] l.length (fun k x wr => ∃ r, r.length = k ∧ Chain w (.iface 70 (.pointer (some p))) r x ∧ wr = w)
  case atStart => exact ⟨l, rfl, hch, rfl⟩
  case round =>
    clear hch
    obtain ⟨r, hr, hc, rfl⟩ := hrel
    match r, hr, hc with
    | [], hr, hc =>
      obtain rfl : _ = _ := hc
      clear hr
      go_wp2
      go_ret
      exact ⟨rfl, rfl⟩
    | (b, s, n) :: r', hr, ⟨h1, _, _, x, h4, h5⟩ =>
      obtain rfl : _ = _ := h1
      have H5 := Lib.hid h5
      have Hr := Lib.hid hr
      obtain ⟨T, y, rfl⟩ : ∃ T y, x = .iface T y := by
        match r', h5 with
        | [], h5 => exact ⟨_, _, h5⟩
        | (_, _, _) :: _, ⟨h, _⟩ => exact ⟨_, _, h⟩
      clear h5 hr
      go_wp2
      go_roundg r'.length
      case measure => rw [← Hr.out]; simp
      case rel => exact ⟨r', rfl, H5.out, rfl⟩

set_option maxHeartbeats 1000000 in
theorem is15E (c d : Int) (l : List (Nat × ByteArray × Int)) (v : Value) (w : World) (hch : Chain w (.iface 24 (.int .i64 c)) l v) :
    Calls Tryd.prog 15 #[v, (.iface 24 (.int .i64 d))] w fun e w' => e = .returned (.bool (c == d)) ∧ w = w' := by
  have h8 := @run_callFunc_extern Tryd.prog 27 _ ReflectliteType.typeOf Tryd.func27 (by kernel_rfl) (by kernel_rfl) (by kernel_rfl) (by kernel_rfl)
  have tT := Tryd.typeOfE
  have cT := Tryd.comparableE
  have mR := Tryd.methodComparable
  have H := Lib.hid (is28E c d l v w hch)
  obtain ⟨T, y, rfl⟩ : ∃ T y, v = .iface T y := by
    match l, hch with
    | [], h5 => exact ⟨_, _, h5⟩
    | (_, _, _) :: _, ⟨h, _⟩ => exact ⟨_, _, h⟩
  clear hch
  go_enter Tryd.func15, Tryd.ntmps15
  go_wp2_with fail
  refine H.out.mono ?_
  rintro e w' ⟨rfl, rfl⟩
  go_wp2
  go_ret
  exact ⟨rfl, rfl⟩

set_option maxHeartbeats 1000000 in
theorem is15S (p : Addr) (l : List (Nat × ByteArray × Int)) (v : Value) (w : World) (hch : Chain w (.iface 70 (.pointer (some p))) l v) :
    Calls Tryd.prog 15 #[v, (.iface 70 (.pointer (some p)))] w fun e w' => e = .returned (.bool true) ∧ w = w' := by
  have h8 := @run_callFunc_extern Tryd.prog 27 _ ReflectliteType.typeOf Tryd.func27 (by kernel_rfl) (by kernel_rfl) (by kernel_rfl) (by kernel_rfl)
  have tT := Tryd.typeOfS
  have cT := Tryd.comparableS
  have mR := Tryd.methodComparable
  have H := Lib.hid (is28S p l v w hch)
  obtain ⟨T, y, rfl⟩ : ∃ T y, v = .iface T y := by
    match l, hch with
    | [], h5 => exact ⟨_, _, h5⟩
    | (_, _, _) :: _, ⟨h, _⟩ => exact ⟨_, _, h⟩
  clear hch
  go_enter Tryd.func15, Tryd.ntmps15
  go_wp2_with fail
  refine H.out.mono ?_
  rintro e w' ⟨rfl, rfl⟩
  go_wp2
  go_ret
  exact ⟨rfl, rfl⟩

end Go.Proofs.YtjafmnhnemdedaaDoor
