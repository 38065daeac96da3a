/- errors.Is and fault.Is of one number: contracts. -/
import Derived.Test.YtaapkngpnlnjeaaGreatDoorProg
import Derived.WalkKit
import Derived.WalkLawsBesides
import Derived.Lib.Hide
import Derived.Deep.LoopGhost
import Derived.Below
import Derived.Laws.BytesArg
import Derived.Stop.Asserts
import Derived.RowKitTokens
namespace Go.Proofs.YtaapkngpnlnjeaaGreatDoor
open Go.RowKit Go.Extern.Stop Go.Stop Go.Extern

/-- Two interface values that hold numbers of one integer type: equal just as the numbers are. -/
theorem eq_nums {P : Program} (w : World) {ti tn : TypeId} {ms : Array (String × TypeId)} {i : TypeInfo} {k : IntKind} (a b : Int)
    (hi : P.underlying ti = some (.interface ms)) (hn : P.underlying tn = some (.int k)) (hinfo : P.info? tn = some i) (hc : i.comparable = true) :
    (binOp .eql ti (.iface tn (.int k a)) (.iface tn (.int k b))).run P w = .ok (.bool (a == b)) w := by
  have h : ∀ d : Nat, (Op.equalIn (d + 2) ti (.iface tn (.int k a)) (.iface tn (.int k b))).run P w = .ok (a == b) w := fun d => by
    simp [Op.equalIn, run_underlying hi, run_underlying hn, typeInfo, hinfo, hc]
  simp only [binOp]
  simp [Op.equal, Op.maxDepth, h 9998]
theorem Tryz.mComparable (h : Value) (w : World) : (Go.method 319 142 (.agg #[h]) "Comparable").run Tryz.prog w = .ok (131, .agg #[h]) w := by kernel_rfl
theorem Tryz.cErrno (w : World) : (callFunc 131 #[.agg #[.pointer (some ⟨1, 48, none⟩)]]).run Tryz.prog w = .ok (.value (.bool true)) w := by kernel_rfl
theorem Tryz.tErrno (v : Value) (w : World) : (ReflectliteType.typeOf #[.iface 48 v]).run Tryz.prog w = .ok (.iface 142 (.agg #[.pointer (some ⟨1, 48, none⟩)])) w := by kernel_rfl
theorem Tryz.iErrno : (Tryz.prog.info? 48).map (·.comparable) = some true := by kernel_rfl
set_option maxHeartbeats 1000000 in
theorem is_one (c : Int) (w : World) :
    Calls Tryz.prog 69 #[.iface 48 (.int .i64 c), .iface 48 (.int .i64 c), .bool true] w fun e w' => e = .returned (.bool true) ∧ w = w' := by
  obtain ⟨i, hi, hcmp⟩ := Option.map_eq_some_iff.1 Tryz.iErrno
  have heq := fun w => eq_nums (P := Tryz.prog) w c c Tryz.underlying28 Tryz.underlying48 hi hcmp
  rw [show (c == c) = true by simp] at heq
  go_enter Tryz.func69, Tryz.ntmps69
  go_wp2
  go_loopg [0] 0 (fun k x wr => k = 0 ∧ x = .iface 48 (.int .i64 c) ∧ wr = w)
  case atStart => exact ⟨rfl, rfl, rfl⟩
  case round =>
    obtain ⟨_, rfl, rfl⟩ := hrel
    go_wp2
    go_ret
    exact ⟨rfl, rfl⟩
set_option maxHeartbeats 1000000 in
theorem isErr_one (c : Int) (w : World) :
    Calls Tryz.prog 50 #[.iface 48 (.int .i64 c), .iface 48 (.int .i64 c)] w fun e w' => e = .returned (.bool true) ∧ w = w' := by
  have h8 := @run_callFunc_extern Tryz.prog 68 _ ReflectliteType.typeOf Tryz.func68 (by kernel_rfl) (by kernel_rfl) (by kernel_rfl) (by kernel_rfl)
  have tT := Tryz.tErrno
  have cT := Tryz.cErrno
  have mR := Tryz.mComparable
  go_enter Tryz.func50, Tryz.ntmps50
  go_wp2_with fail
  refine (is_one c _).mono ?_
  rintro e w' ⟨rfl, rfl⟩
  go_wp2
  go_ret
  exact ⟨rfl, rfl⟩
theorem isNum_one (c : Int) (hc : c ≠ 0) (w : World) :
    Calls Tryz.prog 27 #[.iface 48 (.int .i64 c), .int .i64 c] w fun e w' => e = .returned (.bool true) ∧ w = w' := by
  have h' : (c == 0) = false := by simpa using hc
  go_enter Tryz.func27, Tryz.ntmps27
  go_wp2_with fail
  refine (isErr_one c _).mono ?_
  rintro e w' ⟨rfl, rfl⟩
  go_wp2
  go_ret
  exact ⟨rfl, rfl⟩
theorem fis_one (c : Int) (hc : c ≠ 0) (bk cap : Nat) (w : World) (h : w.cell? ⟨bk, 0, none⟩ = some (.int .i64 c)) :
    Calls Tryz.prog 13 #[.iface 48 (.int .i64 c), .slice (some ⟨bk, 0, none⟩) 1 cap] w fun e w' => e = .returned (.bool true) ∧ w = w' := by
  go_enter Tryz.func13, Tryz.ntmps13
  go_wp2
  go_loopg [9] 0 (fun k x wr => k = 0 ∧ x = .int .i64 0 ∧ wr = w)
  case atStart => exact ⟨rfl, rfl, rfl⟩
  case round =>
    obtain ⟨_, rfl, rfl⟩ := hrel
    go_wp2_with fail
    refine (isNum_one c hc _).mono ?_
    rintro e w' ⟨rfl, rfl⟩
    go_wp2
    go_ret
    exact ⟨rfl, rfl⟩
end Go.Proofs.YtaapkngpnlnjeaaGreatDoor
