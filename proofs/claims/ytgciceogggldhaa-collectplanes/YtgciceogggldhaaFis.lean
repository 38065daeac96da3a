/- errors.Is and fault.Is of one number: contracts. -/
import Derived.Test.YtgciceogggldhaaProg
import Derived.WalkKit
import Derived.WalkLawsBesides
import Derived.Lib.Hide
import Derived.Deep.LoopGhost
import Derived.Below
import Derived.Laws.BytesArg
import Derived.Stop.Asserts
import Derived.RowKitTokens
namespace Go.Proofs.Ytgciceogggldhaa
open Go.RowKit Go.Extern.Stop Go.Stop Go.Extern

/-- Two interface values that hold numbers of one integer type: equal just as the numbers are. -/
theorem eq_nums {P : Program} (w : World) {ti tn : TypeId} {ms : Array (String × TypeId)} {i : TypeInfo} {k : IntKind} (a b : Int)
    (hi : P.underlying ti = some (.interface ms)) (hn : P.underlying tn = some (.int k)) (hinfo : P.info? tn = some i) (hc : i.comparable = true) :
    (binOp .eql ti (.iface tn (.int k a)) (.iface tn (.int k b))).run P w = .ok (.bool (a == b)) w := by
  have h : ∀ d : Nat, (Op.equalIn (d + 2) ti (.iface tn (.int k a)) (.iface tn (.int k b))).run P w = .ok (a == b) w := fun d => by
    simp [Op.equalIn, run_underlying hi, run_underlying hn, typeInfo, hinfo, hc]
  simp only [binOp]
  simp [Op.equal, Op.maxDepth, h 9998]
theorem Try.mComparable (h : Value) (w : World) : (Go.method 243 101 (.agg #[h]) "Comparable").run Try.prog w = .ok (67, .agg #[h]) w := by kernel_rfl
theorem Try.cErrno (w : World) : (callFunc 67 #[.agg #[.pointer (some ⟨0, 53, none⟩)]]).run Try.prog w = .ok (.value (.bool true)) w := by kernel_rfl
theorem Try.tErrno (v : Value) (w : World) : (ReflectliteType.typeOf #[.iface 53 v]).run Try.prog w = .ok (.iface 101 (.agg #[.pointer (some ⟨0, 53, none⟩)])) w := by kernel_rfl
theorem Try.iErrno : (Try.prog.info? 53).map (·.comparable) = some true := by kernel_rfl
set_option maxHeartbeats 1000000 in
theorem is_one (c : Int) (w : World) :
    Calls Try.prog 43 #[.iface 53 (.int .i64 c), .iface 53 (.int .i64 c), .bool true] w fun e w' => e = .returned (.bool true) ∧ w = w' := by
  obtain ⟨i, hi, hcmp⟩ := Option.map_eq_some_iff.1 Try.iErrno
  have heq := fun w => eq_nums (P := Try.prog) w c c Try.underlying42 Try.underlying53 hi hcmp
  rw [show (c == c) = true by simp] at heq
  go_enter Try.func43, Try.ntmps43
  go_wp2
  go_loopg [0] 0 (fun k x wr => k = 0 ∧ x = .iface 53 (.int .i64 c) ∧ wr = w)
  case atStart => exact ⟨rfl, rfl, rfl⟩
  case round =>
    obtain ⟨_, rfl, rfl⟩ := hrel
    go_wp2
    go_ret
    exact ⟨rfl, rfl⟩
set_option maxHeartbeats 1000000 in
theorem isErr_one (c : Int) (w : World) :
    Calls Try.prog 38 #[.iface 53 (.int .i64 c), .iface 53 (.int .i64 c)] w fun e w' => e = .returned (.bool true) ∧ w = w' := by
  have h8 := @run_callFunc_extern Try.prog 42 _ ReflectliteType.typeOf Try.func42 (by kernel_rfl) (by kernel_rfl) (by kernel_rfl) (by kernel_rfl)
  have tT := Try.tErrno
  have cT := Try.cErrno
  have mR := Try.mComparable
  go_enter Try.func38, Try.ntmps38
  go_wp2_with fail
  refine (is_one c _).mono ?_
  rintro e w' ⟨rfl, rfl⟩
  go_wp2
  go_ret
  exact ⟨rfl, rfl⟩
theorem isNum_one (c : Int) (hc : c ≠ 0) (w : World) :
    Calls Try.prog 32 #[.iface 53 (.int .i64 c), .int .i64 c] w fun e w' => e = .returned (.bool true) ∧ w = w' := by
  have h' : (c == 0) = false := by simpa using hc
  go_enter Try.func32, Try.ntmps32
  go_wp2_with fail
  refine (isErr_one c _).mono ?_
  rintro e w' ⟨rfl, rfl⟩
  go_wp2
  go_ret
  exact ⟨rfl, rfl⟩
theorem fis_one (c : Int) (hc : c ≠ 0) (bk cap : Nat) (w : World) (h : w.cell? ⟨bk, 0, none⟩ = some (.int .i64 c)) :
    Calls Try.prog 16 #[.iface 53 (.int .i64 c), .slice (some ⟨bk, 0, none⟩) 1 cap] w fun e w' => e = .returned (.bool true) ∧ w = w' := by
  go_enter Try.func16, Try.ntmps16
  go_wp2
  go_loopg [9] 0 (fun k x wr => k = 0 ∧ x = .int .i64 0 ∧ wr = w)
  case atStart => exact ⟨rfl, rfl, rfl⟩
  case round =>
    obtain ⟨_, rfl, rfl⟩ := hrel
    go_wp2_with fail
    refine (isNum_one c hc _).mono ?_
    rintro e w' ⟨rfl, rfl⟩
    go_wp2
    go_ret
    exact ⟨rfl, rfl⟩
end Go.Proofs.Ytgciceogggldhaa
