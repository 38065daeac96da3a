/- errors.Is and fault.Is of one number: contracts. -/
import Derived.Test.YtjndfdhjipfijaaDoorProg
import Derived.WalkKit
import Derived.WalkLawsBesides
import Derived.Lib.Hide
import Derived.Deep.LoopGhost
import Derived.Below
import Derived.Laws.BytesArg
import Derived.Stop.Asserts
import Derived.RowKitTokens
namespace Go.Proofs.YtjndfdhjipfijaaDoor
open Go.RowKit Go.Extern.Stop Go.Stop Go.Extern

/-- Two interface values that hold numbers of one integer type: equal just as the numbers are. -/
theorem eq_nums {P : Program} (w : World) {ti tn : TypeId} {ms : Array (String × TypeId)} {i : TypeInfo} {k : IntKind} (a b : Int)
    (hi : P.underlying ti = some (.interface ms)) (hn : P.underlying tn = some (.int k)) (hinfo : P.info? tn = some i) (hc : i.comparable = true) :
    (binOp .eql ti (.iface tn (.int k a)) (.iface tn (.int k b))).run P w = .ok (.bool (a == b)) w := by
  have h : ∀ d : Nat, (Op.equalIn (d + 2) ti (.iface tn (.int k a)) (.iface tn (.int k b))).run P w = .ok (a == b) w := fun d => by
    simp [Op.equalIn, run_underlying hi, run_underlying hn, typeInfo, hinfo, hc]
  simp only [binOp]
  simp [Op.equal, Op.maxDepth, h 9998]
theorem Tryd.mComparable (h : Value) (w : World) : (Go.method 233 92 (.agg #[h]) "Comparable").run Tryd.prog w = .ok (57, .agg #[h]) w := by kernel_rfl
theorem Tryd.cErrno (w : World) : (callFunc 57 #[.agg #[.pointer (some ⟨1, 41, none⟩)]]).run Tryd.prog w = .ok (.value (.bool true)) w := by kernel_rfl
theorem Tryd.tErrno (v : Value) (w : World) : (ReflectliteType.typeOf #[.iface 41 v]).run Tryd.prog w = .ok (.iface 92 (.agg #[.pointer (some ⟨1, 41, none⟩)])) w := by kernel_rfl
theorem Tryd.iErrno : (Tryd.prog.info? 41).map (·.comparable) = some true := by kernel_rfl
end Go.Proofs.YtjndfdhjipfijaaDoor
