/- What errors.Is answers for a chain of Faults: contracts, used by the laws' proofs. -/
import Derived.Test.YtbliddmkmieppaaDoorAsE
namespace Go.Proofs.YtbliddmkmieppaaDoor
open Go.RowKit Go.Extern.Stop Go.Stop Go.Extern

/-- Two interface values that hold numbers of one integer type: equal just as the numbers are. -/
theorem eql_nums {P : Program} (w : World) {ti tn : TypeId} {ms : Array (String × TypeId)} {i : TypeInfo} {k : IntKind} (a b : Int)
    (hi : P.underlying ti = some (.interface ms)) (hn : P.underlying tn = some (.int k)) (hinfo : P.info? tn = some i) (hc : i.comparable = true) :
    (binOp .eql ti (.iface tn (.int k a)) (.iface tn (.int k b))).run P w = .ok (.bool (a == b)) w := by
  have h : ∀ d : Nat, (Op.equalIn (d + 2) ti (.iface tn (.int k a)) (.iface tn (.int k b))).run P w = .ok (a == b) w := fun d => by
    simp [Op.equalIn, run_underlying hi, run_underlying hn, typeInfo, hinfo, hc]
  simp only [binOp]
  simp [Op.equal, Op.maxDepth, h 9998]

theorem Tryd.methodComparable (h : Value) (w : World) : (Go.method 220 80 (.agg #[h]) "Comparable").run Tryd.prog w = .ok (70, .agg #[h]) w := by kernel_rfl
theorem Tryd.comparableE (w : World) : (callFunc 70 #[.agg #[.pointer (some ⟨1, 45, none⟩)]]).run Tryd.prog w = .ok (.value (.bool true)) w := by kernel_rfl
theorem Tryd.compE : (Tryd.prog.info? 45).map (·.comparable) = some true := by kernel_rfl
end Go.Proofs.YtbliddmkmieppaaDoor
