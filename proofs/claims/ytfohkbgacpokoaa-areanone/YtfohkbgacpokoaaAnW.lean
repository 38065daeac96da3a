/- The law AreaNone, of the numbers that came in. -/
import Derived.Test.YtfohkbgacpokoaaAn8
namespace Go.Proofs.Ytfohkbgacpokoaa
open Go.RowKit

theorem anone_walk (x y m : Int) (hm : (Lit.int .i64 m).wf = true) (w : World) : Calls Try.prog 4 #[.agg #[.int .i64 x, .int .i64 y], .int .i64 m] w fun e w' => e = .returned (.bool true) ∧ Below w.heap.size w w' := by
  refine anone_any x y m ?_ w
  simp [Lit.wf, IntKind.min, IntKind.max, IntKind.bits, IntKind.signed] at hm
  omega
end Go.Proofs.Ytfohkbgacpokoaa
