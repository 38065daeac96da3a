/- The law GridRects, at any arguments. -/
import Derived.Test.YtlafbkehlglfoaaDoorGRa
namespace Go.Proofs.YtlafbkehlglfoaaDoor
open Go.RowKit

theorem grects_any (x y X Y a b c d u v : Int) (w : World) (h : Tab16 w) :
    Calls Tryd.prog 4 #[.agg #[.int .i64 x, .int .i64 y, .int .i64 X, .int .i64 Y], .agg #[.int .i64 a, .int .i64 b, .int .i64 c, .int .i64 d], .agg #[.int .i64 u, .int .i64 v]] w fun e w' => e = .returned (.bool true) ∧ Below w.heap.size w w' := by
  cases hf : [x, y, X, Y].all (inB 4611686018427387904) && [a, b, c, d].all (inB 4611686018427387904) with
  | false => exact grects_out x y X Y a b c d u v w h hf
  | true =>
    have hf' : [x, y, X, Y].all (inB 4611686018427387904) = true ∧ [a, b, c, d].all (inB 4611686018427387904) = true := by
      rw [Bool.and_eq_true] at hf
      exact hf
    exact grects_in x y X Y a b c d u v w h hf'.1 hf'.2
end Go.Proofs.YtlafbkehlglfoaaDoor
