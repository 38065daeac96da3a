/- Arrays of four uint32 compared: run equations. -/
import Derived.Test.YtjndfdhjipfijaaDoorRf6
namespace Go.Proofs.YtjndfdhjipfijaaDoor
open Go.RowKit
set_option maxRecDepth 100000

theorem arr_equal {t e : TypeId} (hu : Tryd.prog.underlying t = some (.array 4 e)) (hv : Tryd.prog.underlying e = some (.int .u32)) (hs : ∀ w, (sizeOf e).run Tryd.prog w = .ok 1 w)
    (hp : ∀ (a b c d : Value) (w : World), (part e #[a, b, c, d] 0).run Tryd.prog w = .ok a w ∧ (part e #[a, b, c, d] 1).run Tryd.prog w = .ok b w ∧ (part e #[a, b, c, d] 2).run Tryd.prog w = .ok c w ∧ (part e #[a, b, c, d] 3).run Tryd.prog w = .ok d w)
    (a b c d a' b' c' d' : Int) (W : World) (q : Nat) : (Op.equalIn (q + 2) t (.agg #[.int .u32 a, .int .u32 b, .int .u32 c, .int .u32 d]) (.agg #[.int .u32 a', .int .u32 b', .int .u32 c', .int .u32 d'])).run Tryd.prog W = .ok (a == a' && (b == b' && (c == c' && d == d'))) W := by
  have h1 : ∀ (q : Nat) (x y : Int) (w : World), (Op.equalIn (q + 1) e (.int .u32 x) (.int .u32 y)).run Tryd.prog w = .ok (x == y) w := fun q x y w => by
    simp [Op.equalIn, run_underlying hv]
  have p0 := fun x y z t w => (hp x y z t w).1
  have p1 := fun x y z t w => (hp x y z t w).2.1
  have p2 := fun x y z t w => (hp x y z t w).2.2.1
  have p3 := fun x y z t w => (hp x y z t w).2.2.2
  rw [Op.equalIn]
  simp only [Sem.run_bind, run_underlying hu, Result.andThen_ok, hs, Std.Legacy.Range.forIn_eq_forIn_range', Std.Legacy.Range.size, List.range', List.forIn_cons, List.forIn_nil, Nat.mul_one, Nat.zero_add, Nat.reduceAdd, p0, h1]
  by_cases e1 : a = a' <;> by_cases e2 : b = b' <;> by_cases e3 : c = c' <;> by_cases e4 : d = d' <;> simp [p1, p2, p3, h1, Sem.run_bind, e1, e2, e3, e4]
def k4b (k l : K4) : Bool := decide (k = l)
theorem k4_bool (k l : K4) : ((k.1 : Int) == (l.1 : Int) && ((k.2.1 : Int) == (l.2.1 : Int) && ((k.2.2.1 : Int) == (l.2.2.1 : Int) && (k.2.2.2 : Int) == (l.2.2.2 : Int)))) = k4b k l := by
  unfold k4b
  obtain ⟨a, b, c, d⟩ := k
  obtain ⟨a', b', c', d'⟩ := l
  rw [Bool.eq_iff_iff]
  simp only [Bool.and_eq_true, beq_iff_eq, decide_eq_true_eq, Prod.mk.injEq]
  omega
theorem arrR_eq (k l : K4) (W : World) : (binOp .eql 48 (.agg #[.int .u32 (k.1 : Int), .int .u32 (k.2.1 : Int), .int .u32 (k.2.2.1 : Int), .int .u32 (k.2.2.2 : Int)]) (.agg #[.int .u32 (l.1 : Int), .int .u32 (l.2.1 : Int), .int .u32 (l.2.2.1 : Int), .int .u32 (l.2.2.2 : Int)])).run Tryd.prog W = .ok (.bool (k4b k l)) W := by
  simp only [binOp]
  simp [Op.equal, Op.maxDepth, arr_equal Tryd.underlying48 Tryd.underlying35 Tryd.sizeOf35 (fun a b c d w => ⟨by kernel_rfl, by kernel_rfl, by kernel_rfl, by kernel_rfl⟩) k.1 k.2.1 k.2.2.1 k.2.2.2 l.1 l.2.1 l.2.2.1 l.2.2.2 W 9998]
  exact k4_bool k l
theorem arrK_ne (k l : K4) (W : World) : (binOp .neq 52 (.agg #[.int .u32 (k.1 : Int), .int .u32 (k.2.1 : Int), .int .u32 (k.2.2.1 : Int), .int .u32 (k.2.2.2 : Int)]) (.agg #[.int .u32 (l.1 : Int), .int .u32 (l.2.1 : Int), .int .u32 (l.2.2.1 : Int), .int .u32 (l.2.2.2 : Int)])).run Tryd.prog W = .ok (.bool (!k4b k l)) W := by
  simp only [binOp]
  simp [Op.equal, Op.maxDepth, arr_equal Tryd.underlying52 Tryd.underlying36 Tryd.sizeOf36 (fun a b c d w => ⟨by kernel_rfl, by kernel_rfl, by kernel_rfl, by kernel_rfl⟩) k.1 k.2.1 k.2.2.1 k.2.2.2 l.1 l.2.1 l.2.2.1 l.2.2.2 W 9998]
  rw [← k4_bool k l]
  simp
end Go.Proofs.YtjndfdhjipfijaaDoor
