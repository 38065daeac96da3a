/- Package quad: the small functions: contracts. -/
import Derived.Test.YtchbdkadoamikaaS7b
import Derived.Test.YtchbdkadoamikaaGr7
import Derived.Test.YtchbdkadoamikaaEm6
namespace Go.Proofs.Ytchbdkadoamikaa
open Go.RowKit Go.Maps
set_option maxRecDepth 100000

theorem pow_61 {n : Nat} (h : n < 62) : (2 : Int) ^ n ≤ 2305843009213693952 := by
  have h1 : (2 : Nat) ^ n ≤ 2 ^ 61 := Nat.pow_le_pow_right (by decide) (by omega)
  have h2 : ((2 ^ n : Nat) : Int) ≤ ((2 ^ 61 : Nat) : Int) := Int.ofNat_le.2 h1
  rw [Int.natCast_pow] at h2
  exact h2
theorem below_drewN {B : Nat} {w W : World} (h : Below B w W) (q : Nat) : Below B w (W.drewN q) := ⟨h.os, h.tape, h.output, h.size, h.block⟩
theorem bel2 (w : World) (o1 o2 : Obj) : Below w.heap.size w ((w.alloc o1).alloc o2) := (bel1 w o1).trans ((bel1 _ o2).mono (by simp))
theorem bel3 (w : World) (o1 o2 o3 : Obj) : Below w.heap.size w (((w.alloc o1).alloc o2).alloc o3) := (bel2 w o1 o2).trans ((bel1 _ o3).mono (by simp; omega))
theorem and_one7 (z : Int) : bits .and .i64 z 1 = z % 2 := by
  have h1 : (BitVec.ofInt 64 1).toNat = 2 ^ 1 - 1 := by decide
  have key : (BitVec.ofInt 64 z &&& BitVec.ofInt 64 1).toNat = (z % ((2 ^ 64 : Nat) : Int)).toNat % 2 ^ 1 := by
    rw [BitVec.toNat_and, BitVec.toNat_ofInt, h1, Nat.and_two_pow_sub_one_eq_mod]
  show IntKind.i64.wrap ((BitVec.ofInt 64 z &&& BitVec.ofInt 64 1).toNat : Nat) = z % 2
  rw [key, IntKind.wrap_i64]
  omega
/-- Which of four. -/
def qn (r b : Bool) : Nat := (if r then 1 else 0) + 2 * (if b then 1 else 0)
theorem bit_qb (X : Int) (n : Nat) : X / 2 ^ n % 2 = ((if qb n X then 1 else 0 : Nat) : Int) := by
  unfold qb
  rcases Int.emod_two_eq (X / 2 ^ n) with h | h
  · rw [h]; simp
  · rw [h]; simp
end Go.Proofs.Ytchbdkadoamikaa
