/- Package quad: the small functions: contracts. -/
import Derived.Test.YtgciceogggldhaaS7b
import Derived.Test.YtgciceogggldhaaGr7
import Derived.Test.YtgciceogggldhaaEm6
namespace Go.Proofs.Ytgciceogggldhaa
open Go.RowKit Go.Maps
set_option maxRecDepth 100000

theorem pow_61 {n : Nat} (h : n < 62) : (2 : Int) ^ n ≤ 2305843009213693952 := by
  have h1 : (2 : Nat) ^ n ≤ 2 ^ 61 := Nat.pow_le_pow_right (by decide) (by omega)
  have h2 : ((2 ^ n : Nat) : Int) ≤ ((2 ^ 61 : Nat) : Int) := Int.ofNat_le.2 h1
  rw [Int.natCast_pow] at h2
  exact h2
theorem below_drewN {B : Nat} {w W : World} (h : Below B w W) (q : Nat) : Below B w (W.drewN q) := ⟨h.os, h.tape, h.output, h.size, h.block⟩
theorem bel2 (w : World) (o1 o2 : Obj) : Below w.heap.size w ((w.alloc o1).alloc o2) := (bel1 w o1).trans ((bel1 _ o2).mono (by simp))
theorem bel3 (w : World) (o1 o2 o3 : Obj) : Below w.heap.size w (((w.alloc o1).alloc o2).alloc o3) := (bel2 w o1 o2).trans ((bel1 _ o3).mono (by simp; omega))
theorem and_one7 (z : Int) : bits .and .i64 z 1 = z % 2 := by
  have h1 : (BitVec.ofInt 64 1).toNat = 2 ^ 1 - 1 := by decide
  have key : (BitVec.ofInt 64 z &&& BitVec.ofInt 64 1).toNat = (z % ((2 ^ 64 : Nat) : Int)).toNat % 2 ^ 1 := by
    rw [BitVec.toNat_and, BitVec.toNat_ofInt, h1, Nat.and_two_pow_sub_one_eq_mod]
  show IntKind.i64.wrap ((BitVec.ofInt 64 z &&& BitVec.ofInt 64 1).toNat : Nat) = z % 2
  rw [key, IntKind.wrap_i64]
  omega
theorem across_any (i : Nat) (hi : i < 4) (w : World) : Calls Try.prog 45 #[.int .i64 (i : Int)] w fun e w' => e = .returned (.int .i64 (3 - (i : Int))) ∧ w = w' := by
  have h1 : IntKind.i64.wrap (3 - (i : Int)) = 3 - (i : Int) := IntWalk.i64_in _ (by omega)
  go_enter Try.func45, Try.ntmps45
  go_wp2
  go_ret
  exact ⟨rfl, rfl⟩
theorem span_any (n : Nat) (h : n < 62) (w : World) : Calls Try.prog 28 #[.int .i64 ((n : Int) + 1)] w fun e w' => e = .returned (.agg #[.int .i64 (-2 ^ n), .int .i64 (-2 ^ n), .int .i64 (2 ^ n), .int .i64 (2 ^ n)]) ∧ Below w.heap.size w w' := by
  have h0 := pow_pos2 n
  have h1 := pow_61 h
  have e1 : wrap64 (2 ^ n) = 2 ^ n := IntWalk.wrap64_in _ (by omega)
  have e2 : wrap64 (-2 ^ n) = -2 ^ n := IntWalk.wrap64_in _ (by omega)
  go_enter Try.func28, Try.ntmps28
  go_wp2
  refine bodyPost_ret (v := _) (by simp [results, Try.results28, go_sem]; rfl) rfl ?_
  exact ⟨rfl, bel1 _ _⟩
/-- Which of four. -/
def qn (r b : Bool) : Nat := (if r then 1 else 0) + 2 * (if b then 1 else 0)
theorem bit_qb (X : Int) (n : Nat) : X / 2 ^ n % 2 = ((if qb n X then 1 else 0 : Nat) : Int) := by
  unfold qb
  rcases Int.emod_two_eq (X / 2 ^ n) with h | h
  · rw [h]; simp
  · rw [h]; simp
theorem quarter_any (X Y : Int) (n : Nat) (h : n < 62) (w : World) : Calls Try.prog 31 #[.agg #[.int .i64 X, .int .i64 Y], .int .i64 ((n : Int) + 1)] w fun e w' => e = .returned (.int .i64 (qn (qb n X) (qb n Y) : Int)) ∧ Below w.heap.size w w' := by
  have a1 : bits .and .i64 (X / 2 ^ n) 1 = ((if qb n X then 1 else 0 : Nat) : Int) := by rw [and_one7, bit_qb]
  have a2 : bits .and .i64 (Y / 2 ^ n) 1 = ((if qb n Y then 1 else 0 : Nat) : Int) := by rw [and_one7, bit_qb]
  have q1 : (if qb n X then 1 else 0 : Nat) ≤ 1 := by split <;> omega
  have q2 : (if qb n Y then 1 else 0 : Nat) ≤ 1 := by split <;> omega
  unfold qn
  generalize (if qb n X then 1 else 0 : Nat) = p at *
  generalize (if qb n Y then 1 else 0 : Nat) = q at *
  go_enter Try.func31, Try.ntmps31
  go_wp2_with fail
  go_quiet (fail)
  go_wp2
  go_ret
  exact ⟨rfl, below_drewN (bel1 _ _) _⟩
theorem fieldFrom (a b c d : Value) (w : World) : (Instr.field 78 (.agg #[a, b, c, d]) 0).run Try.prog w = .ok (.agg #[a, b]) w := by kernel_rfl
theorem fromCorner_any (a b : Int) (n : Nat) (h : n < 62) (ha : inS n a = true) (hb : inS n b = true) (w : World) : Calls Try.prog 30 #[.agg #[.int .i64 a, .int .i64 b], .int .i64 ((n : Int) + 1)] w fun e w' => e = .returned (.agg #[.int .i64 (a + 2 ^ n), .int .i64 (b + 2 ^ n)]) ∧ Below w.heap.size w w' := by
  have hf := fieldFrom
  have h0 := pow_61 h
  rw [inS_iff] at ha hb
  have e1 : wrap64 (a + 2 ^ n) = a + 2 ^ n := IntWalk.wrap64_in _ (by omega)
  have e2 : wrap64 (b + 2 ^ n) = b + 2 ^ n := IntWalk.wrap64_in _ (by omega)
  clear ha hb h0
  go_enter Try.func30, Try.ntmps30
  go_wp2_with fail
  refine (span_any n h _).mono ?_
  rintro e W1 ⟨rfl, hb⟩
  have HB : Hid (Below w.heap.size w W1) := (bel2 w _ _).trans (hb.mono (by simp; omega))
  obtain ⟨c0, c1, _, _⟩ := ((((pt_new w a b 27).later (bel1 _ _)).later hb).later (bel1 W1 (.cells #[.int .i64 (-2 ^ n), .int .i64 (-2 ^ n)] 27))).two
  have HR := Lib.hid (((pt_new (w.alloc (.cells #[.int .i64 a, .int .i64 b] 27)) 0 0 27).later hb).later (bel1 W1 (.cells #[.int .i64 (-2 ^ n), .int .i64 (-2 ^ n)] 27)))
  obtain ⟨r0, r1, f0, f1⟩ := HR.out.two
  have es : (w.alloc (.cells #[.int .i64 a, .int .i64 b] 27)).heap.size = w.heap.size + 1 := by simp
  rw [es] at r0 r1 f0 f1 HR
  clear hb es
  have HB2 : Hid (Below w.heap.size w (W1.alloc (.cells #[.int .i64 (-2 ^ n), .int .i64 (-2 ^ n)] 27))) := HB.out.trans ((bel1 _ _).mono HB.out.size)
  go_wp2
  obtain ⟨W, hW, hb, hn⟩ := put_two HR.out HB2.out (by omega) (a + 2 ^ n) (b + 2 ^ n)
  rw [hW]
  obtain ⟨q0, q1, _⟩ := hn.two
  refine bodyPost_ret (v := _) (by simp [results, Try.results30, go_sem, q0, q1]; rfl) rfl ?_
  exact ⟨rfl, hb⟩
theorem right_any {w : World} {sb g tb cap most : Nat} {N : List Nd} (h : St w sb g tb cap most N) (x : Nat) (hx : x < 4294967296) : Calls Try.prog 27 #[.agg #[.pointer (some ⟨sb, 0, none⟩), .int .u32 (x : Int)]] w fun e w' => e = .returned (.bool (decide (3 ≤ lvZ N x))) ∧ Below w.heap.size w w' := by
  have HB := Lib.hid (bel1 w (.cells #[.pointer (some ⟨sb, 0, none⟩), .int .u32 (x : Int)] 36))
  have HS := Lib.hid (h.later HB.out)
  clear h
  go_enter Try.func27, Try.ntmps27
  go_wp2_with fail
  refine (level_any HS.out x hx).mono ?_
  rintro e W1 ⟨rfl, rfl⟩
  go_wp2
  go_ret
  exact ⟨rfl, HB.out⟩
end Go.Proofs.Ytgciceogggldhaa
