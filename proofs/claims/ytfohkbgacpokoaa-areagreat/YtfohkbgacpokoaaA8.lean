/- Package area: the small functions: contracts. -/
import Derived.Test.YtfohkbgacpokoaaS8
import Derived.Test.YtfohkbgacpokoaaQm
import Derived.Test.YtfohkbgacpokoaaGr8
namespace Go.Proofs.Ytfohkbgacpokoaa
open Go.RowKit Go.Maps
set_option maxRecDepth 100000

theorem pow_62 {n : Nat} (h : n ≤ 62) : (2 : Int) ^ n ≤ 4611686018427387904 := by
  have h1 : (2 : Nat) ^ n ≤ 2 ^ 62 := Nat.pow_le_pow_right (by decide) h
  have h2 : ((2 ^ n : Nat) : Int) ≤ ((2 ^ 62 : Nat) : Int) := Int.ofNat_le.2 h1
  rw [Int.natCast_pow] at h2
  exact h2
theorem side8_any (n : Nat) (h : n ≤ 62) (w : World) : Calls Try.prog 52 #[.int .i64 (n : Int)] w fun e w' => e = .returned (.int .i64 (2 ^ n)) ∧ w = w' := by
  have h0 := pow_pos2 n
  have h1 := pow_62 h
  have e1 : wrap64 (2 ^ n) = 2 ^ n := IntWalk.wrap64_in _ (by omega)
  go_enter Try.func52, Try.ntmps52
  go_wp2
  go_ret
  exact ⟨rfl, rfl⟩
/-- The same, at a level that is one less. -/
theorem side8_pred (n : Nat) (h : n ≤ 62) (w : World) : Calls Try.prog 52 #[.int .i64 ((n : Int) + 1 - 1)] w fun e w' => e = .returned (.int .i64 (2 ^ n)) ∧ w = w' := by
  rw [Int.add_sub_cancel]; exact side8_any n h w
theorem first_any (n : Nat) (h : n < 62) (c d : Bool) (w : World) : Calls Try.prog 50 #[.int .i64 ((n : Int) + 1), .int .i64 (pl c d : Int)] w fun e w' => e = .returned (.agg #[.int .i64 (off n c), .int .i64 (off n d)]) ∧ Below w.heap.size w w' := by
  have h0 := pow_pos2 n
  have h1 := pow_61 h
  have e1 : wrap64 (2 ^ n) = 2 ^ n := IntWalk.wrap64_in _ (by omega)
  have HSD := Lib.hid (side8_any n (by omega))
  cases c <;> cases d <;> simp only [pl, off, Bool.false_eq_true, if_false, if_true]
  all_goals
    go_enter Try.func50, Try.ntmps50
    go_wp2_with fail
    refine (HSD.out _).mono ?_
    rintro e W1 ⟨rfl, rfl⟩
    go_wp2
    refine bodyPost_ret (v := _) (by simp [results, Try.results50, go_sem]; rfl) rfl ?_
    exact ⟨rfl, by go_grown⟩
theorem span8_any (n : Nat) (h : n < 62) (w : World) : Calls Try.prog 33 #[.int .i64 ((n : Int) + 1)] w fun e w' => e = .returned (.agg #[.int .i64 (-2 ^ n), .int .i64 (-2 ^ n), .int .i64 (2 ^ n), .int .i64 (2 ^ n)]) ∧ Below w.heap.size w w' := by
  have h0 := pow_pos2 n
  have h1 := pow_61 h
  have e1 : wrap64 (2 ^ n) = 2 ^ n := IntWalk.wrap64_in _ (by omega)
  have e2 : wrap64 (-2 ^ n) = -2 ^ n := IntWalk.wrap64_in _ (by omega)
  have HSD := Lib.hid (side8_any n (by omega))
  go_enter Try.func33, Try.ntmps33
  go_wp2_with fail
  refine (HSD.out _).mono ?_
  rintro e W1 ⟨rfl, rfl⟩
  go_wp2
  refine bodyPost_ret (v := _) (by simp [results, Try.results33, go_sem]; rfl) rfl ?_
  exact ⟨rfl, by go_grown⟩
/-- Within int64. -/
def I64 (z : Int) : Prop := -9223372036854775808 ≤ z ∧ z ≤ 9223372036854775807
theorem plus_any (x y a b : Int) (h1 : I64 (x + a)) (h2 : I64 (y + b)) (w : World) : Calls Try.prog 51 #[.agg #[.int .i64 x, .int .i64 y], .agg #[.int .i64 a, .int .i64 b]] w fun e w' => e = .returned (.agg #[.int .i64 (x + a), .int .i64 (y + b)]) ∧ Below w.heap.size w w' := by
  have e1 : wrap64 (x + a) = x + a := IntWalk.wrap64_in _ (by unfold I64 at h1; omega)
  have e2 : wrap64 (y + b) = y + b := IntWalk.wrap64_in _ (by unfold I64 at h2; omega)
  clear h1 h2
  go_enter Try.func51, Try.ntmps51
  go_wp2
  go_returns
  exact ⟨rfl, by go_grown⟩
theorem minus_any (x y : Int) (h1 : I64 (-x)) (h2 : I64 (-y)) (w : World) : Calls Try.prog 37 #[.agg #[.int .i64 x, .int .i64 y]] w fun e w' => e = .returned (.agg #[.int .i64 (-x), .int .i64 (-y)]) ∧ Below w.heap.size w w' := by
  have e1 : wrap64 (-x) = -x := IntWalk.wrap64_in _ (by unfold I64 at h1; omega)
  have e2 : wrap64 (-y) = -y := IntWalk.wrap64_in _ (by unfold I64 at h2; omega)
  clear h1 h2
  go_enter Try.func37, Try.ntmps37
  go_wp2
  go_returns
  exact ⟨rfl, by go_grown⟩
theorem isPlane_any {w : World} {sb g tb cap most : Nat} {N : List Nd} (h : St w sb g tb cap most N) (x : Nat) (hx : x < 4294967296) : Calls Try.prog 20 #[.agg #[.pointer (some ⟨sb, 0, none⟩), .int .u32 (x : Int)]] w fun e w' => e = .returned (.bool (decide (3 ≤ lvZ N x))) ∧ Below w.heap.size w w' := by
  have HB := Lib.hid (bel1 w (.cells #[.pointer (some ⟨sb, 0, none⟩), .int .u32 (x : Int)] 31))
  have HS := Lib.hid (h.later HB.out)
  clear h
  go_enter Try.func20, Try.ntmps20
  go_wp2_with fail
  refine (level_any HS.out x hx).mono ?_
  rintro e W1 ⟨rfl, rfl⟩
  go_wp2
  go_ret
  exact ⟨rfl, HB.out⟩
theorem isPlane_nil (w : World) : Calls Try.prog 20 #[.agg #[.pointer none, .int .u32 0]] w fun e w' => e = .returned (.bool false) ∧ Below w.heap.size w w' := by
  have HLV := Lib.hid (fun w => level_nil 0 (by omega) w)
  go_enter Try.func20, Try.ntmps20
  go_wp2_with fail
  refine (HLV.out _).mono ?_
  rintro e W1 ⟨rfl, rfl⟩
  go_wp2
  go_ret
  exact ⟨rfl, by go_grown⟩
end Go.Proofs.Ytfohkbgacpokoaa
