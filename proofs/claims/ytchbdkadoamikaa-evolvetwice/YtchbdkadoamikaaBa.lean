/- Package base: Rule, bit, At, inQuarter, cell, near: contracts. -/
import Derived.Test.YtchbdkadoamikaaB9
import Derived.Test.YtchbdkadoamikaaQm2
import Derived.Lib.BitFns
namespace Go.Proofs.Ytchbdkadoamikaa
open Go.RowKit
set_option maxRecDepth 100000

theorem rule_any (alive : Bool) (n : Int) (w : World) : Calls Try.prog 70 #[.bool alive, .int .i64 n] w fun e w' => e = .returned (.bool (ruleB alive n)) ∧ w = w' := by
  by_cases h3 : n = 3
  · have g : (n == 3) = true := by simpa using h3
    go_enter Try.func70, Try.ntmps70
    go_wp2_with fail
    go_ret
    exact ⟨by simp [ruleB, h3], rfl⟩
  · have g : (n == 3) = false := by simpa using h3
    cases alive with
    | false =>
      go_enter Try.func70, Try.ntmps70
      go_wp2_with fail
      go_ret
      exact ⟨by simp [ruleB, h3], rfl⟩
    | true =>
      go_enter Try.func70, Try.ntmps70
      go_wp2_with fail
      go_ret
      exact ⟨by show Ending.returned (.bool (n == 2)) = .returned (.bool (ruleB true n)); rw [show (n == 2) = ruleB true n by rw [Bool.eq_iff_iff]; simp [ruleB, h3]], rfl⟩
theorem bit_any (x y : Int) (hx : 0 ≤ x ∧ x < 4) (hy : 0 ≤ y ∧ y < 4) (w : World) : Calls Try.prog 84 #[.int .i64 x, .int .i64 y] w fun e w' => e = .returned (.int .i64 (4 * y + x)) ∧ w = w' := by
  have e1 : IntKind.i64.wrap (4 * y) = 4 * y := IntWalk.i64_in _ (by omega)
  have e2 : IntKind.i64.wrap (4 * y + x) = 4 * y + x := IntWalk.i64_in _ (by omega)
  go_enter Try.func84, Try.ntmps84
  go_wp2_with fail
  go_ret
  exact ⟨rfl, rfl⟩
theorem cell_any (alive : Bool) (w : World) : Calls Try.prog 63 #[.bool alive] w fun e w' => e = .returned (.int .u32 ((if alive then 1 else 0 : Nat) : Int)) ∧ w = w' := by
  cases alive with
  | false =>
    go_enter Try.func63, Try.ntmps63
    go_wp2_with fail
    go_ret
    exact ⟨rfl, rfl⟩
  | true =>
    go_enter Try.func63, Try.ntmps63
    go_wp2_with fail
    go_ret
    exact ⟨rfl, rfl⟩
theorem at_in (f : Nat) (hf : f < 65536) (x y : Nat) (hx : x < 4) (hy : y < 4) (w : World) : Calls Try.prog 71 #[.int .u16 (f : Int), .int .i64 (x : Int), .int .i64 (y : Int)] w fun e w' => e = .returned (.bool (f.testBit (4 * y + x))) ∧ w = w' := by
  have g1 : decide ((x : Int) < 0) = false := by simp
  have g3 : decide ((y : Int) < 0) = false := by simp
  have g5 : decide ((4 : Int) ≤ (x : Int)) = false := by simp; omega
  have g6 : decide ((4 : Int) ≤ (y : Int)) = false := by simp; omega
  have hbt := bit_u16 f (4 * y + x) hf
  go_enter Try.func71, Try.ntmps71
  go_wp2_with fail
  refine (bit_any _ _ (by omega) (by omega) _).mono ?_
  rintro e w' ⟨rfl, rfl⟩
  go_wp2_with fail
  go_ret
  exact ⟨rfl, rfl⟩
theorem at_out (f : Nat) (x y : Int) (h : x < 0 ∨ 4 ≤ x ∨ y < 0 ∨ 4 ≤ y) (w : World) : Calls Try.prog 71 #[.int .u16 (f : Int), .int .i64 x, .int .i64 y] w fun e w' => e = .returned (.bool false) ∧ w = w' := by
  by_cases h1 : x < 0
  · have g1 : decide (x < 0) = true := by simpa using h1
    go_enter Try.func71, Try.ntmps71
    go_wp2_with fail
    go_ret
    exact ⟨rfl, rfl⟩
  · have g1 : decide (x < 0) = false := by simpa using h1
    by_cases h2 : 4 ≤ x
    · have g2 : decide (4 ≤ x) = true := by simpa using h2
      go_enter Try.func71, Try.ntmps71
      go_wp2_with fail
      go_ret
      exact ⟨rfl, rfl⟩
    · have g2 : decide (4 ≤ x) = false := by simpa using h2
      by_cases h3 : y < 0
      · have g3 : decide (y < 0) = true := by simpa using h3
        go_enter Try.func71, Try.ntmps71
        go_wp2_with fail
        go_ret
        exact ⟨rfl, rfl⟩
      · have g3 : decide (y < 0) = false := by simpa using h3
        have g4 : decide (4 ≤ y) = true := by simp; omega
        go_enter Try.func71, Try.ntmps71
        go_wp2_with fail
        go_ret
        exact ⟨rfl, rfl⟩
theorem ones_any (x : Nat) (hx : x < 65536) (w : World) : Calls Try.prog 85 #[.int .u16 (x : Int)] w fun e w' => e = .returned (.int .i64 ((pc (fun i => x.testBit i) 16 : Nat) : Int)) ∧ ∃ q, w' = w.drewN q := by
  rw [← ones_two x hx]
  have i0 : (0 : Int) ≤ (x : Int) / 256 := by omega
  have i1 : (x : Int) / 256 ≤ 255 := by omega
  have e2 : bits .and .u16 (x : Int) 255 = (x : Int) % 256 := by
    rw [show (255 : Int) = ((255 : Nat) : Int) from rfl, and_u16 x 255 hx (by omega), show (255 : Nat) = 2 ^ 8 - 1 from rfl, Nat.and_two_pow_sub_one_eq_mod]
    omega
  go_enter Try.func85, Try.ntmps85
  go_wp2_with fail
  generalize hT : Value.string _ = T
  have hT2 : T = .string Lib.pop8tab := hT.symm.trans (by kernel_rfl)
  clear hT
  subst hT2
  have j0 : (0 : Int) ≤ (x : Int) % 256 := by omega
  have j1 : (x : Int) % 256 ≤ 255 := by omega
  have hp : (Lib.pop8 ((x : Int) / 256) + Lib.pop8 ((x : Int) % 256)) % 256 = ((Lib.onesCount (x / 256) + Lib.onesCount (x % 256) : Nat) : Int) := by
    have a1 := Lib.pop8_eq ⟨x / 256, by omega⟩
    have a2 := Lib.pop8_eq ⟨x % 256, by omega⟩
    have b1 := Lib.onesCount_le8 ⟨x / 256, by omega⟩
    have b2 := Lib.onesCount_le8 ⟨x % 256, by omega⟩
    simp only at a1 a2 b1 b2
    rw [show (x : Int) / 256 = ((x / 256 : Nat) : Int) by omega, show (x : Int) % 256 = ((x % 256 : Nat) : Int) by omega, a1, a2]
    omega
  go_quiet (fail)
  rw [hp]
  go_wp2_with fail
  go_ret
  exact ⟨rfl, _, rfl⟩
theorem near_any (f : Nat) (hf : f < 65536) (x y : Nat) (hx : x = 1 ∨ x = 2) (hy : y = 1 ∨ y = 2) (w : World) : Calls Try.prog 72 #[.int .u16 (f : Int), .int .i64 (x : Int), .int .i64 (y : Int)] w fun e w' => e = .returned (.int .i64 (nearF f x y : Int)) ∧ ∃ q, w' = w.drewN q := by
  have e1 : IntKind.i64.wrap ((x : Int) - 1) = (x : Int) - 1 := IntWalk.i64_in _ (by omega)
  have e2 : IntKind.i64.wrap ((y : Int) - 1) = (y : Int) - 1 := IntWalk.i64_in _ (by omega)
  have hk : 4 * ((y : Int) - 1) + ((x : Int) - 1) = ((4 * (y - 1) + (x - 1) : Nat) : Int) := by omega
  have ha : around x y < 65536 := by
    rcases hx with rfl | rfl <;> rcases hy with rfl | rfl <;> decide
  have hand := and_u16 f (around x y) hf ha
  have hc := ones_any (f &&& around x y) (by have : f &&& around x y ≤ f := Nat.and_le_left; omega)
  have hpc : pc (fun i => (f &&& around x y).testBit i) 16 = nearF f x y := by
    unfold nearF
    simp only [Nat.testBit_and]
  rw [hpc] at hc
  go_enter Try.func72, Try.ntmps72
  go_wp2_with fail
  refine (bit_any _ _ (by omega) (by omega) _).mono ?_
  rintro e w' ⟨rfl, rfl⟩
  rw [hk]
  go_wp2_with fail
  have hw : IntKind.u16.wrap (1879 * 2 ^ (4 * (y - 1) + (x - 1))) = (around x y : Int) := by
    rw [show (1879 * 2 ^ (4 * (y - 1) + (x - 1)) : Int) = ((around x y : Nat) : Int) by unfold around; rw [Int.natCast_mul, Int.natCast_pow]; rfl]
    exact IntWalk.u16_in _ (by omega)
  rw [hw, hand]
  refine (hc _).mono ?_
  rintro e w' ⟨rfl, q, rfl⟩
  go_wp2_with fail
  go_ret
  exact ⟨rfl, _, rfl⟩
/-- The place of a cell of a quarter. -/
def inQ (i j : Nat) : Nat := 4 * (2 * (i / 2) + j / 2) + (2 * (i % 2) + j % 2)
theorem inQ_lt {i j : Nat} (hi : i < 4) (hj : j < 4) : inQ i j < 16 := by unfold inQ; omega
theorem and_one (i : Nat) (hi : i < 4) : bits .and .i64 (i : Int) 1 = ((i % 2 : Nat) : Int) := by
  rcases (show i = 0 ∨ i = 1 ∨ i = 2 ∨ i = 3 by omega) with rfl | rfl | rfl | rfl <;> decide
theorem inQ_any (i j : Nat) (hi : i < 4) (hj : j < 4) (w : World) : Calls Try.prog 69 #[.int .i64 (i : Int), .int .i64 (j : Int)] w fun e w' => e = .returned (.int .i64 (inQ i j : Int)) ∧ w = w' := by
  have a1 := and_one i hi
  have a2 := and_one j hj
  have hbt := bit_any (2 * ((i : Int) % 2) + (j : Int) % 2) (2 * ((i : Int) / 2) + (j : Int) / 2) (by omega) (by omega)
  rw [show 4 * (2 * ((i : Int) / 2) + (j : Int) / 2) + (2 * ((i : Int) % 2) + (j : Int) % 2) = (inQ i j : Int) by unfold inQ; omega] at hbt
  go_enter Try.func69, Try.ntmps69
  go_wp2_with fail
  refine (hbt _).mono ?_
  rintro e w' ⟨rfl, rfl⟩
  go_wp2_with fail
  go_ret
  exact ⟨rfl, rfl⟩
end Go.Proofs.Ytchbdkadoamikaa
