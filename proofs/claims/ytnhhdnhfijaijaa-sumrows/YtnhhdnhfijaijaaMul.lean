/- Products of numbers of 32 bits, as the steps multiply: plain mathematics: steps by squaring. -/
import Derived.Test.YtnhhdnhfijaijaaCrc
namespace Go.Proofs.Ytnhhdnhfijaijaa

/-- The first k bits of b, the greatest first: a step each, and a where the bit is 1. -/
def hor (a b : BitVec 32) : Nat → BitVec 32
  | 0 => 0#32
  | k + 1 => stp (hor a b k) ^^^ (if b.getLsbD (31 - k) then a else 0#32)
def mul (a b : BitVec 32) : BitVec 32 := hor a b 32
/-- What is linear and lets steps pass lets products pass. -/
theorem hor_map (f : BitVec 32 → BitVec 32) (h0 : f 0#32 = 0#32) (hx : ∀ a b, f (a ^^^ b) = f a ^^^ f b) (hs : ∀ a, f (stp a) = stp (f a)) (a b : BitVec 32) (k : Nat) : f (hor a b k) = hor (f a) b k := by
  induction k with
  | zero => exact h0
  | succ k ih =>
    simp only [hor]
    rw [hx, hs, ih]
    congr 1
    split
    · rfl
    · exact h0
theorem hor_zero (b : BitVec 32) (k : Nat) : hor 0#32 b k = 0#32 := by
  induction k with
  | zero => rfl
  | succ k ih => simp [hor, ih, stp_zero]
theorem hor_xor (a c b : BitVec 32) (k : Nat) : hor (a ^^^ c) b k = hor a b k ^^^ hor c b k := by
  induction k with
  | zero => simp [hor]
  | succ k ih =>
    simp only [hor]
    rw [ih, stp_xor, xor4]
    congr 1
    split <;> simp
theorem hor_stp (a b : BitVec 32) (k : Nat) : hor (stp a) b k = stp (hor a b k) := (hor_map stp stp_zero stp_xor (fun _ => rfl) a b k).symm
theorem stps_stp (n : Nat) (a : BitVec 32) : stps n (stp a) = stp (stps n a) := by
  induction n generalizing a with
  | zero => rfl
  | succ n ih => simp only [stps]; rw [ih]
theorem stps_next (n : Nat) (a : BitVec 32) : stps (n + 1) a = stp (stps n a) := by
  simp only [stps]
  exact stps_stp n a
theorem hor_one (a : BitVec 32) (k : Nat) (h : k ≤ 32) : hor 1#32 a k = a >>> (32 - k) := by
  induction k with
  | zero =>
    apply BitVec.eq_of_getLsbD_eq
    intro i hi
    simp [hor]
  | succ k ih =>
    simp only [hor]
    rw [ih (by omega)]
    have hm : (a >>> (32 - k)).msb = false := by rw [BitVec.msb_ushiftRight]; simp; omega
    unfold stp
    rw [hm]
    apply BitVec.eq_of_getLsbD_eq
    intro i hi
    simp only [Bool.false_eq_true, if_false, BitVec.xor_zero, BitVec.getLsbD_xor, BitVec.getLsbD_shiftLeft, BitVec.getLsbD_ushiftRight]
    by_cases h0 : i = 0
    · subst h0
      rw [show 32 - (k + 1) + 0 = 31 - k by omega]
      cases a.getLsbD (31 - k) <;> simp
    · rw [show 32 - k + (i - 1) = 32 - (k + 1) + i by omega]
      have : (if a.getLsbD (31 - k) then 1#32 else 0#32).getLsbD i = false := by
        cases a.getLsbD (31 - k)
        · simp
        · rw [if_pos rfl, show (1#32) = BitVec.twoPow 32 0 by decide, BitVec.getLsbD_twoPow]
          simp; omega
      rw [this]
      simp; omega
theorem one_mul' (a : BitVec 32) : mul 1#32 a = a := by
  unfold mul
  rw [hor_one a 32 (by omega)]
  simp
theorem mul_comm' (a b : BitVec 32) : mul a b = mul b a := by
  have h := hor_map (fun x => mul x b) (hor_zero b 32) (fun x y => hor_xor x y b 32) (fun x => hor_stp x b 32) 1#32 a 32
  have e : hor 1#32 a 32 = a := one_mul' a
  simp only [e] at h
  rw [h, one_mul' b]
  rfl
/-- Some steps are a product. -/
theorem mul_stps (m : Nat) (a : BitVec 32) : mul a (stps m 1#32) = stps m a := by
  rw [mul_comm']
  have h := hor_map (stps m) (stps_zero m) (stps_xor m) (stps_stp m) 1#32 a 32
  have e : hor 1#32 a 32 = a := one_mul' a
  rw [e] at h
  exact h.symm
theorem power_twice (m : Nat) : mul (stps m 1#32) (stps m 1#32) = stps (2 * m) 1#32 := by
  rw [mul_stps, ← stps_add, Nat.two_mul]
theorem power_start : (256#32) = stps 8 1#32 := by decide
/-- One round of squaring. -/
theorem round_odd (m n : Nat) (a : BitVec 32) (h : n % 2 = 1) : stps (2 * m * (n / 2)) (stps m a) = stps (m * n) a := by
  rw [← stps_add]
  congr 1
  have : n = 2 * (n / 2) + 1 := by omega
  generalize n / 2 = q at *
  subst this
  rw [Nat.mul_add, Nat.mul_one, Nat.add_comm, ← Nat.mul_assoc, Nat.mul_comm m 2]
theorem round_even (m n : Nat) (a : BitVec 32) (h : n % 2 = 0) : stps (2 * m * (n / 2)) a = stps (m * n) a := by
  congr 1
  have : n = 2 * (n / 2) := by omega
  generalize n / 2 = q at *
  subst this
  rw [← Nat.mul_assoc, Nat.mul_comm m 2]
end Go.Proofs.Ytnhhdnhfijaijaa
