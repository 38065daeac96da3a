/- Bits that are turned in a row: plain mathematics; rows that differ within a stretch of 32 bits have other sums. -/
import Derived.Test.YtnhhdnhfijaijaaMul
namespace Go.Proofs.Ytnhhdnhfijaijaa

/-- A bit of a row. -/
def bitAt (l : List Nat) (p : Nat) : Bool := (l.getD (p / 8) 0).testBit (7 - p % 8)
theorem bits8_at (c j : Nat) (h : j < 8) : (bits8 c)[j]? = some (c.testBit (7 - j)) := by
  match j, h with
  | 0, _ => rfl
  | 1, _ => rfl
  | 2, _ => rfl
  | 3, _ => rfl
  | 4, _ => rfl
  | 5, _ => rfl
  | 6, _ => rfl
  | 7, _ => rfl
theorem bitsOf_at (l : List Nat) (p : Nat) (h : p < 8 * l.length) : (bitsOf l)[p]? = some (bitAt l p) := by
  induction l generalizing p with
  | nil => simp at h
  | cons c l ih =>
    have e : bitsOf (c :: l) = bits8 c ++ bitsOf l := rfl
    have e8 : (bits8 c).length = 8 := rfl
    rw [e]
    rw [List.length_cons] at h
    by_cases hp : p < 8
    · rw [List.getElem?_append_left (by omega), bits8_at c p hp]
      unfold bitAt
      rw [show p / 8 = 0 by omega, show p % 8 = p by omega]
      rfl
    · rw [List.getElem?_append_right (by omega), e8, ih (p - 8) (by omega)]
      unfold bitAt
      rw [show p / 8 = (p - 8) / 8 + 1 by omega, show p % 8 = (p - 8) % 8 by omega]
      rfl
/-- A bit is turned. -/
def flipN (l : List Nat) (p : Nat) : List Nat := l.set (p / 8) (l.getD (p / 8) 0 ^^^ (128 >>> (p % 8)))
theorem one_bit : ∀ r j : Fin 8, (128 >>> r.val).testBit (7 - j.val) = decide (j = r) := by decide
theorem flipN_at (l : List Nat) (p q : Nat) (h : p < 8 * l.length) : bitAt (flipN l p) q = (bitAt l q != decide (q = p)) := by
  unfold bitAt flipN
  rw [List.getD_eq_getElem?_getD, List.getElem?_set]
  by_cases hq : p / 8 = q / 8
  · rw [if_pos hq, if_pos (by omega), Option.getD_some, Nat.testBit_xor, hq]
    have := one_bit ⟨p % 8, by omega⟩ ⟨q % 8, by omega⟩
    simp only [Fin.mk.injEq] at this
    rw [this]
    have e : decide (q % 8 = p % 8) = decide (q = p) := by
      apply decide_eq_decide.2; omega
    rw [e]
  · rw [if_neg hq, ← List.getD_eq_getElem?_getD]
    have e : decide (q = p) = false := by
      apply decide_eq_false; intro h; subst h; exact hq rfl
    rw [e]
    simp
theorem flipN_length (l : List Nat) (p : Nat) : (flipN l p).length = l.length := by simp [flipN]
/-- The bits of a pattern are turned, from a place on. -/
def flipsN (l : List Nat) (i : Nat) (b : BitVec 32) : Nat → List Nat
  | 0 => l
  | k + 1 => if b.getLsbD k then flipN (flipsN l i b k) (i + k) else flipsN l i b k
theorem flipsN_length (l : List Nat) (i : Nat) (b : BitVec 32) (k : Nat) : (flipsN l i b k).length = l.length := by
  induction k with
  | zero => rfl
  | succ k ih => simp only [flipsN]; split <;> simp [flipN_length, ih]
theorem flipsN_at (l : List Nat) (i : Nat) (b : BitVec 32) (k q : Nat) (h : i + k ≤ 8 * l.length) : bitAt (flipsN l i b k) q = (bitAt l q != (decide (i ≤ q ∧ q < i + k) && b.getLsbD (q - i))) := by
  induction k with
  | zero =>
    have e : decide (i ≤ q ∧ q < i + 0) = false := decide_eq_false (by omega)
    rw [e]
    simp [flipsN]
  | succ k ih =>
    simp only [flipsN]
    by_cases hb : b.getLsbD k = true
    · rw [if_pos hb, flipN_at _ _ _ (by rw [flipsN_length]; omega), ih (by omega)]
      by_cases hq : q = i + k
      · subst hq
        have e1 : decide (i ≤ i + k ∧ i + k < i + k) = false := decide_eq_false (by omega)
        have e2 : decide (i ≤ i + k ∧ i + k < i + (k + 1)) = true := decide_eq_true (by omega)
        rw [e1, e2, show i + k - i = k by omega, hb]
        simp
      · have e : decide (i ≤ q ∧ q < i + k) = decide (i ≤ q ∧ q < i + (k + 1)) := decide_eq_decide.2 (by omega)
        rw [e, decide_eq_false hq]
        simp
    · rw [if_neg hb, ih (by omega)]
      by_cases hq : q = i + k
      · subst hq
        have e1 : decide (i ≤ i + k ∧ i + k < i + k) = false := decide_eq_false (by omega)
        rw [e1, show i + k - i = k by omega]
        simp [hb]
      · have e : decide (i ≤ q ∧ q < i + k) = decide (i ≤ q ∧ q < i + (k + 1)) := decide_eq_decide.2 (by omega)
        rw [e]
/-- Another pattern than none: another sum. -/
theorem flipsN_finds (l : List Nat) (i : Nat) (b : BitVec 32) (h : i + 32 ≤ 8 * l.length) (hb : b ≠ 0#32) : crc l ≠ crc (flipsN l i b 32) := by
  refine crc_finds l (flipsN l i b 32) (flipsN_length l i b 32).symm i (8 * l.length - (i + 32)) ((List.range 32).map (fun k => b.getLsbD k)) (by simp) ?_ ?_
  · apply List.ext_getElem?
    intro p
    rw [List.getElem?_zipWith]
    by_cases hp : p < 8 * l.length
    · rw [bitsOf_at l p hp, bitsOf_at _ p (by rw [flipsN_length]; exact hp), flipsN_at l i b 32 p h]
      have lr : (List.replicate i false).length = i := List.length_replicate
      have lm : ((List.range 32).map (fun k => b.getLsbD k)).length = 32 := by simp
      by_cases h1 : p < i
      · rw [List.append_assoc, List.getElem?_append_left (by omega), List.getElem?_replicate, if_pos h1, decide_eq_false (by omega)]
        simp
      · by_cases h2 : p < i + 32
        · rw [List.getElem?_append_left (by rw [List.length_append]; omega), List.getElem?_append_right (by omega), lr, List.getElem?_map, List.getElem?_range (by omega), decide_eq_true (by omega)]
          simp
        · rw [List.getElem?_append_right (by rw [List.length_append]; omega), List.getElem?_replicate, if_pos (by rw [List.length_append]; omega), decide_eq_false (by omega)]
          simp
    · have e : (bitsOf l)[p]? = none := List.getElem?_eq_none (by rw [bitsOf_length]; omega)
      rw [e]
      symm
      apply List.getElem?_eq_none
      rw [List.length_append, List.length_append, List.length_replicate, List.length_replicate, List.length_map, List.length_range]
      omega
  · apply Classical.byContradiction
    intro hn
    apply hb
    apply BitVec.eq_of_getLsbD_eq
    intro k hk
    have : ¬ b.getLsbD k = true := fun ht => hn (List.mem_map.2 ⟨k, List.mem_range.2 hk, ht⟩)
    simpa using this
end Go.Proofs.Ytnhhdnhfijaijaa
