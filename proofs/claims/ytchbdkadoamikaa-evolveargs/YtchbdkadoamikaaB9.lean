/- The rule on four by four cells: plain mathematics. -/
import Derived.Test.YtchbdkadoamikaaS7c
import Derived.RowKit
import Derived.IntWalk
import Derived.Lib.BitFns
namespace Go.Proofs.Ytchbdkadoamikaa
open Go.RowKit
set_option maxRecDepth 100000

def ruleB (alive : Bool) (n : Int) : Bool := decide (n = 3) || (alive && decide (n = 2))
/-- 'a & b' of two uint16. -/
theorem and_u16 (a b : Nat) (ha : a < 65536) (hb : b < 65536) : bits .and .u16 (a : Int) (b : Int) = ((a &&& b : Nat) : Int) := by
  have t1 : (BitVec.ofInt 16 (a : Int)).toNat = a := by
    rw [BitVec.ofInt_natCast, BitVec.toNat_ofNat]; exact Nat.mod_eq_of_lt (by omega)
  have t2 : (BitVec.ofInt 16 (b : Int)).toNat = b := by
    rw [BitVec.ofInt_natCast, BitVec.toNat_ofNat]; exact Nat.mod_eq_of_lt (by omega)
  show IntKind.u16.wrap ((BitVec.ofInt 16 (a : Int) &&& BitVec.ofInt 16 (b : Int)).toNat : Nat) = _
  rw [BitVec.toNat_and, t1, t2]
  have : a &&& b ≤ a := Nat.and_le_left
  exact IntWalk.u16_in _ (by omega)
theorem or_u16 (a b : Nat) (ha : a < 65536) (hb : b < 65536) : bits .or .u16 (a : Int) (b : Int) = ((a ||| b : Nat) : Int) := by
  have t1 : (BitVec.ofInt 16 (a : Int)).toNat = a := by
    rw [BitVec.ofInt_natCast, BitVec.toNat_ofNat]; exact Nat.mod_eq_of_lt (by omega)
  have t2 : (BitVec.ofInt 16 (b : Int)).toNat = b := by
    rw [BitVec.ofInt_natCast, BitVec.toNat_ofNat]; exact Nat.mod_eq_of_lt (by omega)
  show IntKind.u16.wrap ((BitVec.ofInt 16 (a : Int) ||| BitVec.ofInt 16 (b : Int)).toNat : Nat) = _
  rw [BitVec.toNat_or, t1, t2]
  have : a ||| b < 2 ^ 16 := Nat.or_lt_two_pow (by omega) (by omega)
  exact IntWalk.u16_in _ (by omega)
theorem bit_u16 (f k : Nat) (hf : f < 65536) : (bits .and .u16 ((f : Int) / 2 ^ k) 1 == 1) = f.testBit k := by
  have e1 : (f : Int) / 2 ^ k = ((f / 2 ^ k : Nat) : Int) := by
    rw [show (2 : Int) ^ k = ((2 ^ k : Nat) : Int) by rw [Int.natCast_pow]; rfl]; norm_cast
  have hd : f / 2 ^ k ≤ f := Nat.div_le_self _ _
  rw [e1, show (1 : Int) = ((1 : Nat) : Int) from rfl, and_u16 _ _ (by omega) (by omega), Nat.and_one_is_mod, Nat.testBit_eq_decide_div_mod_eq]
  rw [Bool.eq_iff_iff]
  simp only [beq_iff_eq, decide_eq_true_eq]
  omega
/-- How many bits of sixteen. -/
def pc (b : Nat → Bool) (n : Nat) : Nat := (List.range n).countP b
theorem pc_succ (b : Nat → Bool) (n : Nat) : pc b (n + 1) = pc b n + (if b n then 1 else 0) := by
  unfold pc
  rw [List.range_succ, List.countP_append]
  simp [List.countP_cons]
theorem ones8 : ∀ n : Fin 256, Lib.onesCount n.val = pc (fun i => n.val.testBit i) 8 := by decide +kernel
theorem ones_two (x : Nat) (hx : x < 65536) : Lib.onesCount (x / 256) + Lib.onesCount (x % 256) = pc (fun i => x.testBit i) 16 := by
  have h1 := ones8 ⟨x / 256, by omega⟩
  have h2 := ones8 ⟨x % 256, by omega⟩
  simp only at h1 h2
  rw [h1, h2]
  have e1 : (fun i => (x / 256).testBit i) = fun i => x.testBit (8 + i) := by
    funext i
    rw [show x / 256 = x >>> 8 by rw [Nat.shiftRight_eq_div_pow], Nat.testBit_shiftRight]
  have e2 : ∀ i, i < 8 → (x % 256).testBit i = x.testBit i := fun i hi => by
    rw [show (256 : Nat) = 2 ^ 8 by rfl, Nat.testBit_mod_two_pow]; simp [hi]
  rw [e1]
  have e3 : pc (fun i => (x % 256).testBit i) 8 = pc (fun i => x.testBit i) 8 := List.countP_congr fun i hi => by
    rw [e2 i (by simpa using hi)]
  have e4 : ∀ n, pc (fun i => x.testBit (8 + i)) n + pc (fun i => x.testBit i) 8 = pc (fun i => x.testBit i) (8 + n) := fun n => by
    induction n with
    | zero => simp [pc]
    | succ n ih =>
      have a1 := pc_succ (fun i => x.testBit (8 + i)) n
      have a2 := pc_succ (fun i => x.testBit i) (8 + n)
      rw [show 8 + (n + 1) = 8 + n + 1 by omega, a1, a2]
      omega
  rw [e3]
  exact e4 8
/-- The mask of the eight cells around one. -/
def around (x y : Nat) : Nat := 1879 * 2 ^ (4 * (y - 1) + (x - 1))
def nearF (f x y : Nat) : Nat := pc (fun i => f.testBit i && (around x y).testBit i) 16
def innF (f i : Nat) : Bool := ruleB (f.testBit (4 * (1 + i / 2) + (1 + i % 2))) (nearF f (1 + i % 2) (1 + i / 2) : Int)
/-- Those alive, row by row. -/
def cells16 (f : Nat) : List (Int × Int) := ((List.range 16).filter fun i => f.testBit i).map fun i => (((i % 4 : Nat) : Int), ((i / 4 : Nat) : Int))
/-- Is one of the eight around the other? -/
def adjB (p q : Int × Int) : Bool := !decide (q = p) && (decide (-1 ≤ q.1 - p.1) && decide (q.1 - p.1 ≤ 1) && (decide (-1 ≤ q.2 - p.2) && decide (q.2 - p.2 ≤ 1)))
/-- How many of a list are around a point. -/
def nearL (l : List (Int × Int)) (p : Int × Int) : Nat := l.countP (adjB p)
/-- Is a point alive one generation later? -/
def lifeL (l : List (Int × Int)) (p : Int × Int) : Bool := ruleB (decide (p ∈ l)) (nearL l p : Int)
theorem mem16 {f : Nat} {i : Nat} (hi : i < 16) : ((((i % 4 : Nat) : Int), ((i / 4 : Nat) : Int)) ∈ cells16 f) ↔ f.testBit i = true := by
  unfold cells16
  simp only [List.mem_map, List.mem_filter, List.mem_range, Prod.mk.injEq]
  constructor
  · rintro ⟨j, ⟨hj, hb⟩, h1, h2⟩
    obtain rfl : j = i := by omega
    exact hb
  · intro h
    exact ⟨i, ⟨hi, h⟩, rfl, rfl⟩
theorem near16 (f : Nat) {x y : Nat} (hx : x = 1 ∨ x = 2) (hy : y = 1 ∨ y = 2) : nearL (cells16 f) ((x : Int), (y : Int)) = nearF f x y := by
  unfold nearL cells16 nearF pc
  rw [List.countP_map, List.countP_filter]
  refine List.countP_congr fun i hi => ?_
  have hi : i < 16 := by simpa using hi
  have key : ∀ (x y : Fin 3), x.val = 1 ∨ x.val = 2 → y.val = 1 ∨ y.val = 2 → ∀ i : Fin 16, adjB ((x.val : Int), (y.val : Int)) (((i.val % 4 : Nat) : Int), ((i.val / 4 : Nat) : Int)) = (around x.val y.val).testBit i.val := by decide +kernel
  have := key ⟨x, by omega⟩ ⟨y, by omega⟩ hx hy ⟨i, hi⟩
  simp only at this
  simp only [Function.comp, this]
  rw [Bool.and_comm]
theorem inn16 (f : Nat) {i : Nat} (hi : i < 4) : lifeL (cells16 f) (((1 + i % 2 : Nat) : Int), ((1 + i / 2 : Nat) : Int)) = innF f i := by
  unfold lifeL innF
  rw [near16 f (by omega) (by omega)]
  congr 1
  have := mem16 (f := f) (i := 4 * (1 + i / 2) + (1 + i % 2)) (by omega)
  rw [show (4 * (1 + i / 2) + (1 + i % 2)) % 4 = 1 + i % 2 by omega, show (4 * (1 + i / 2) + (1 + i % 2)) / 4 = 1 + i / 2 by omega] at this
  rw [Bool.eq_iff_iff, decide_eq_true_eq]
  exact this
theorem nodup16 (f : Nat) : (cells16 f).Nodup := by
  unfold cells16
  refine List.Pairwise.map _ (fun a b h e => h ?_) (List.nodup_range.filter _)
  simp only [Prod.mk.injEq] at e
  omega
theorem len16 (f : Nat) : (cells16 f).length ≤ 16 := by
  unfold cells16
  rw [List.length_map]
  exact Nat.le_trans (List.length_filter_le _ _) (by simp)
end Go.Proofs.Ytchbdkadoamikaa
