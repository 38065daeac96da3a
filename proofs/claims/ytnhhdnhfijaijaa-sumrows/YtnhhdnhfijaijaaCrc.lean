/- A sum of thirty-two bits: plain mathematics: a step is linear and loses nothing; what comes of bits in pieces, of two rows, of a stretch that differs. -/
import Derived.Lib.BitFns
namespace Go.Proofs.Ytnhhdnhfijaijaa

/-- A step of a number of 32 bits. -/
def stp (s : BitVec 32) : BitVec 32 := (s <<< 1) ^^^ (if s.msb then 79764919#32 else 0#32)
theorem stp_zero : stp 0#32 = 0#32 := by decide
theorem xor4 (a b c d : BitVec 32) : (a ^^^ b) ^^^ (c ^^^ d) = (a ^^^ c) ^^^ (b ^^^ d) := by
  rw [BitVec.xor_assoc, BitVec.xor_assoc, ← BitVec.xor_assoc b, ← BitVec.xor_assoc c, BitVec.xor_comm b c]
theorem stp_xor (a b : BitVec 32) : stp (a ^^^ b) = stp a ^^^ stp b := by
  unfold stp
  rw [BitVec.shiftLeft_xor_distrib, BitVec.msb_xor, xor4]
  congr 1
  cases a.msb <;> cases b.msb <;> simp
theorem stp_lost (s : BitVec 32) (h : stp s = 0#32) : s = 0#32 := by
  unfold stp at h
  by_cases hm : s.msb = true
  · rw [if_pos hm] at h
    have h0 := congrArg (fun v : BitVec 32 => v.getLsbD 0) h
    simp at h0
  · rw [if_neg hm, BitVec.xor_zero] at h
    have hm' : s.msb = false := by simpa using hm
    apply BitVec.eq_of_toNat_eq
    have h1 := congrArg BitVec.toNat h
    rw [BitVec.toNat_shiftLeft] at h1
    simp only [Nat.shiftLeft_eq] at h1
    have h2 : s.toNat < 2147483648 := by
      have := BitVec.msb_eq_false_iff_two_mul_lt.1 hm'
      omega
    simp at h1 ⊢
    omega
/-- Some steps. -/
def stps : Nat → BitVec 32 → BitVec 32
  | 0, s => s
  | n + 1, s => stps n (stp s)
theorem stps_xor (n : Nat) (a b : BitVec 32) : stps n (a ^^^ b) = stps n a ^^^ stps n b := by
  induction n generalizing a b with
  | zero => rfl
  | succ n ih => simp only [stps, stp_xor, ih]
theorem stps_zero (n : Nat) : stps n 0#32 = 0#32 := by
  induction n with
  | zero => rfl
  | succ n ih => simp only [stps, stp_zero, ih]
theorem stps_lost (n : Nat) (s : BitVec 32) (h : stps n s = 0#32) : s = 0#32 := by
  induction n generalizing s with
  | zero => exact h
  | succ n ih => exact stp_lost s (ih _ h)
theorem stps_add (m n : Nat) (s : BitVec 32) : stps (m + n) s = stps n (stps m s) := by
  induction m generalizing s with
  | zero => rw [Nat.zero_add]; rfl
  | succ m ih => rw [Nat.add_right_comm]; exact ih _

/-- A bit is added: the greatest bit is turned if it is 1; then a step. -/
def addBit (s : BitVec 32) (b : Bool) : BitVec 32 := stp (s ^^^ (if b then 2147483648#32 else 0#32))
def addBits (s : BitVec 32) (l : List Bool) : BitVec 32 := l.foldl addBit s
theorem addBits_app (s : BitVec 32) (x y : List Bool) : addBits s (x ++ y) = addBits (addBits s x) y := List.foldl_append
theorem addBits_xor (a b : BitVec 32) (x y : List Bool) (h : x.length = y.length) : addBits (a ^^^ b) (List.zipWith (fun p q => p != q) x y) = addBits a x ^^^ addBits b y := by
  induction x generalizing a b y with
  | nil => cases y with
    | nil => rfl
    | cons _ _ => simp at h
  | cons p x ih => cases y with
    | nil => simp at h
    | cons q y =>
      have e : addBit (a ^^^ b) (p != q) = addBit a p ^^^ addBit b q := by
        unfold addBit
        rw [← stp_xor]
        congr 1
        rw [xor4]
        congr 1
        cases p <;> cases q <;> decide
      show addBits (addBit (a ^^^ b) (p != q)) _ = _
      rw [e, ih _ _ _ (by simpa using h)]
      rfl
theorem addBits_none (s : BitVec 32) (n : Nat) : addBits s (List.replicate n false) = stps n s := by
  induction n generalizing s with
  | zero => rfl
  | succ n ih =>
    show addBits (addBit s false) (List.replicate n false) = _
    rw [ih]
    simp [addBit, stps]
theorem zip_none (l : List Bool) : List.zipWith (fun p q => p != q) (List.replicate l.length false) l = l := by
  induction l with
  | nil => rfl
  | cons b l ih => simp [List.replicate_succ, ih]
/-- What was there, and what is added, are apart. -/
theorem addBits_split (s t : BitVec 32) (l : List Bool) : addBits (s ^^^ t) l = stps l.length s ^^^ addBits t l := by
  have h := addBits_xor s t (List.replicate l.length false) l (by simp)
  rw [zip_none, addBits_none] at h
  exact h
theorem addBits_apart (s : BitVec 32) (l : List Bool) : addBits s l = stps l.length s ^^^ addBits 0#32 l := by
  have := addBits_split s 0#32 l
  rwa [BitVec.xor_zero] at this
/-- The bits of a byte, the greatest first. -/
def bits8 (c : Nat) : List Bool := [c.testBit 7, c.testBit 6, c.testBit 5, c.testBit 4, c.testBit 3, c.testBit 2, c.testBit 1, c.testBit 0]
def bitsOf (l : List Nat) : List Bool := l.flatMap bits8
theorem bitsOf_length (l : List Nat) : (bitsOf l).length = 8 * l.length := by
  induction l with
  | nil => rfl
  | cons c l ih =>
    have e : bitsOf (c :: l) = bits8 c ++ bitsOf l := rfl
    rw [e, List.length_append, ih, List.length_cons]
    show 8 + _ = _
    omega
theorem bitsOf_app (x y : List Nat) : bitsOf (x ++ y) = bitsOf x ++ bitsOf y := by simp [bitsOf]
/-- The state behind bytes, and the sum. -/
def after (l : List Nat) : BitVec 32 := addBits (BitVec.allOnes 32) (bitsOf l)
def crc (l : List Nat) : BitVec 32 := after l ^^^ BitVec.allOnes 32
/-- The sum of two rows by theirs. -/
theorem crc_join (x y : List Nat) : crc (x ++ y) = stps (8 * y.length) (crc x) ^^^ crc y := by
  unfold crc after
  rw [bitsOf_app, addBits_app]
  have e : addBits (BitVec.allOnes 32) (bitsOf x) = (addBits (BitVec.allOnes 32) (bitsOf x) ^^^ BitVec.allOnes 32) ^^^ BitVec.allOnes 32 := by
    rw [BitVec.xor_assoc, BitVec.xor_self, BitVec.xor_zero]
  have h := addBits_split (addBits (BitVec.allOnes 32) (bitsOf x) ^^^ BitVec.allOnes 32) (BitVec.allOnes 32) (bitsOf y)
  rw [← e, bitsOf_length] at h
  rw [h, BitVec.xor_assoc]

/-- Bits as a number, the first one the greatest of 32. -/
def val : List Bool → BitVec 32
  | [] => 0#32
  | b :: r => (if b then 2147483648#32 else 0#32) ^^^ (val r >>> 1)
theorem top_low (b : Bool) (i : Nat) (h : i < 31) : (if b then 2147483648#32 else 0#32).getLsbD i = false := by
  cases b
  · simp
  · have e : (2147483648#32) = BitVec.twoPow 32 31 := by decide
    rw [if_pos rfl, e, BitVec.getLsbD_twoPow]
    simp; omega
theorem val_low (l : List Bool) (h : l.length ≤ 31) : ∀ i, i + l.length < 32 → (val l).getLsbD i = false := by
  induction l with
  | nil => intro i _; simp [val]
  | cons b r ih =>
    intro i hi
    rw [List.length_cons] at h hi
    simp only [val, BitVec.getLsbD_xor, BitVec.getLsbD_ushiftRight]
    rw [top_low b i (by omega), ih (by omega) (1 + i) (by omega)]
    rfl
theorem stp_back (v : BitVec 32) (h : v.getLsbD 0 = false) : stp (v >>> 1) = v := by
  have hm : (v >>> 1).msb = false := by rw [BitVec.msb_ushiftRight]; simp
  unfold stp
  rw [hm]
  simp only [Bool.false_eq_true, if_false, BitVec.xor_zero]
  apply BitVec.eq_of_getLsbD_eq
  intro i hi
  rw [BitVec.getLsbD_shiftLeft, BitVec.getLsbD_ushiftRight]
  by_cases h0 : i = 0
  · subst h0; rw [h]; simp
  · have : 1 + (i - 1) = i := by omega
    simp [hi, this]; omega
/-- Few bits, added to nothing: as if they had been there, and so many steps. -/
theorem addBits_val (l : List Bool) (h : l.length ≤ 32) : addBits 0#32 l = stps l.length (val l) := by
  induction l with
  | nil => rfl
  | cons b r ih =>
    rw [List.length_cons] at h
    show addBits (addBit 0#32 b) r = stps (r.length + 1) (val (b :: r))
    rw [addBits_apart, ih (by omega)]
    simp only [addBit, BitVec.zero_xor, stps, val]
    rw [← stps_xor, stp_xor, stp_back (val r) (val_low r (by omega) 0 (by omega))]
theorem val_lost (l : List Bool) (h : l.length ≤ 32) (hv : val l = 0#32) : ∀ b ∈ l, b = false := by
  induction l with
  | nil => intro b hb; simp at hb
  | cons b r ih =>
    rw [List.length_cons] at h
    have hb : b = false := by
      have h1 := congrArg (fun v : BitVec 32 => v.msb) hv
      simp only [val, BitVec.msb_xor, BitVec.msb_ushiftRight] at h1
      cases b
      · rfl
      · rw [if_pos rfl, show (2147483648#32).msb = true by decide, show (0#32).msb = false by decide] at h1
        simp at h1
    subst hb
    have hr : val r = 0#32 := by
      have h2 : val r >>> 1 = 0#32 := by simpa [val] using hv
      have h3 := stp_back (val r) (val_low r (by omega) 0 (by omega))
      rw [h2, stp_zero] at h3
      exact h3.symm
    intro c hc
    rcases List.mem_cons.1 hc with rfl | hc
    · rfl
    · exact ih (by omega) hr c hc
/-- Rows that differ within a stretch of at most 32 bits have other sums. -/
theorem crc_finds (x y : List Nat) (hl : x.length = y.length) (i k : Nat) (pat : List Bool) (hp : pat.length ≤ 32) (hd : List.zipWith (fun p q => p != q) (bitsOf x) (bitsOf y) = List.replicate i false ++ pat ++ List.replicate k false) (ht : true ∈ pat) : crc x ≠ crc y := by
  intro he
  have h := addBits_xor (BitVec.allOnes 32) (BitVec.allOnes 32) (bitsOf x) (bitsOf y) (by rw [bitsOf_length, bitsOf_length, hl])
  have e : addBits (BitVec.allOnes 32) (bitsOf x) = addBits (BitVec.allOnes 32) (bitsOf y) := by
    have h1 := congrArg (fun v => v ^^^ BitVec.allOnes 32) he
    simp only [crc, after, BitVec.xor_assoc, BitVec.xor_self, BitVec.xor_zero] at h1
    exact h1
  rw [e, BitVec.xor_self, BitVec.xor_self, hd, addBits_app, addBits_app, addBits_none] at h
  have h2 := stps_lost k _ h
  rw [addBits_none, stps_zero] at h2
  rw [addBits_val pat hp] at h2
  have h3 := val_lost pat hp (stps_lost _ _ h2) true ht
  cases h3

theorem val_byte : ∀ c : Fin 256, val (bits8 c.val) = BitVec.ofNat 32 (c.val * 16777216) := by decide +kernel
/-- A byte at once. -/
theorem addBits_byte (s : BitVec 32) (c : Nat) (h : c < 256) : addBits s (bits8 c) = stps 8 (s ^^^ BitVec.ofNat 32 (c * 16777216)) := by
  rw [addBits_apart, addBits_val _ (by simp [bits8]), val_byte ⟨c, h⟩, stps_xor]
  rfl
/-- A step, as a number. -/
theorem stp_nat (s : BitVec 32) : (stp s).toNat = (s.toNat * 2 % 4294967296) ^^^ (if 2147483648 ≤ s.toNat then 79764919 else 0) := by
  unfold stp
  rw [BitVec.toNat_xor, BitVec.toNat_shiftLeft, Nat.shiftLeft_eq]
  congr 1
  by_cases h : s.msb = true
  · have := BitVec.msb_eq_true_iff_two_mul_ge.1 h
    rw [if_pos h, if_pos (by omega)]; rfl
  · have h' : s.msb = false := by simpa using h
    have := BitVec.msb_eq_false_iff_two_mul_lt.1 h'
    rw [if_neg h, if_neg (by omega)]; rfl
end Go.Proofs.Ytnhhdnhfijaijaa
