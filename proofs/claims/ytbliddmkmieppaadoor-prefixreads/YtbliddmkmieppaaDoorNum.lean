/- Numbers as bytes: plain mathematics: how many bytes a number has, its bytes, what bytes are read as; what is written is read, and each number has one row of bytes. -/
import Derived.Lib.BitFns
namespace Go.Proofs.YtbliddmkmieppaaDoor

/-- How many bytes a number has. -/
def sz (n : Int) : Nat :=
  if n < 128 then 1 else if n < 16384 then 2 else if n < 2097152 then 3 else if n < 268435456 then 4 else if n < 34359738368 then 5 else
  if n < 4398046511104 then 6 else if n < 562949953421312 then 7 else if n < 72057594037927936 then 8 else 9
/-- The leading bits of the first one of k bytes. -/
def mk : Nat → Int
  | 2 => 128 | 3 => 192 | 4 => 224 | 5 => 240 | 6 => 248 | 7 => 252 | 8 => 254 | 9 => 255 | _ => 0
/-- Bound of what the first one of k bytes bears of the number. -/
def lim : Nat → Int
  | 1 => 128 | 2 => 64 | 3 => 32 | 4 => 16 | 5 => 8 | 6 => 4 | 7 => 2 | _ => 1
/-- How many bytes the first one says. -/
def lead (c : Int) : Nat :=
  if c < 128 then 1 else if c < 192 then 2 else if c < 224 then 3 else if c < 240 then 4 else if c < 248 then 5 else
  if c < 252 then 6 else if c < 254 then 7 else if c < 255 then 8 else 9

theorem sz_pos (n : Int) : 1 ≤ sz n ∧ sz n ≤ 9 := by unfold sz; (repeat' split) <;> omega
theorem lead_pos (c : Int) : 1 ≤ lead c ∧ lead c ≤ 9 := by unfold lead; (repeat' split) <;> omega

/-- The last k bytes of a number, the greatest first. -/
def be : Nat → Int → List Int
  | 0, _ => []
  | k + 1, n => n / 256 ^ k % 256 :: be k n
theorem be_length (k : Nat) (n : Int) : (be k n).length = k := by induction k with | zero => rfl | succ k ih => simp [be, ih]
theorem be_range (k : Nat) (n : Int) : ∀ z ∈ be k n, 0 ≤ z ∧ z ≤ 255 := by
  induction k with
  | zero => intro z hz; simp [be] at hz
  | succ k ih =>
    intro z hz
    simp only [be, List.mem_cons] at hz
    rcases hz with rfl | hz
    · omega
    · exact ih z hz

/-- Bytes read as a number, behind what was read. -/
def rd : Int → List Int → Int
  | a, [] => a
  | a, c :: r => rd (a * 256 + c) r
theorem rd_snoc (a : Int) (l : List Int) (c : Int) : rd a (l ++ [c]) = rd a l * 256 + c := by
  induction l generalizing a with
  | nil => rfl
  | cons x l ih => exact ih _
theorem rd_be (k : Nat) (n a : Int) : rd a (be k n) = a * 256 ^ k + n % 256 ^ k := by
  induction k generalizing a with
  | zero => simp [be, rd, Int.emod_one]
  | succ k ih =>
    simp only [be, rd]
    rw [ih]
    have h1 : n % 256 ^ (k + 1) = n % 256 ^ k + 256 ^ k * (n / 256 ^ k % 256) := by
      have hp : (0 : Int) ≤ 256 ^ k := Int.pow_nonneg (by decide)
      rw [Int.pow_succ, Int.emod_def n (256 ^ k * 256), ← Int.ediv_ediv_of_nonneg hp, Int.emod_def n (256 ^ k), Int.emod_def (n / 256 ^ k) 256, Int.mul_sub, Int.mul_assoc]
      omega
    rw [h1, Int.pow_succ, Int.add_mul, Int.mul_assoc, Int.mul_comm 256, Int.mul_comm (256 ^ k) (n / 256 ^ k % 256)]
    omega
theorem rd_div (l : List Int) (a : Int) (hl : ∀ z ∈ l, 0 ≤ z ∧ z ≤ 255) : rd a l / 256 ^ l.length = a ∧ be l.length (rd a l) = l := by
  induction l generalizing a with
  | nil => simp [rd, be]
  | cons c l ih =>
    obtain ⟨h1, h2⟩ := ih (a * 256 + c) (fun z hz => hl z (List.mem_cons_of_mem _ hz))
    have hc := hl c List.mem_cons_self
    refine ⟨?_, ?_⟩
    · show rd (a * 256 + c) l / 256 ^ (l.length + 1) = a
      rw [Int.pow_succ, ← Int.ediv_ediv_of_nonneg (Int.pow_nonneg (by decide)), h1]; omega
    · show rd (a * 256 + c) l / 256 ^ l.length % 256 :: be l.length (rd (a * 256 + c) l) = c :: l
      rw [h1, h2]; congr 1; omega
theorem rd_bound (l : List Int) (a : Int) (h0 : 0 ≤ a) (hl : ∀ z ∈ l, 0 ≤ z ∧ z ≤ 255) : 0 ≤ rd a l ∧ rd a l < (a + 1) * 256 ^ l.length := by
  induction l generalizing a with
  | nil => simp [rd]; omega
  | cons c l ih =>
    have hc := hl c List.mem_cons_self
    obtain ⟨h1, h2⟩ := ih (a * 256 + c) (by omega) (fun z hz => hl z (List.mem_cons_of_mem _ hz))
    refine ⟨h1, Int.lt_of_lt_of_le h2 ?_⟩
    rw [List.length_cons, Int.pow_succ, Int.mul_comm (256 ^ l.length) 256, ← Int.mul_assoc]
    exact Int.mul_le_mul_of_nonneg_right (by omega) (Int.pow_nonneg (by decide))

/-- The bytes of a number. -/
def enc (n : Int) : List Int := (n / 256 ^ (sz n - 1) % 256 + mk (sz n)) :: be (sz n - 1) n
theorem enc_length (n : Int) : (enc n).length = sz n := by
  have := sz_pos n
  simp [enc, be_length]; omega
/-- What bytes are read as: the number, how many bytes it has, what is wrong. -/
def dec : List Int → Int × Nat × Int
  | [] => (0, 0, 2)
  | c :: r => if r.length + 1 < lead c then (0, 0, 2) else
    if sz (rd (c - mk (lead c)) (r.take (lead c - 1))) = lead c then (rd (c - mk (lead c)) (r.take (lead c - 1)), lead c, 0) else (0, 0, 3)

theorem top_lim (n : Int) (h0 : 0 ≤ n) (h1 : n ≤ 18446744073709551615) : 0 ≤ n / 256 ^ (sz n - 1) ∧ n / 256 ^ (sz n - 1) < lim (sz n) := by
  unfold sz
  (repeat' split) <;> simp only [lim] <;> omega
theorem lim_le (k : Nat) : 1 ≤ lim k ∧ lim k ≤ 128 := by unfold lim; split <;> omega
theorem lead_top (k : Nat) (hk : 1 ≤ k) (hk9 : k ≤ 9) (t : Int) (h0 : 0 ≤ t) (h1 : t < lim k) : lead (t + mk k) = k ∧ 0 ≤ t + mk k ∧ t + mk k ≤ 255 := by
  match k, hk, hk9 with
  | 1, _, _ | 2, _, _ | 3, _, _ | 4, _, _ | 5, _, _ | 6, _, _ | 7, _, _ | 8, _, _ | 9, _, _ =>
    simp only [lim] at h1
    simp only [mk]
    refine ⟨?_, by omega, by omega⟩
    unfold lead
    (repeat' split) <;> omega
theorem lead_lim (c : Int) (h0 : 0 ≤ c) (h1 : c ≤ 255) : 0 ≤ c - mk (lead c) ∧ c - mk (lead c) < lim (lead c) := by
  unfold lead
  (repeat' split) <;> simp only [mk, lim] <;> omega
theorem lim_pow (k : Nat) (hk : 1 ≤ k) (hk9 : k ≤ 9) : lim k * 256 ^ (k - 1) ≤ 18446744073709551616 := by
  match k, hk, hk9 with
  | 1, _, _ | 2, _, _ | 3, _, _ | 4, _, _ | 5, _, _ | 6, _, _ | 7, _, _ | 8, _, _ | 9, _, _ => simp only [lim]; omega
theorem enc_range (n : Int) (h0 : 0 ≤ n) (h1 : n ≤ 18446744073709551615) : ∀ z ∈ enc n, 0 ≤ z ∧ z ≤ 255 := by
  intro z hz
  obtain ⟨p, q⟩ := sz_pos n
  obtain ⟨a, b⟩ := top_lim n h0 h1
  have := lim_le (sz n)
  have e : n / 256 ^ (sz n - 1) % 256 = n / 256 ^ (sz n - 1) := by omega
  simp only [enc, List.mem_cons, e] at hz
  rcases hz with rfl | hz
  · exact (lead_top _ p q _ a b).2
  · exact be_range _ _ z hz
/-- What is written is read. -/
theorem dec_enc (n : Int) (h0 : 0 ≤ n) (h1 : n ≤ 18446744073709551615) (r : List Int) : dec (enc n ++ r) = (n, sz n, 0) := by
  obtain ⟨p, q⟩ := sz_pos n
  obtain ⟨a, b⟩ := top_lim n h0 h1
  have := lim_le (sz n)
  have e : n / 256 ^ (sz n - 1) % 256 = n / 256 ^ (sz n - 1) := by omega
  obtain ⟨hl, _, _⟩ := lead_top _ p q _ a b
  have hr : rd (n / 256 ^ (sz n - 1)) (be (sz n - 1) n) = n := by
    rw [rd_be, Int.mul_comm]; exact Int.mul_ediv_add_emod n (256 ^ (sz n - 1))
  simp only [enc, e, List.cons_append, dec, hl]
  rw [if_neg (by simp [be_length]; omega)]
  have ht : (be (sz n - 1) n ++ r).take (sz n - 1) = be (sz n - 1) n := by
    rw [List.take_append_of_le_length (by rw [be_length]; omega), List.take_of_length_le (by rw [be_length]; omega)]
  rw [ht, show n / 256 ^ (sz n - 1) + mk (sz n) - mk (sz n) = n / 256 ^ (sz n - 1) by omega, hr, if_pos rfl]
/-- What is read was written so. -/
theorem enc_dec (bs : List Int) (hb : ∀ z ∈ bs, 0 ≤ z ∧ z ≤ 255) (n : Int) (k : Nat) (h : dec bs = (n, k, 0)) :
    bs.take k = enc n ∧ k = sz n ∧ k ≤ bs.length ∧ 0 ≤ n ∧ n ≤ 18446744073709551615 := by
  match bs, h with
  | [], h => simp [dec] at h
  | c :: r, h =>
    obtain ⟨p, q⟩ := lead_pos c
    have hc := hb c List.mem_cons_self
    obtain ⟨a, b⟩ := lead_lim c hc.1 hc.2
    have := lim_le (lead c)
    simp only [dec] at h
    split at h
    · simp at h
    · rename_i hlen
      split at h
      · rename_i hs
        simp only [Prod.mk.injEq, and_true] at h
        obtain ⟨hn, rfl⟩ := h
        have htl : (r.take (lead c - 1)).length = lead c - 1 := by rw [List.length_take]; omega
        have hrr : ∀ z ∈ r.take (lead c - 1), 0 ≤ z ∧ z ≤ 255 := fun z hz => hb z (List.mem_cons_of_mem _ (List.mem_of_mem_take hz))
        obtain ⟨d1, d2⟩ := rd_div (r.take (lead c - 1)) (c - mk (lead c)) hrr
        obtain ⟨b1, b2⟩ := rd_bound (r.take (lead c - 1)) (c - mk (lead c)) a hrr
        rw [htl] at d1 d2 b2
        rw [hn] at d1 d2 b1 b2 hs
        have hcm : c = (c - mk (lead c)) % 256 + mk (lead c) := by omega
        refine ⟨?_, hs.symm, by simp; omega, b1, ?_⟩
        · rw [enc, hs, d1, d2]
          rw [← hcm]
          cases hl : lead c with
          | zero => omega
          | succ m => simp
        · have h1 := lim_pow _ p q
          have h2 : (c - mk (lead c) + 1) * 256 ^ (lead c - 1) ≤ lim (lead c) * 256 ^ (lead c - 1) := Int.mul_le_mul_of_nonneg_right (by omega) (Int.pow_nonneg (by decide))
          omega
      · simp at h
/-- None is the beginning of another's. -/
theorem enc_prefix (n m : Int) (h0 : 0 ≤ n) (h1 : n ≤ 18446744073709551615) (h2 : 0 ≤ m) (h3 : m ≤ 18446744073709551615) (h : (enc m).take (enc n).length = enc n) : n = m := by
  have e := (List.take_append_drop (enc n).length (enc m)).symm
  rw [h] at e
  have a := dec_enc n h0 h1 ((enc m).drop (enc n).length)
  have b := dec_enc m h2 h3 []
  rw [← e] at a
  rw [List.append_nil, a] at b
  exact (Prod.mk.inj b).1

/-- A signed number, folded; and what was folded. -/
def fold (n : Int) : Int := if 0 ≤ n then 2 * n else -2 * n - 1
def opn (n : Int) : Int := if n % 2 = 0 then n / 2 else -(n / 2) - 1
theorem opn_fold (n : Int) : opn (fold n) = n := by unfold opn fold; (repeat' split) <;> omega
theorem fold_opn (n : Int) (h : 0 ≤ n) : fold (opn n) = n := by unfold opn fold; (repeat' split) <;> omega
theorem fold_range (n : Int) (h0 : -9223372036854775808 ≤ n) (h1 : n ≤ 9223372036854775807) : 0 ≤ fold n ∧ fold n ≤ 18446744073709551615 := by unfold fold; split <;> omega
theorem opn_range (n : Int) (h0 : 0 ≤ n) (h1 : n ≤ 18446744073709551615) : -9223372036854775808 ≤ opn n ∧ opn n ≤ 9223372036854775807 := by unfold opn; split <;> omega

/-- How many bits: the shelf's word, by powers. -/
theorem bitLenAux_le (f b x : Nat) (hx : x < 2 ^ f) : Lib.bitLenAux f x ≤ b ↔ x < 2 ^ b := by
  induction f generalizing b x with
  | zero =>
    have : x = 0 := by omega
    subst this
    simp [Lib.bitLenAux, Nat.two_pow_pos]
  | succ f ih =>
    unfold Lib.bitLenAux
    by_cases h : x = 0
    · subst h; simp [Nat.two_pow_pos]
    · rw [if_neg h]
      cases b with
      | zero => simp; omega
      | succ b =>
        have hh := ih b (x / 2) (by rw [Nat.pow_succ] at hx; omega)
        rw [Nat.pow_succ]
        constructor
        · intro h1; have := hh.1 (by omega); omega
        · intro h1; have := hh.2 (by omega); omega
theorem bitLen_le (b : Nat) (n : Int) (h0 : 0 ≤ n) (h1 : n ≤ 18446744073709551615) : Lib.bitLen n.toNat ≤ b ↔ n.toNat < 2 ^ b :=
  bitLenAux_le 64 b n.toNat (show n.toNat < 18446744073709551616 by omega)
theorem sz_bits (n : Int) (h0 : 0 ≤ n) (h1 : n ≤ 18446744073709551615) : (sz n : Int) = min (max 1 ((((Lib.bitLen n.toNat : Nat) : Int) + 6) / 7)) 9 := by
  have e7 := bitLen_le 7 n h0 h1
  have e14 := bitLen_le 14 n h0 h1
  have e21 := bitLen_le 21 n h0 h1
  have e28 := bitLen_le 28 n h0 h1
  have e35 := bitLen_le 35 n h0 h1
  have e42 := bitLen_le 42 n h0 h1
  have e49 := bitLen_le 49 n h0 h1
  have e56 := bitLen_le 56 n h0 h1
  have e64 := bitLen_le 64 n h0 h1
  generalize Lib.bitLen n.toNat = L at *
  unfold sz
  (repeat' split) <;> omega
theorem bitLen_64 (n : Int) (h0 : 0 ≤ n) (h1 : n ≤ 18446744073709551615) : Lib.bitLen n.toNat ≤ 64 := (bitLen_le 64 n h0 h1).2 (by omega)
/-- The leading bits of a first byte: how many bytes it says. -/
theorem lead_bits : ∀ c : Fin 256, (lead (c.val : Int) : Int) = 9 - (Lib.bitLen (255 - c.val) : Int) := by decide +kernel
end Go.Proofs.YtbliddmkmieppaaDoor
