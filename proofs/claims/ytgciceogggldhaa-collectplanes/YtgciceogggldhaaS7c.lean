/- Four squares by their places: plain mathematics, no program. -/
import Derived.Test.YtgciceogggldhaaS7b
namespace Go.Proofs.Ytgciceogggldhaa

def kAt (k : K4) : Nat → Nat
  | 0 => k.1
  | 1 => k.2.1
  | 2 => k.2.2.1
  | _ => k.2.2.2
def mk4 (f : Nat → Nat) : K4 := (f 0, f 1, f 2, f 3)
theorem kAt_mk4 (f : Nat → Nat) {i : Nat} (h : i < 4) : kAt (mk4 f) i = f i := by
  have : i = 0 ∨ i = 1 ∨ i = 2 ∨ i = 3 := by omega
  rcases this with rfl | rfl | rfl | rfl <;> rfl
theorem mk4_kAt (k : K4) : mk4 (kAt k) = k := rfl
theorem mk4_ext {f g : Nat → Nat} (h : ∀ i, i < 4 → f i = g i) : mk4 f = mk4 g := by
  unfold mk4; rw [h 0 (by omega), h 1 (by omega), h 2 (by omega), h 3 (by omega)]
/-- The place of one of four. -/
def pl (r b : Bool) : Nat := (if r then 1 else 0) + 2 * (if b then 1 else 0)
theorem pl_lt (r b : Bool) : pl r b < 4 := by cases r <;> cases b <;> decide
theorem pick_kAt (k : K4) (r b : Bool) : pick k r b = kAt k (pl r b) := by cases r <;> cases b <;> rfl
theorem pl_of {i : Nat} (h : i < 4) : ∃ r b, i = pl r b := by
  have : i = 0 ∨ i = 1 ∨ i = 2 ∨ i = 3 := by omega
  rcases this with rfl | rfl | rfl | rfl
  · exact ⟨false, false, rfl⟩
  · exact ⟨true, false, rfl⟩
  · exact ⟨false, true, rfl⟩
  · exact ⟨true, true, rfl⟩
theorem pl_across (r b : Bool) : 3 - pl r b = pl (!r) (!b) := by cases r <;> cases b <;> rfl
theorem pl_inj {r b r' b' : Bool} : pl r b = pl r' b' ↔ r = r' ∧ b = b' := by cases r <;> cases b <;> cases r' <;> cases b' <;> decide
theorem fo_iff {N : List Nd} {n : Nat} {k : K4} : Fo N n k ↔ ∀ i, i < 4 → Sq N n (kAt k i) := by
  constructor
  · intro h i hi
    obtain ⟨r, b, rfl⟩ := pl_of hi
    rw [← pick_kAt]; exact h r b
  · intro h r b
    rw [pick_kAt]; exact h _ (pl_lt r b)
/-- Four, one at a place. -/
def corn (e x at_ : Nat) : K4 := mk4 fun i => if i = at_ then x else e
theorem corn_fo {N : List Nd} {n e x at_ : Nat} (he : Sq N n e) (hx : Sq N n x) : Fo N n (corn e x at_) := fo_iff.2 fun i hi => by
  unfold corn; rw [kAt_mk4 _ hi]; split
  · exact hx
  · exact he
theorem raise_all {N : List Nd} {n e : Nat} {k : K4} {f : Nat → Nat} (he : ∀ X Y, getZ N n e X Y = 0) (hk : ∀ i, i < 4 → kidZ N (f i) = corn e (kAt k i) (3 - i)) (a b : Int) : alK N (n + 1) (mk4 f) a b = alK N n k a b := by
  refine al_raise (e := e) he (fun r b r' b' => ?_) a b
  rw [pick_kAt (mk4 f), kAt_mk4 _ (pl_lt _ _), hk _ (pl_lt _ _), pick_kAt, pick_kAt k]
  unfold corn
  rw [kAt_mk4 _ (pl_lt _ _), pl_across]
  simp only [pl_inj]
/-- The four in the middle. -/
def midF (N : List Nd) (k : K4) (i : Nat) : Nat := kAt (kidZ N (kAt k i)) (3 - i)
def midK (N : List Nd) (k : K4) : K4 := mk4 (midF N k)
theorem mid_pick (N : List Nd) (k : K4) (r b : Bool) : pick (midK N k) r b = pick (kidZ N (pick k r b)) (!r) (!b) := by
  rw [pick_kAt, pick_kAt, pick_kAt k]
  unfold midK midF
  rw [kAt_mk4 _ (pl_lt _ _), pl_across]
theorem mid_fo {N : List Nd} (hw : Wf N) {n : Nat} {k : K4} (h : Fo N (n + 1) k) : Fo N n (midK N k) := fun r b => by
  rw [mid_pick]; exact (h r b).kid hw _ _
/-- Are all living cells in the middle? -/
def InMid (N : List Nd) (k : K4) : Prop := ∀ i, i < 4 → ∀ j, j < 4 → j = 3 - i ∨ ctZ N (kAt (kidZ N (kAt k i)) j) = 0
theorem inMid_iff {N : List Nd} (hw : Wf N) {n : Nat} {k : K4} (hk : Fo N (n + 1) k) : InMid N k ↔ ∀ a b, alK N (n + 1) k a b = true → inS n a = true ∧ inS n b = true := by
  rw [← in_middle hw hk]
  constructor
  · intro h r b r' b'
    have := h (pl r b) (pl_lt _ _) (pl r' b') (pl_lt _ _)
    rw [pl_across, pl_inj, ← pick_kAt k, ← pick_kAt] at this
    exact this
  · intro h i hi j hj
    obtain ⟨r, b, rfl⟩ := pl_of hi
    obtain ⟨r', b', rfl⟩ := pl_of hj
    have := h r b r' b'
    rw [pl_across, pl_inj, ← pick_kAt k, ← pick_kAt]
    exact this
/-- Another cell of a square. -/
def Chg (N : List Nd) (n x : Nat) (N' : List Nd) (x' : Nat) (X Y : Int) (c : Nat) : Prop := ∀ A B, getZ N' n x' A B = if A % 2 ^ n = X % 2 ^ n ∧ B % 2 ^ n = Y % 2 ^ n then c else getZ N n x A B
theorem mod_bit (n : Nat) (A X : Int) : (A % 2 ^ (n + 1) = X % 2 ^ (n + 1)) ↔ (A % 2 ^ n = X % 2 ^ n ∧ qb n A = qb n X) := by
  have hp := pow_pos2 n
  have key : ∀ A : Int, A % 2 ^ (n + 1) = A % 2 ^ n + (if qb n A then 2 ^ n else 0) := fun A => by
    have e1 : A / 2 ^ n % 2 = if qb n A then 1 else 0 := by
      unfold qb
      rcases Int.emod_two_eq (A / 2 ^ n) with h | h <;> rw [h] <;> simp
    have d1 := Int.emod_add_mul_ediv A (2 ^ n)
    have d2 := Int.emod_add_mul_ediv (A / 2 ^ n) 2
    have m0 := Int.emod_nonneg A (show (2 : Int) ^ n ≠ 0 by omega)
    have m1 := Int.emod_lt_of_pos A hp
    have h2 := pow_two2 n
    have e2 : A = (A % 2 ^ n + (if qb n A then 2 ^ n else 0)) + 2 ^ (n + 1) * (A / 2 ^ n / 2) := by
      rw [h2, Int.mul_comm 2 (2 ^ n), Int.mul_assoc]
      cases hq : qb n A <;> rw [hq] at e1 <;> simp only [if_true, Bool.false_eq_true, if_false] at e1 ⊢
      · rw [show 2 * (A / 2 ^ n / 2) = A / 2 ^ n by omega]; omega
      · have : 2 ^ n * (2 * (A / 2 ^ n / 2)) = 2 ^ n * (A / 2 ^ n) - 2 ^ n := by
          rw [show 2 * (A / 2 ^ n / 2) = A / 2 ^ n - 1 by omega, Int.mul_sub, Int.mul_one]
        omega
    have e3 : (0 : Int) ≤ A % 2 ^ n + (if qb n A then 2 ^ n else 0) := by split <;> omega
    have e4 : A % 2 ^ n + (if qb n A then 2 ^ n else 0) < 2 ^ (n + 1) := by split <;> omega
    generalize A % 2 ^ n + (if qb n A then 2 ^ n else 0) = R at *
    rw [e2, Int.add_mul_emod_self_left]
    exact Int.emod_eq_of_lt e3 e4
  have a0 := Int.emod_nonneg A (show (2 : Int) ^ n ≠ 0 by omega)
  have a1 := Int.emod_lt_of_pos A hp
  have x0 := Int.emod_nonneg X (show (2 : Int) ^ n ≠ 0 by omega)
  have x1 := Int.emod_lt_of_pos X hp
  rw [key A, key X]
  cases qb n A <;> cases qb n X <;> simp <;> omega
theorem chg_zero (N : List Nd) (x : Nat) (N' : List Nd) (X Y : Int) (c : Nat) : Chg N 0 x N' c X Y c := fun A B => by
  show c = _
  rw [if_pos (by simp [Int.emod_one])]
theorem chg_step {N N1 N2 : List Nd} {n x y x' : Nat} {X Y : Int} {c : Nat} (h : Chg N n (pick (kidZ N x) (qb n X) (qb n Y)) N1 y X Y c)
    (hk : ∀ r b, pick (kidZ N2 x') r b = if r = qb n X ∧ b = qb n Y then y else pick (kidZ N x) r b) (hy : ∀ A B, getZ N2 n y A B = getZ N1 n y A B) (ho : ∀ r b A B, getZ N2 n (pick (kidZ N x) r b) A B = getZ N n (pick (kidZ N x) r b) A B) : Chg N (n + 1) x N2 x' X Y c := fun A B => by
  show getZ N2 n (pick (kidZ N2 x') (qb n A) (qb n B)) A B = if _ then c else getZ N n (pick (kidZ N x) (qb n A) (qb n B)) A B
  rw [hk]
  simp only [mod_bit]
  by_cases hb : qb n A = qb n X ∧ qb n B = qb n Y
  · rw [if_pos hb, hy, h A B, hb.1, hb.2]
    simp
  · rw [if_neg hb, if_neg (fun hh => hb ⟨hh.1.2, hh.2.2⟩), ho]
/-- A plane with another cell. -/
theorem al_chg {N N' : List Nd} {n x x' : Nat} {a b : Int} {c : Nat} (h : Chg N (n + 1) x N' x' (a + 2 ^ n) (b + 2 ^ n) c) (ha : inS n a = true) (hb : inS n b = true) (p q : Int) :
    alK N' n (kidZ N' x') p q = if p = a ∧ q = b then c == 1 else alK N n (kidZ N x) p q := by
  rw [al_root, al_root, h]
  have hr : ∀ {a : Int}, inS n a = true → (a + 2 ^ n) % 2 ^ (n + 1) = a + 2 ^ n := fun {a} ha => by
    rw [inS_iff] at ha
    exact Int.emod_eq_of_lt (by omega) (by rw [pow_two2]; omega)
  rw [hr ha, hr hb]
  by_cases hpq : p = a ∧ q = b
  · obtain ⟨rfl, rfl⟩ := hpq
    rw [hr ha, hr hb, ha, hb]
    simp
  · rw [if_neg hpq]
    cases hp : inS n p with
    | false => rfl
    | true =>
      cases hq : inS n q with
      | false => rfl
      | true =>
        rw [hr hp, hr hq, if_neg (fun hh => hpq ⟨by omega, by omega⟩)]
end Go.Proofs.Ytgciceogggldhaa
