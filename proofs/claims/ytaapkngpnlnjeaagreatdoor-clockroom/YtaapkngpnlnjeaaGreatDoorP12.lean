-- P12
import Derived.Test.YtaapkngpnlnjeaaGreatDoorP03
import Derived.Test.YtaapkngpnlnjeaaGreatDoorP10
import Derived.Lib.TrailingZeros
section
namespace Go.Proofs.YtaapkngpnlnjeaaGreatDoor

/-- The cell at a place of a square of level n that has another one, of level n0, in the corner at the plane's middle; it is itself the plane's quarter A, B. -/
def Gi (N : List Nd) (n0 y : Nat) (A B : Bool) (n : Nat) (X Y : Int) : Nat := if inS n0 (X + off n A - 2 ^ n) && inS n0 (Y + off n B - 2 ^ n) then getZ N n0 y (X + off n A - 2 ^ n) (Y + off n B - 2 ^ n) else 0
def Fi (N : List Nd) (n0 y : Nat) (A B : Bool) (n : Nat) (r : R4) (c : Nat) : Int → Int → Nat := fun X Y => if r.has X Y then c else Gi N n0 y A B n X Y
theorem Gi_app {N : List Nd} (hw : Wf N) (E : List Nd) (hw' : Wf (N ++ E)) {n0 y : Nat} (h : Sq0 N n0 y) (A B : Bool) (n : Nat) : Gi (N ++ E) n0 y A B n = Gi N n0 y A B n := by
  funext X Y
  unfold Gi
  rw [h.get_app hw E hw']
theorem Fi_app {N : List Nd} (hw : Wf N) (E : List Nd) (hw' : Wf (N ++ E)) {n0 y : Nat} (h : Sq0 N n0 y) (A B : Bool) (n : Nat) (r : R4) (c : Nat) : Fi (N ++ E) n0 y A B n r c = Fi N n0 y A B n r c := by
  unfold Fi
  rw [Gi_app hw E hw' h]
theorem get_sub (N : List Nd) (n x : Nat) (X Y : Int) (A B : Bool) : getZ N n x (X + off n A - 2 ^ n) (Y + off n B - 2 ^ n) = getZ N n x X Y := by
  have e : ∀ (Z : Int) (C : Bool), ∃ k : Int, Z + off n C - 2 ^ n = Z + k * 2 ^ n := fun Z C => by
    cases C
    · exact ⟨-1, by simp [off]; omega⟩
    · exact ⟨0, by simp [off]⟩
  obtain ⟨k, e1⟩ := e X A
  obtain ⟨l, e2⟩ := e Y B
  rw [e1, e2, get_add]
theorem Fi_base (N : List Nd) (n y : Nat) (A B : Bool) (r : R4) (c : Nat) (X Y : Int) (hX : 0 ≤ X ∧ X < 2 ^ n) (hY : 0 ≤ Y ∧ Y < 2 ^ n) : Fi N n y A B n r c X Y = Tc N n y r c [] X Y := by
  unfold Fi Tc Gi
  have h1 : inS n (X + off n A - 2 ^ n) = true := by
    rw [inS_iff]
    rcases off_cases n A with e | e <;> rw [e] <;> omega
  have h2 : inS n (Y + off n B - 2 ^ n) = true := by
    rw [inS_iff]
    rcases off_cases n B with e | e <;> rw [e] <;> omega
  rw [h1, h2, get_sub]
  simp
theorem in_step (n : Nat) (A : Bool) (X : Int) : X + off n (!A) + off (n + 1) A - 2 ^ (n + 1) = X + off n A - 2 ^ n := by
  have h2 := pow_two2 n
  cases A <;> simp only [off, Bool.not_false, Bool.not_true, Bool.false_eq_true, if_true, if_false] <;> omega
theorem out_step (n n0 : Nat) (h0 : n0 ≤ n) (A : Bool) (X : Int) (hX : 0 ≤ X ∧ X < 2 ^ n) : inS n0 (X + off n A + off (n + 1) A - 2 ^ (n + 1)) = false := by
  have h2 := pow_two2 n
  have hp := pow_pos2 n
  have hp0 := pow_pos2 n0
  have hle : (2 : Int) ^ n0 ≤ 2 ^ n := by
    have h1 : (2 : Nat) ^ n0 ≤ 2 ^ n := Nat.pow_le_pow_right (by decide) h0
    have h2 := Int.ofNat_le.2 h1
    rw [Int.natCast_pow, Int.natCast_pow] at h2
    exact h2
  cases hh : inS n0 (X + off n A + off (n + 1) A - 2 ^ (n + 1)) with
  | false => rfl
  | true =>
    rw [inS_iff] at hh
    cases A <;> simp only [off, Bool.false_eq_true, if_true, if_false] at hh <;> omega
theorem Fi_in (N : List Nd) (n0 y n : Nat) (A B : Bool) (r : R4) (c : Nat) (X Y : Int) (hX : 0 ≤ X ∧ X < 2 ^ n) (hY : 0 ≤ Y ∧ Y < 2 ^ n) : Fi N n0 y A B n (qR r n (!A) (!B)) c X Y = qF (Fi N n0 y A B (n + 1) r c) n (!A) (!B) X Y := by
  unfold Fi qF Gi
  dsimp only
  rw [qR_has r n _ _ hX hY, in_step n A X, in_step n B Y]
theorem Fi_out (N : List Nd) (hw : Wf N) (n0 y n : Nat) (h0 : n0 ≤ n) (A B : Bool) (r : R4) (c : Nat) (a b : Bool) (hab : ¬(a = !A ∧ b = !B)) (X Y : Int) (hX : 0 ≤ X ∧ X < 2 ^ n) (hY : 0 ≤ Y ∧ Y < 2 ^ n) : Tc N n 0 (qR r n a b) c [] X Y = qF (Fi N n0 y A B (n + 1) r c) n a b X Y := by
  unfold Tc Fi qF Gi
  dsimp only
  rw [qR_has r n _ _ hX hY, get_dead hw]
  have hz : (inS n0 (X + off n a + off (n + 1) A - 2 ^ (n + 1)) && inS n0 (Y + off n b + off (n + 1) B - 2 ^ (n + 1))) = false := by
    by_cases ha : a = !A
    · have hb : b = B := by
        cases b <;> cases B <;> simp_all
      rw [hb, out_step n n0 h0 B Y hY, Bool.and_false]
    · have hb : a = A := by
        cases a <;> cases A <;> simp_all
      rw [hb, out_step n n0 h0 A X hX, Bool.false_and]
  rw [hz]
  simp
/-- The plane after a change: from the square's corner on. -/
def Fp (N : List Nd) (n0 : Nat) (k : K4) (n : Nat) (r : R4) (c : Nat) : Int → Int → Nat := fun X Y => if r.has X Y then c else if alK N n0 k (X - 2 ^ n) (Y - 2 ^ n) then 1 else 0
theorem Fp_q {N : List Nd} (hw : Wf N) {n0 : Nat} {k : K4} (hk : Fo N n0 k) (n : Nat) (r : R4) (c : Nat) (A B : Bool) (X Y : Int) (hX : 0 ≤ X ∧ X < 2 ^ n) (hY : 0 ≤ Y ∧ Y < 2 ^ n) : Fi N n0 (pick k A B) A B n (qR r n A B) c X Y = qF (Fp N n0 k n r c) n A B X Y := by
  unfold Fi Fp qF Gi
  dsimp only
  rw [qR_has r n _ _ hX hY]
  split
  · rfl
  · unfold alK
    have sg : ∀ (Z : Int) (C : Bool), 0 ≤ Z ∧ Z < 2 ^ n → decide (0 ≤ Z + off n C - 2 ^ n) = C := fun Z C hZ => by
      cases C <;> simp only [off, Bool.false_eq_true, if_true, if_false, decide_eq_true_eq, decide_eq_false_iff_not] <;> omega
    rw [sg X A hX, sg Y B hY]
    cases h1 : inS n0 (X + off n A - 2 ^ n) && inS n0 (Y + off n B - 2 ^ n)
    · simp
    · simp only [Bool.true_and, if_true]
      rcases get_cell hw (hk A B) (X + off n A - 2 ^ n) (Y + off n B - 2 ^ n) with e | e <;> rw [e] <;> simp
/-- A plane that has a function's cells. -/
theorem al_con {N : List Nd} {n x : Nat} {f : Int → Int → Nat} (h : Con N (n + 1) x f) (a b : Int) : alK N n (kidZ N x) a b = (inS n a && inS n b && (f (a + 2 ^ n) (b + 2 ^ n) == 1)) := by
  rw [al_root]
  cases h1 : inS n a && inS n b
  · simp
  · rw [Bool.and_eq_true] at h1
    have p1 := inS_iff.1 h1.1
    have p2 := inS_iff.1 h1.2
    have h2 := pow_two2 n
    rw [h.2 (a + 2 ^ n) (b + 2 ^ n) (by omega) (by omega)]
end Go.Proofs.YtaapkngpnlnjeaaGreatDoor
end

section
namespace Go.Proofs.YtaapkngpnlnjeaaGreatDoor
open Go.RowKit

theorem lf_bin (F : Plane) (a b : Int) : lf F a b ≤ 1 := by unfold lf; split <;> omega
theorem gens_bin : ∀ (k : Nat) {F : Plane}, (∀ p q, F p q ≤ 1) → ∀ p q, gens k F p q ≤ 1
  | 0, _, h => h
  | k + 1, F, _ => gens_bin k (F := lf F) fun p q => lf_bin F p q
theorem plL_bin (l : List (Int × Int)) (p q : Int) : plL l p q ≤ 1 := by unfold plL; split <;> omega
/-- All living cells are within a bound. -/
def Wid (G : Plane) (B : Int) : Prop := ∀ p q, G p q = 1 → (-B ≤ p ∧ p < B) ∧ -B ≤ q ∧ q < B
theorem Wid.mono {G : Plane} {B C : Int} (h : Wid G B) (hC : B ≤ C) : Wid G C := fun p q e => by
  have := h p q e
  omega
theorem lf_dead {F : Plane} {a b : Int} (h : ∀ X Y, a - 1 ≤ X ∧ X ≤ a + 1 → b - 1 ≤ Y ∧ Y ≤ b + 1 → F X Y = 0) : lf F a b = 0 := by
  rw [lf_loc (F := F) (G := fun _ _ => 0) (fun X Y hX hY => h X Y hX hY)]
  show (if ruleB (decide ((0 : Nat) = 1)) ((0 + 0 + 0 + 0 + 0 + 0 + 0 + 0 : Nat) : Int) = true then 1 else 0) = 0
  decide
theorem Wid.lf {F : Plane} {B : Int} (hb : ∀ p q, F p q ≤ 1) (h : Wid F B) : Wid (lf F) (B + 1) := fun p q e => by
  apply Classical.byContradiction
  intro hn
  have : Go.Proofs.YtaapkngpnlnjeaaGreatDoor.lf F p q = 0 := lf_dead fun X Y hX hY => by
    have h1 := hb X Y
    by_cases h2 : F X Y = 1
    · have := h X Y h2
      exact absurd ⟨⟨by omega, by omega⟩, by omega, by omega⟩ hn
    · omega
  omega
theorem Wid.gens : ∀ (k : Nat) {F : Plane} {B : Int}, (∀ p q, F p q ≤ 1) → Wid F B → Wid (gens k F) (B + k)
  | 0, F, B, _, h => h.mono (by omega)
  | k + 1, F, B, hb, h => (Wid.gens k (F := Go.Proofs.YtaapkngpnlnjeaaGreatDoor.lf F) (B := B + 1) (fun p q => lf_bin F p q) (Wid.lf hb h)).mono (by omega)
theorem gens_zero : ∀ (k : Nat) {F : Plane}, (∀ p q, F p q = 0) → ∀ p q, gens k F p q = 0
  | 0, _, h => h
  | k + 1, F, h => gens_zero k (F := lf F) fun _ _ => lf_dead fun X Y _ _ => h X Y
/-- A plane of level n + 1 that has a function's cells. -/
structure PG (N : List Nd) (n x : Nat) (G : Plane) : Prop where
  sq : Sq N (n + 1) x
  two : 2 ≤ n
  al : ∀ p q, alK N n (kidZ N x) p q = decide (G p q = 1)
  em : HasEm N (n - 1)
  bin : ∀ p q, G p q ≤ 1
theorem PG.wid {N : List Nd} {n x : Nat} {G : Plane} (h : PG N n x G) : Wid G (2 ^ n) := fun p q e => by
  have := h.al p q
  rw [e, al_root] at this
  simp only [decide_true, Bool.and_eq_true] at this
  have h1 := inS_iff.1 this.1.1
  have h2 := inS_iff.1 this.1.2
  exact ⟨h1, h2⟩
theorem PG.con {N : List Nd} {n x : Nat} {G : Plane} (hw : Wf N) (h : PG N n x G) : Con N (n + 1) x (shF G (-2 ^ n) (-2 ^ n)) := by
  refine ⟨h.sq, fun X Y hX hY => ?_⟩
  have h2 := pow_two2 n
  have := h.al (X - 2 ^ n) (Y - 2 ^ n)
  rw [al_root, Int.sub_add_cancel, Int.sub_add_cancel, show inS n (X - 2 ^ n) = true by rw [inS_iff]; omega, show inS n (Y - 2 ^ n) = true by rw [inS_iff]; omega] at this
  unfold shF
  rw [← Int.sub_eq_add_neg, ← Int.sub_eq_add_neg]
  have hb := h.bin (X - 2 ^ n) (Y - 2 ^ n)
  rcases get_cell hw h.sq X Y with e | e
  · rw [e] at this ⊢
    simp at this
    omega
  · rw [e] at this ⊢
    simp at this
    exact this.symm
/-- A plane's cells, read of its square. -/
theorem al_of_con {N : List Nd} {n x : Nat} {G : Plane} (h : Con N (n + 1) x (shF G (-2 ^ n) (-2 ^ n))) (hw : Wid G (2 ^ n)) (p q : Int) : alK N n (kidZ N x) p q = decide (G p q = 1) := by
  rw [al_con h]
  unfold shF
  rw [show p + 2 ^ n + -2 ^ n = p by omega, show q + 2 ^ n + -2 ^ n = q by omega]
  by_cases e : G p q = 1
  · have := hw p q e
    rw [show inS n p = true by rw [inS_iff]; exact this.1, show inS n q = true by rw [inS_iff]; exact this.2, e]
    rfl
  · rw [decide_eq_false e, show (G p q == 1) = false by simpa using e]
    simp
/-- A square's successor, as a plane. -/
theorem succ_plane {N : List Nd} (_hw : Wf N) {m x P z : Nat} {G : Plane} (hx : Con N (m + 2) x (shF G (-2 ^ (m + 1)) (-2 ^ (m + 1)))) (hs : Sc N m x P z) (hwid : Wid (gens (2 ^ P) G) (2 ^ m)) (p q : Int) : alK N m (kidZ N z) p q = decide (gens (2 ^ P) G p q = 1) := by
  have h := hs.out _ hx
  rw [gens_sh, shF_shF] at h
  have h2 := pow_two2 m
  rw [show -2 ^ (m + 1) + 2 ^ m = -(2 : Int) ^ m by omega] at h
  exact al_of_con h hwid p q
theorem and_pred (k m : Nat) : 2 ^ k * (2 * m + 1) &&& (2 ^ k * (2 * m + 1) - 1) = 2 ^ k * (2 * m) := by
  induction k with
  | zero =>
    simp only [Nat.pow_zero, Nat.one_mul, Nat.add_sub_cancel]
    apply Nat.eq_of_testBit_eq
    intro i
    rw [Nat.testBit_and]
    cases i with
    | zero => simp [Nat.testBit_zero]
    | succ i =>
      rw [Nat.testBit_succ, Nat.testBit_succ, show (2 * m + 1) / 2 = m by omega, show 2 * m / 2 = m by omega, Bool.and_self]
  | succ k ih =>
    have hp : 0 < 2 ^ k * (2 * m + 1) := Nat.mul_pos (Nat.two_pow_pos k) (by omega)
    have e1 : 2 ^ (k + 1) * (2 * m + 1) = 2 * (2 ^ k * (2 * m + 1)) := by rw [Nat.pow_succ]; ac_rfl
    have e2 : 2 ^ (k + 1) * (2 * m) = 2 * (2 ^ k * (2 * m)) := by rw [Nat.pow_succ]; ac_rfl
    rw [e1, e2, ← ih]
    generalize 2 ^ k * (2 * m + 1) = y at *
    apply Nat.eq_of_testBit_eq
    intro i
    rw [Nat.testBit_and]
    cases i with
    | zero => simp [Nat.testBit_zero]
    | succ i =>
      rw [Nat.testBit_succ, Nat.testBit_succ, Nat.testBit_succ, show 2 * y / 2 = y by omega, show (2 * y - 1) / 2 = y - 1 by omega, show 2 * (y &&& (y - 1)) / 2 = y &&& (y - 1) by omega, Nat.testBit_and]
/-- The least power of two in a number. -/
theorem low_bit {r : Nat} (h0 : 0 < r) (h : r < 2 ^ 64) : r &&& (r - 1) = r - 2 ^ Lib.ctz 64 r ∧ 2 ^ Lib.ctz 64 r ≤ r ∧ Lib.ctz 64 r < 64 := by
  obtain ⟨m, e, hk⟩ := Lib.ctzFrom_spec 64 r h0 h
  have hc : Lib.ctz 64 r = Lib.ctzFrom 64 r := by unfold Lib.ctz; rw [if_neg (by omega)]
  rw [hc]
  generalize Lib.ctzFrom 64 r = k at *
  have hp := Nat.two_pow_pos k
  have e2 : 2 ^ k * (2 * m + 1) = 2 ^ k * (2 * m) + 2 ^ k := by rw [Nat.mul_add, Nat.mul_one]
  refine ⟨?_, by rw [e, e2]; omega, hk⟩
  have := and_pred k m
  rw [← e] at this
  rw [this, e, e2]
  omega
end Go.Proofs.YtaapkngpnlnjeaaGreatDoor
end
