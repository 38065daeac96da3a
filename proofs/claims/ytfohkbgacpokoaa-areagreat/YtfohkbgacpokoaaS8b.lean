/- A plane's squares after a change: plain mathematics, no program. -/
import Derived.Test.YtfohkbgacpokoaaS8
namespace Go.Proofs.Ytfohkbgacpokoaa

/-- The cell at a place of a square of level n that has another one, of level n0, in the corner at the plane's middle; it is itself the plane's quarter A, B. -/
def Gi (N : List Nd) (n0 y : Nat) (A B : Bool) (n : Nat) (X Y : Int) : Nat := if inS n0 (X + off n A - 2 ^ n) && inS n0 (Y + off n B - 2 ^ n) then getZ N n0 y (X + off n A - 2 ^ n) (Y + off n B - 2 ^ n) else 0
def Fi (N : List Nd) (n0 y : Nat) (A B : Bool) (n : Nat) (r : R4) (c : Nat) : Int → Int → Nat := fun X Y => if r.has X Y then c else Gi N n0 y A B n X Y
theorem Gi_app {N : List Nd} (hw : Wf N) (E : List Nd) (hw' : Wf (N ++ E)) {n0 y : Nat} (h : Sq0 N n0 y) (A B : Bool) (n : Nat) : Gi (N ++ E) n0 y A B n = Gi N n0 y A B n := by
  funext X Y
  unfold Gi
  rw [h.get_app hw E hw']
theorem Fi_app {N : List Nd} (hw : Wf N) (E : List Nd) (hw' : Wf (N ++ E)) {n0 y : Nat} (h : Sq0 N n0 y) (A B : Bool) (n : Nat) (r : R4) (c : Nat) : Fi (N ++ E) n0 y A B n r c = Fi N n0 y A B n r c := by
  unfold Fi
  rw [Gi_app hw E hw' h]
theorem get_sub (N : List Nd) (n x : Nat) (X Y : Int) (A B : Bool) : getZ N n x (X + off n A - 2 ^ n) (Y + off n B - 2 ^ n) = getZ N n x X Y := by
  have e : ∀ (Z : Int) (C : Bool), ∃ k : Int, Z + off n C - 2 ^ n = Z + k * 2 ^ n := fun Z C => by
    cases C
    · exact ⟨-1, by simp [off]; omega⟩
    · exact ⟨0, by simp [off]⟩
  obtain ⟨k, e1⟩ := e X A
  obtain ⟨l, e2⟩ := e Y B
  rw [e1, e2, get_add]
theorem Fi_base (N : List Nd) (n y : Nat) (A B : Bool) (r : R4) (c : Nat) (X Y : Int) (hX : 0 ≤ X ∧ X < 2 ^ n) (hY : 0 ≤ Y ∧ Y < 2 ^ n) : Fi N n y A B n r c X Y = Tc N n y r c [] X Y := by
  unfold Fi Tc Gi
  have h1 : inS n (X + off n A - 2 ^ n) = true := by
    rw [inS_iff]
    rcases off_cases n A with e | e <;> rw [e] <;> omega
  have h2 : inS n (Y + off n B - 2 ^ n) = true := by
    rw [inS_iff]
    rcases off_cases n B with e | e <;> rw [e] <;> omega
  rw [h1, h2, get_sub]
  simp
theorem in_step (n : Nat) (A : Bool) (X : Int) : X + off n (!A) + off (n + 1) A - 2 ^ (n + 1) = X + off n A - 2 ^ n := by
  have h2 := pow_two2 n
  cases A <;> simp only [off, Bool.not_false, Bool.not_true, Bool.false_eq_true, if_true, if_false] <;> omega
theorem out_step (n n0 : Nat) (h0 : n0 ≤ n) (A : Bool) (X : Int) (hX : 0 ≤ X ∧ X < 2 ^ n) : inS n0 (X + off n A + off (n + 1) A - 2 ^ (n + 1)) = false := by
  have h2 := pow_two2 n
  have hp := pow_pos2 n
  have hp0 := pow_pos2 n0
  have hle : (2 : Int) ^ n0 ≤ 2 ^ n := by
    have h1 : (2 : Nat) ^ n0 ≤ 2 ^ n := Nat.pow_le_pow_right (by decide) h0
    have h2 := Int.ofNat_le.2 h1
    rw [Int.natCast_pow, Int.natCast_pow] at h2
    exact h2
  cases hh : inS n0 (X + off n A + off (n + 1) A - 2 ^ (n + 1)) with
  | false => rfl
  | true =>
    rw [inS_iff] at hh
    cases A <;> simp only [off, Bool.false_eq_true, if_true, if_false] at hh <;> omega
theorem Fi_in (N : List Nd) (n0 y n : Nat) (A B : Bool) (r : R4) (c : Nat) (X Y : Int) (hX : 0 ≤ X ∧ X < 2 ^ n) (hY : 0 ≤ Y ∧ Y < 2 ^ n) : Fi N n0 y A B n (qR r n (!A) (!B)) c X Y = qF (Fi N n0 y A B (n + 1) r c) n (!A) (!B) X Y := by
  unfold Fi qF Gi
  dsimp only
  rw [qR_has r n _ _ hX hY, in_step n A X, in_step n B Y]
theorem Fi_out (N : List Nd) (hw : Wf N) (n0 y n : Nat) (h0 : n0 ≤ n) (A B : Bool) (r : R4) (c : Nat) (a b : Bool) (hab : ¬(a = !A ∧ b = !B)) (X Y : Int) (hX : 0 ≤ X ∧ X < 2 ^ n) (hY : 0 ≤ Y ∧ Y < 2 ^ n) : Tc N n 0 (qR r n a b) c [] X Y = qF (Fi N n0 y A B (n + 1) r c) n a b X Y := by
  unfold Tc Fi qF Gi
  dsimp only
  rw [qR_has r n _ _ hX hY, get_dead hw]
  have hz : (inS n0 (X + off n a + off (n + 1) A - 2 ^ (n + 1)) && inS n0 (Y + off n b + off (n + 1) B - 2 ^ (n + 1))) = false := by
    by_cases ha : a = !A
    · have hb : b = B := by
        cases b <;> cases B <;> simp_all
      rw [hb, out_step n n0 h0 B Y hY, Bool.and_false]
    · have hb : a = A := by
        cases a <;> cases A <;> simp_all
      rw [hb, out_step n n0 h0 A X hX, Bool.false_and]
  rw [hz]
  simp
/-- The plane after a change: from the square's corner on. -/
def Fp (N : List Nd) (n0 : Nat) (k : K4) (n : Nat) (r : R4) (c : Nat) : Int → Int → Nat := fun X Y => if r.has X Y then c else if alK N n0 k (X - 2 ^ n) (Y - 2 ^ n) then 1 else 0
theorem Fp_q {N : List Nd} (hw : Wf N) {n0 : Nat} {k : K4} (hk : Fo N n0 k) (n : Nat) (r : R4) (c : Nat) (A B : Bool) (X Y : Int) (hX : 0 ≤ X ∧ X < 2 ^ n) (hY : 0 ≤ Y ∧ Y < 2 ^ n) : Fi N n0 (pick k A B) A B n (qR r n A B) c X Y = qF (Fp N n0 k n r c) n A B X Y := by
  unfold Fi Fp qF Gi
  dsimp only
  rw [qR_has r n _ _ hX hY]
  split
  · rfl
  · unfold alK
    have sg : ∀ (Z : Int) (C : Bool), 0 ≤ Z ∧ Z < 2 ^ n → decide (0 ≤ Z + off n C - 2 ^ n) = C := fun Z C hZ => by
      cases C <;> simp only [off, Bool.false_eq_true, if_true, if_false, decide_eq_true_eq, decide_eq_false_iff_not] <;> omega
    rw [sg X A hX, sg Y B hY]
    cases h1 : inS n0 (X + off n A - 2 ^ n) && inS n0 (Y + off n B - 2 ^ n)
    · simp
    · simp only [Bool.true_and, if_true]
      rcases get_cell hw (hk A B) (X + off n A - 2 ^ n) (Y + off n B - 2 ^ n) with e | e <;> rw [e] <;> simp
/-- A plane that has a function's cells. -/
theorem al_con {N : List Nd} {n x : Nat} {f : Int → Int → Nat} (h : Con N (n + 1) x f) (a b : Int) : alK N n (kidZ N x) a b = (inS n a && inS n b && (f (a + 2 ^ n) (b + 2 ^ n) == 1)) := by
  rw [al_root]
  cases h1 : inS n a && inS n b
  · simp
  · rw [Bool.and_eq_true] at h1
    have p1 := inS_iff.1 h1.1
    have p2 := inS_iff.1 h1.2
    have h2 := pow_two2 n
    rw [h.2 (a + 2 ^ n) (b + 2 ^ n) (by omega) (by omega)]
end Go.Proofs.Ytfohkbgacpokoaa
