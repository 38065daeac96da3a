-- P03
import Derived.Test.YtaapkngpnlnjeaaGreatDoorP02
import Derived.Test.YtaapkngpnlnjeaaGreatDoorP01
import Derived.RowKit
import Derived.IntWalk
import Derived.Lib.BitFns
section
namespace Go.Proofs.YtaapkngpnlnjeaaGreatDoor

/-- A rectangle: from x, y to X, Y. -/
structure R4 where
  x : Int
  y : Int
  X : Int
  Y : Int
  deriving DecidableEq
/-- Without points? -/
def R4.no (r : R4) : Bool := decide (r.X ≤ r.x) || decide (r.Y ≤ r.y)
def R4.has (r : R4) (a b : Int) : Bool := decide (r.x ≤ a) && decide (a < r.X) && decide (r.y ≤ b) && decide (b < r.Y)
theorem R4.no_iff {r : R4} : r.no = true ↔ r.X ≤ r.x ∨ r.Y ≤ r.y := by simp [R4.no]
theorem R4.no_not {r : R4} : r.no = false ↔ r.x < r.X ∧ r.y < r.Y := by simp [R4.no]
theorem R4.has_iff {r : R4} {a b : Int} : r.has a b = true ↔ (r.x ≤ a ∧ a < r.X) ∧ r.y ≤ b ∧ b < r.Y := by simp [R4.has, and_assoc]
theorem R4.has_no {r : R4} (h : r.no = true) (a b : Int) : r.has a b = false := by
  rw [R4.no_iff] at h
  cases hh : r.has a b with
  | false => rfl
  | true => rw [R4.has_iff] at hh; omega
/-- Of two intervals. -/
def cutR (r : R4) (p q h : Int) : R4 :=
  if (R4.mk (max r.x p) (max r.y q) (min r.X (p + h)) (min r.Y (q + h))).no then ⟨-p, -q, -p, -q⟩ else ⟨max r.x p - p, max r.y q - q, min r.X (p + h) - p, min r.Y (q + h) - q⟩
/-- A rectangle's part in one of four of level n, seen from its corner. -/
def qR (r : R4) (n : Nat) (c d : Bool) : R4 := cutR r (off n c) (off n d) (2 ^ n)
theorem off_cases (n : Nat) (c : Bool) : off n c = 0 ∨ off n c = 2 ^ n := by cases c <;> simp [off]
theorem off_rng (n : Nat) (c : Bool) : 0 ≤ off n c ∧ off n c ≤ 2 ^ n := by have := pow_pos2 n; rcases off_cases n c with h | h <;> omega
theorem cutR_has (r : R4) (p q h : Int) {a b : Int} (ha : 0 ≤ a ∧ a < h) (hb : 0 ≤ b ∧ b < h) : (cutR r p q h).has a b = r.has (a + p) (b + q) := by
  rw [Bool.eq_iff_iff, R4.has_iff, R4.has_iff]
  unfold cutR
  split
  · rename_i hm
    rw [R4.no_iff] at hm
    simp only at hm ⊢
    omega
  · simp only
    omega
theorem qR_has (r : R4) (n : Nat) (c d : Bool) {a b : Int} (ha : 0 ≤ a ∧ a < 2 ^ n) (hb : 0 ≤ b ∧ b < 2 ^ n) : (qR r n c d).has a b = r.has (a + off n c) (b + off n d) := cutR_has r _ _ _ ha hb
theorem cutR_in (r : R4) (p q h : Int) : (cutR r p q h).no = true ∨ (0 ≤ (cutR r p q h).x ∧ (cutR r p q h).X ≤ h ∧ 0 ≤ (cutR r p q h).y ∧ (cutR r p q h).Y ≤ h) := by
  unfold cutR
  split
  · left; rw [R4.no_iff]; simp
  · right; simp only; omega
/-- The parts of one rectangle: how they may end. -/
def Pr (P : R4) (n : Nat) (r : R4) : Prop := r.no = true ∨ ((r.x = 0 ∨ r.x = P.x % 2 ^ n) ∧ (r.X = 2 ^ n ∨ r.X = (P.X - 1) % 2 ^ n + 1) ∧ (r.y = 0 ∨ r.y = P.y % 2 ^ n) ∧ (r.Y = 2 ^ n ∨ r.Y = (P.Y - 1) % 2 ^ n + 1))
theorem mod_half (n : Nat) (a : Int) : (a % 2 ^ (n + 1) < 2 ^ n → a % 2 ^ (n + 1) = a % 2 ^ n) ∧ (2 ^ n ≤ a % 2 ^ (n + 1) → a % 2 ^ (n + 1) - 2 ^ n = a % 2 ^ n) := by
  have hp := pow_pos2 n
  have h2 := pow_two2 n
  have h0 := Int.emod_nonneg a (show (2 : Int) ^ (n + 1) ≠ 0 by omega)
  have h1 := Int.emod_lt_of_pos a (show (0 : Int) < 2 ^ (n + 1) by omega)
  have e : a % 2 ^ (n + 1) % 2 ^ n = a % 2 ^ n := Int.emod_emod_of_dvd a (by rw [h2]; exact Int.dvd_mul_left 2 (2 ^ n))
  generalize a % 2 ^ (n + 1) = b at *
  refine ⟨fun h => ?_, fun h => ?_⟩
  · rw [← e, Int.emod_eq_of_lt h0 h]
  · have : (b - 2 ^ n) % 2 ^ n = a % 2 ^ n := by rw [Int.sub_emod_right]; exact e
    rw [← this, Int.emod_eq_of_lt (by omega) (by omega)]
theorem pr_lo {n : Nat} {P x : Int} (_ : 0 ≤ x) (h : x = 0 ∨ x = P % 2 ^ (n + 1)) (c : Bool) (hc : x < off n c + 2 ^ n) : max x (off n c) - off n c = 0 ∨ max x (off n c) - off n c = P % 2 ^ n := by
  have hp := pow_pos2 n
  obtain ⟨m1, m2⟩ := mod_half n P
  cases c <;> simp only [off, Bool.false_eq_true, if_false, if_true] at hc ⊢ <;> omega
theorem pr_hi {n : Nat} {P X : Int} (h0 : X ≤ 2 ^ (n + 1)) (h : X = 2 ^ (n + 1) ∨ X = (P - 1) % 2 ^ (n + 1) + 1) (c : Bool) (hc : off n c < X) : min X (off n c + 2 ^ n) - off n c = 2 ^ n ∨ min X (off n c + 2 ^ n) - off n c = (P - 1) % 2 ^ n + 1 := by
  have hp := pow_pos2 n
  have h2 := pow_two2 n
  obtain ⟨m1, m2⟩ := mod_half n (P - 1)
  cases c <;> simp only [off, Bool.false_eq_true, if_false, if_true] at hc ⊢ <;> omega
/-- A rectangle within a square of level n. -/
def RIn (n : Nat) (r : R4) : Prop := r.no = true ∨ (0 ≤ r.x ∧ r.X ≤ 2 ^ n ∧ 0 ≤ r.y ∧ r.Y ≤ 2 ^ n)
theorem qR_in (r : R4) (n : Nat) (c d : Bool) : RIn n (qR r n c d) := cutR_in r _ _ _
theorem qR_pr {P r : R4} {n : Nat} (h : Pr P (n + 1) r) (hi : RIn (n + 1) r) (c d : Bool) : Pr P n (qR r n c d) := by
  by_cases hno : (R4.mk (max r.x (off n c)) (max r.y (off n d)) (min r.X (off n c + 2 ^ n)) (min r.Y (off n d + 2 ^ n))).no = true
  · left
    unfold qR cutR
    rw [if_pos hno, R4.no_iff]; simp
  · have hp := pow_pos2 n
    have h2 := pow_two2 n
    have hm := R4.no_not.1 (Bool.not_eq_true _ ▸ hno)
    simp only at hm
    have hrno : ¬ r.no = true := by rw [R4.no_iff]; omega
    obtain ⟨p1, p2, p3, p4⟩ := h.resolve_left hrno
    obtain ⟨i1, i2, i3, i4⟩ := hi.resolve_left hrno
    right
    unfold qR cutR
    rw [if_neg hno]
    exact ⟨pr_lo i1 p1 c (by omega), pr_hi i2 p2 c (by omega), pr_lo i3 p3 d (by omega), pr_hi i4 p4 d (by omega)⟩
/-- The squares as they are, each cell of a square a function's. -/
def Con (N : List Nd) (n x : Nat) (f : Int → Int → Nat) : Prop := Sq N n x ∧ ∀ X Y, 0 ≤ X ∧ X < 2 ^ n → 0 ≤ Y ∧ Y < 2 ^ n → getZ N n x X Y = f X Y
theorem Con.app {N : List Nd} (hw : Wf N) {n x : Nat} {f : Int → Int → Nat} (E : List Nd) (h : Con N n x f) : Con (N ++ E) n x f := ⟨h.1.app E, fun X Y hX hY => (get_app hw E h.1 X Y).trans (h.2 X Y hX hY)⟩
theorem Con.of {N : List Nd} {n x : Nat} {f g : Int → Int → Nat} (h : Con N n x f) (hf : ∀ X Y, 0 ≤ X ∧ X < 2 ^ n → 0 ≤ Y ∧ Y < 2 ^ n → f X Y = g X Y) : Con N n x g := ⟨h.1, fun X Y hX hY => (h.2 X Y hX hY).trans (hf X Y hX hY)⟩
theorem Con.inj {N : List Nd} (hw : Wf N) {n x y : Nat} {f : Int → Int → Nat} (hx : Con N n x f) (hy : Con N n y f) : x = y := by
  refine get_inj hw hx.1 hy.1 fun X Y => ?_
  rw [← get_mod N n x, ← get_mod N n y]
  have hp := pow_pos2 n
  have h0 := Int.emod_nonneg X (show (2 : Int) ^ n ≠ 0 by omega)
  have h1 := Int.emod_lt_of_pos X hp
  have h2 := Int.emod_nonneg Y (show (2 : Int) ^ n ≠ 0 by omega)
  have h3 := Int.emod_lt_of_pos Y hp
  rw [hx.2 _ _ ⟨h0, h1⟩ ⟨h2, h3⟩, hy.2 _ _ ⟨h0, h1⟩ ⟨h2, h3⟩]
/-- One of four of a function's square. -/
def qF (f : Int → Int → Nat) (n : Nat) (c d : Bool) : Int → Int → Nat := fun X Y => f (X + off n c) (Y + off n d)
theorem con_make {N : List Nd} {n x : Nat} {f : Int → Int → Nat} (h : Sq N (n + 1) x) (hk : ∀ c d, Con N n (pick (kidZ N x) c d) (qF f n c d)) : Con N (n + 1) x f := by
  refine ⟨h, fun X Y hX hY => ?_⟩
  show getZ N n (pick (kidZ N x) (qb n X) (qb n Y)) X Y = f X Y
  rw [← get_off N n _ (qb n X) (qb n Y), (hk (qb n X) (qb n Y)).2 _ _ ((rng_off n _ X).2 ⟨hX.1, hX.2, rfl⟩) ((rng_off n _ Y).2 ⟨hY.1, hY.2, rfl⟩)]
  unfold qF
  rw [Int.sub_add_cancel, Int.sub_add_cancel]
/-- A new square is a piece of a function's square. -/
def Pc (n : Nat) (f : Int → Int → Nat) (N : List Nd) (y : Nat) : Prop := ∃ (j : Nat) (A B : Int), j ≤ n ∧ (0 ≤ A ∧ A + 2 ^ j ≤ 2 ^ n ∧ A % 2 ^ j = 0) ∧ (0 ≤ B ∧ B + 2 ^ j ≤ 2 ^ n ∧ B % 2 ^ j = 0) ∧ Con N j y (fun X Y => f (X + A) (Y + B))
theorem Pc.self {n : Nat} {f : Int → Int → Nat} {N : List Nd} {y : Nat} (h : Con N n y f) : Pc n f N y :=
  ⟨n, 0, 0, Nat.le_refl _, ⟨by omega, by omega, by simp⟩, ⟨by omega, by omega, by simp⟩, by simpa using h⟩
theorem Pc.app {n : Nat} {f : Int → Int → Nat} {N : List Nd} (hw : Wf N) {y : Nat} (E : List Nd) (h : Pc n f N y) : Pc n f (N ++ E) y := by
  obtain ⟨j, A, B, h1, h2, h3, h4⟩ := h
  exact ⟨j, A, B, h1, h2, h3, h4.app hw E⟩
theorem off_mod {n j : Nat} (h : j ≤ n) (c : Bool) : off n c % 2 ^ j = 0 := by
  rcases off_cases n c with e | e
  · rw [e]; simp
  · rw [e]
    obtain ⟨d, rfl⟩ := Nat.exists_eq_add_of_le h
    rw [Int.pow_add]
    exact Int.mul_emod_right _ _
theorem Pc.up {n : Nat} {f : Int → Int → Nat} {N : List Nd} {y : Nat} {c d : Bool} (h : Pc n (qF f n c d) N y) : Pc (n + 1) f N y := by
  obtain ⟨j, A, B, h1, ⟨a1, a2, a3⟩, ⟨b1, b2, b3⟩, h4⟩ := h
  have hc := off_rng n c
  have hd := off_rng n d
  have h2 := pow_two2 n
  refine ⟨j, A + off n c, B + off n d, by omega, ⟨by omega, by omega, ?_⟩, ⟨by omega, by omega, ?_⟩, ?_⟩
  · rw [Int.add_emod, a3, off_mod h1]; simp
  · rw [Int.add_emod, b3, off_mod h1]; simp
  · refine h4.of fun X Y _ _ => ?_
    unfold qF
    rw [Int.add_assoc, Int.add_assoc]
theorem Pc.of {n : Nat} {f g : Int → Int → Nat} {N : List Nd} {y : Nat} (h : Pc n f N y) (hf : ∀ X Y, 0 ≤ X ∧ X < 2 ^ n → 0 ≤ Y ∧ Y < 2 ^ n → f X Y = g X Y) : Pc n g N y := by
  obtain ⟨j, A, B, h1, h2, h3, h4⟩ := h
  exact ⟨j, A, B, h1, h2, h3, h4.of fun X Y hX hY => hf _ _ (by omega) (by omega)⟩
/-- What is new in a store is made of pieces of a function's square. -/
def New8 (N : List Nd) (n : Nat) (f : Int → Int → Nat) (N' : List Nd) : Prop := (∃ E, N' = N ++ E) ∧ ∀ y, N.length ≤ y → y < N'.length → Pc n f N' y
theorem New8.refl (N : List Nd) (n : Nat) (f : Int → Int → Nat) : New8 N n f N := ⟨⟨[], by simp⟩, fun y h1 h2 => by omega⟩
theorem New8.trans {N N1 N2 : List Nd} {n : Nat} {f : Int → Int → Nat} (hw : Wf N1) (h : New8 N n f N1) (h' : New8 N1 n f N2) : New8 N n f N2 := by
  obtain ⟨⟨E, rfl⟩, h1⟩ := h
  obtain ⟨⟨F, rfl⟩, h2⟩ := h'
  refine ⟨⟨E ++ F, by rw [List.append_assoc]⟩, fun y hy hl => ?_⟩
  rcases Nat.lt_or_ge y (N ++ E).length with h | h
  · exact (h1 y hy h).app hw F
  · exact h2 y h hl
theorem New8.up {N N' : List Nd} {n : Nat} {f : Int → Int → Nat} {c d : Bool} (h : New8 N n (qF f n c d) N') : New8 N (n + 1) f N' := ⟨h.1, fun y h1 h2 => (h.2 y h1 h2).up⟩
theorem New8.of {N N' : List Nd} {n : Nat} {f g : Int → Int → Nat} (h : New8 N n f N') (hf : ∀ X Y, 0 ≤ X ∧ X < 2 ^ n → 0 ≤ Y ∧ Y < 2 ^ n → f X Y = g X Y) : New8 N n g N' := ⟨h.1, fun y h1 h2 => (h.2 y h1 h2).of hf⟩
theorem New8.con {N N' : List Nd} {n m x : Nat} {f g : Int → Int → Nat} (hw : Wf N) (h : New8 N n f N') (hc : Con N m x g) : Con N' m x g := by
  obtain ⟨⟨E, rfl⟩, _⟩ := h
  exact hc.app hw E
/-- Make of four that have their cells. -/
theorem mk_con {N : List Nd} {most n : Nat} {k : K4} {f : Int → Int → Nat} (hw : Wf N) (hn : n < 62) (hk : ∀ c d, Con N n (pick k c d) (qF f n c d)) :
    (mkZ N most k = (N, 0, 7) ∧ most ≤ N.length) ∨ ∃ N' r, mkZ N most k = (N', r, 0) ∧ Con N' (n + 1) r f ∧ New8 N (n + 1) f N' := by
  have hfo : Fo N n k := fun c d => (hk c d).1
  rcases mk_case (most := most) hw hn hfo with h | ⟨E, hm, hE, hsq, hkid, hth⟩
  · exact Or.inl h
  · right
    generalize (mkZ N most k).2.1 = r at *
    have hcon : Con (N ++ E) (n + 1) r f := con_make hsq fun c d => by rw [hkid]; exact (hk c d).app hw E
    refine ⟨N ++ E, r, hm, hcon, ⟨E, rfl⟩, fun y h1 h2 => ?_⟩
    have hlr := hsq.lt
    rw [List.length_append] at h2 hlr
    have hr : N.length ≤ r := by
      apply Classical.byContradiction
      intro hlt
      have hlt' : r < N.length := by omega
      have hE0 := hth ⟨r, by unfold Sq; rw [← lv_app E hlt']; exact hsq, by rw [← kid_app E hlt']; exact hkid⟩
      rw [hE0] at h2; simp at h2; omega
    obtain rfl : y = r := by omega
    exact Pc.self hcon
/-- Empty: what is new has no living cells. -/
theorem em_con {most : Nat} : ∀ (n : Nat) {N : List Nd} {x j : Nat}, Wf N → N.length ≤ most → Con N j x (fun _ _ => 0) → j + n ≤ 62 →
    (∃ N', emZ most n N x = (N', 0, 7) ∧ New8 N (j + n) (fun _ _ => 0) N' ∧ most ≤ N'.length ∧ Wf N') ∨ ∃ N' r, emZ most n N x = (N', r, 0) ∧ Con N' (j + n) r (fun _ _ => 0) ∧ New8 N (j + n) (fun _ _ => 0) N' ∧ Wf N'
  | 0, N, x, j, hw, _, he, _ => Or.inr ⟨N, x, rfl, he, New8.refl _ _ _, hw⟩
  | n + 1, N, x, j, hw, hl, he, hjn => by
    obtain ⟨wf1, wf2, wf3⟩ := mk_wf (most := most) (x, x, x, x) hw hl
    rcases mk_con (most := most) (n := j) (k := (x, x, x, x)) (f := fun _ _ => 0) hw (by omega) (fun c d => by rw [pick_all]; exact he) with ⟨hm, hfull⟩ | ⟨N1, r, hm, hc, hnew⟩
    · left
      refine ⟨N, by simp only [emZ, hm]; simp, New8.refl _ _ _, hfull, hw⟩
    · rw [hm] at wf1 wf2 wf3
      have hstep : emZ most (n + 1) N x = emZ most n N1 r := by simp only [emZ, hm]; simp
      rw [hstep]
      have upn : ∀ m, New8 N (j + 1) (fun _ _ => 0) N1 → New8 N (j + 1 + m) (fun _ _ => 0) N1 := fun m => by
        induction m with
        | zero => exact id
        | succ m ih => exact fun h => New8.up (c := false) (d := false) (ih h)
      rw [show j + (n + 1) = j + 1 + n by omega]
      rcases em_con n (j := j + 1) wf1 wf2 hc (by omega) with ⟨N2, h1, h2, h3, h4⟩ | ⟨N2, t, h1, h2, h3, h4⟩
      · exact Or.inl ⟨N2, h1, (upn n hnew).trans wf1 h2, h3, h4⟩
      · exact Or.inr ⟨N2, t, h1, h2, (upn n hnew).trans wf1 h3, h4⟩
/-- The number Dead stands for a square without living cells. -/
theorem get_dead {N : List Nd} (hw : Wf N) : ∀ (n : Nat) (X Y : Int), getZ N n 0 X Y = 0
  | 0, _, _ => rfl
  | n + 1, X, Y => by
    show getZ N n (pick (kidZ N 0) _ _) X Y = 0
    rw [show kidZ N 0 = (0, 0, 0, 0) by unfold kidZ; rw [hw.dead], pick_all]
    exact get_dead hw n X Y
def Sq0 (N : List Nd) (n x : Nat) : Prop := x = 0 ∨ Sq N n x
theorem Sq0.app {N : List Nd} {n x : Nat} (E : List Nd) (h : Sq0 N n x) : Sq0 (N ++ E) n x := h.imp id (fun h => h.app E)
theorem Sq0.get_app {N : List Nd} (hw : Wf N) (E : List Nd) (hw' : Wf (N ++ E)) {n x : Nat} (h : Sq0 N n x) (X Y : Int) : getZ (N ++ E) n x X Y = getZ N n x X Y := by
  rcases h with rfl | h
  · rw [get_dead hw, get_dead hw']
  · exact Go.Proofs.YtaapkngpnlnjeaaGreatDoor.get_app hw E h X Y
theorem Sq0.kid {N : List Nd} (hw : Wf N) {n x : Nat} (h : Sq0 N (n + 1) x) (c d : Bool) : Sq0 N n (pick (kidZ N x) c d) := by
  rcases h with rfl | h
  · left; rw [show kidZ N 0 = (0, 0, 0, 0) by unfold kidZ; rw [hw.dead], pick_all]
  · exact Or.inr (h.kid hw c d)
/-- A square after a change: some cells are alive, a rectangle's others are c. -/
def Tc (N : List Nd) (n x : Nat) (r : R4) (c : Nat) (L : List (Int × Int)) : Int → Int → Nat := fun X Y => if (X, Y) ∈ L then 1 else if r.has X Y then c else getZ N n x X Y
/-- The points of a list in one of four. -/
def qL (L : List (Int × Int)) (n : Nat) (c d : Bool) : List (Int × Int) := (L.filter fun p => qb n p.1 == c && qb n p.2 == d).map fun p => (p.1 % 2 ^ n, p.2 % 2 ^ n)
def LIn (n : Nat) (L : List (Int × Int)) : Prop := ∀ p ∈ L, (0 ≤ p.1 ∧ p.1 < 2 ^ n) ∧ 0 ≤ p.2 ∧ p.2 < 2 ^ n
theorem qL_in (L : List (Int × Int)) (n : Nat) (c d : Bool) : LIn n (qL L n c d) := fun p hp => by
  unfold qL at hp
  rw [List.mem_map] at hp
  obtain ⟨q, _, rfl⟩ := hp
  have h := pow_pos2 n
  exact ⟨⟨Int.emod_nonneg _ (by omega), Int.emod_lt_of_pos _ h⟩, Int.emod_nonneg _ (by omega), Int.emod_lt_of_pos _ h⟩
theorem mod_off {n : Nat} {X : Int} (h : 0 ≤ X ∧ X < 2 ^ (n + 1)) : X % 2 ^ n = X - off n (qb n X) := by
  obtain ⟨h0, h1⟩ := (rng_off n (qb n X) X).2 ⟨h.1, h.2, rfl⟩
  have : (X - off n (qb n X)) % 2 ^ n = X % 2 ^ n := by
    rw [Int.sub_emod, off_mod (Nat.le_refl n), Int.sub_zero, Int.emod_emod]
  rw [← this, Int.emod_eq_of_lt h0 h1]
theorem qL_mem {L : List (Int × Int)} {n : Nat} (hL : LIn (n + 1) L) (c d : Bool) {X Y : Int} (hX : 0 ≤ X ∧ X < 2 ^ n) (hY : 0 ≤ Y ∧ Y < 2 ^ n) : (X, Y) ∈ qL L n c d ↔ (X + off n c, Y + off n d) ∈ L := by
  unfold qL
  rw [List.mem_map]
  constructor
  · rintro ⟨⟨p, q⟩, h, e⟩
    rw [List.mem_filter] at h
    simp only [Bool.and_eq_true, beq_iff_eq] at h
    obtain ⟨hm, rfl, rfl⟩ := h
    obtain ⟨hp, hq⟩ := hL _ hm
    simp only [Prod.mk.injEq] at e
    obtain ⟨rfl, rfl⟩ := e
    rw [mod_off hp, mod_off hq, Int.sub_add_cancel, Int.sub_add_cancel]
    exact hm
  · intro hm
    obtain ⟨hp, hq⟩ := hL _ hm
    have b1 := ((rng_off n c (X + off n c)).1 (by rw [Int.add_sub_cancel]; exact hX)).2.2
    have b2 := ((rng_off n d (Y + off n d)).1 (by rw [Int.add_sub_cancel]; exact hY)).2.2
    refine ⟨_, List.mem_filter.2 ⟨hm, by simp only [b1, b2]; simp⟩, ?_⟩
    simp only at hp hq
    rw [mod_off hp, mod_off hq, b1, b2, Int.add_sub_cancel, Int.add_sub_cancel]
theorem Tc_q {N : List Nd} {n x : Nat} {r : R4} {c : Nat} {L : List (Int × Int)} (hL : LIn (n + 1) L) (a b : Bool) {X Y : Int} (hX : 0 ≤ X ∧ X < 2 ^ n) (hY : 0 ≤ Y ∧ Y < 2 ^ n) : Tc N n (pick (kidZ N x) a b) (qR r n a b) c (qL L n a b) X Y = qF (Tc N (n + 1) x r c L) n a b X Y := by
  unfold Tc qF
  rw [qR_has r n a b hX hY]
  simp only [qL_mem hL a b hX hY]
  have b1 := ((rng_off n a (X + off n a)).1 (by rw [Int.add_sub_cancel]; exact hX)).2.2
  have b2 := ((rng_off n b (Y + off n b)).1 (by rw [Int.add_sub_cancel]; exact hY)).2.2
  have e : getZ N (n + 1) x (X + off n a) (Y + off n b) = getZ N n (pick (kidZ N x) a b) X Y := by
    show getZ N n (pick (kidZ N x) (qb n (X + off n a)) (qb n (Y + off n b))) _ _ = _
    rw [b1, b2, ← get_off N n _ a b, Int.add_sub_cancel, Int.add_sub_cancel]
  rw [e]
theorem Tc_app {N : List Nd} (hw : Wf N) (E : List Nd) (hw' : Wf (N ++ E)) {n x : Nat} (h : Sq0 N n x) (r : R4) (c : Nat) (L : List (Int × Int)) : Tc (N ++ E) n x r c L = Tc N n x r c L := by
  funext X Y
  unfold Tc
  rw [h.get_app hw E hw']
end Go.Proofs.YtaapkngpnlnjeaaGreatDoor
end

section
namespace Go.Proofs.YtaapkngpnlnjeaaGreatDoor
open Go.RowKit Go.Maps
set_option maxRecDepth 100000

/-- Of what a successor is: a square, a power. -/
structure Stp where
  x : Nat
  p : Nat
  deriving DecidableEq
def seV (a : Stp) : Value := .agg #[.int .u32 (a.x : Int), .int .i64 (a.p : Int)]
def SeOk (a : Stp) : Prop := a.x < 1048576 ∧ a.p < 64
def codeE (a : Stp) : Nat := a.x + 1048576 * a.p
theorem codeE_lt {a : Stp} (h : SeOk a) : codeE a < 1073741824 := by
  unfold codeE
  have := h.1
  have := h.2
  omega
theorem codeE_inj {a b : Stp} (ha : SeOk a) (hb : SeOk b) (h : codeE a = codeE b) : a = b := by
  obtain ⟨ax, ap⟩ := a
  obtain ⟨bx, bp⟩ := b
  obtain ⟨a1, a2⟩ := ha
  obtain ⟨b1, b2⟩ := hb
  unfold codeE at h
  simp only at h a1 a2 b1 b2
  have : ax = bx := by omega
  have : ap = bp := by omega
  simp_all
theorem Tryz.cellsIntE : Tryz.prog.cellsOf 3 = 1 := by kernel_rfl
theorem Tryz.cellsStE : Tryz.prog.cellsOf 140 = 2 := by kernel_rfl
theorem i64_wfE {x : Int} (h : -9223372036854775808 ≤ x ∧ x ≤ 9223372036854775807) : (Lit.int .i64 x).wf = true := by
  simp [Lit.wf, IntKind.min, IntKind.max, IntKind.bits, IntKind.signed]; omega
theorem lits_intE (d : Nat) (x : Int) (h : (Lit.int .i64 x).wf = true) : Tryz.prog.keyLits (d + 1) 3 [.int .i64 x] = some [.int .i64 x] := by
  unfold Program.keyLits
  rw [Tryz.underlying3]
  simp only [h, and_self, if_true]
theorem lits_stE (d : Nat) (s n : Int) (hs : (Lit.int .u32 s).wf = true) (hn : (Lit.int .i64 n).wf = true) :
    Tryz.prog.keyLits (d + 1 + 1) 140 [.int .u32 s, .int .i64 n] = some [.int .u32 s, .int .i64 n] := by
  have e1 := lits_id d s hs
  have e2 := lits_intE d n hn
  unfold Program.keyLits
  rw [Tryz.underlying140]
  simp only [Tryz.cellsStE]
  rw [if_pos ⟨rfl, by simp⟩]
  simp only [List.mapM_cons, List.mapM_nil, Tryz.cellsID, Tryz.cellsIntE, List.drop, List.take, e1, e2]
  rfl
theorem Tryz.keyDeepE : Tryz.prog.keyTypeAt (Tryz.prog.types.size + 1) 140 = true := by kernel_rfl
theorem Tryz.keyRowE : (140 : TypeId) < Tryz.prog.types.size := of_decide_eq_true (by kernel_rfl)
theorem Tryz.keyWideE : (match Tryz.prog.underlying 140 with | some (.array _ _) | some (.struct _) => true | _ => false) = true := by rw [Tryz.underlying140]
theorem Tryz.keyedE : Keyed Tryz.prog 140 := Keyed.of_law (deep_law_laid Tryz.laidOutT (m := 4) (by omega) Tryz.keyRowE (by kernel_rfl) Tryz.keyWideE)
noncomputable def klE (a : Stp) : Lit := (keyOf Tryz.prog 140 (seV a)).getD (.bool false)
theorem keyE (a : Stp) (h : SeOk a) : keyOf Tryz.prog 140 (seV a) = some (klE a) := by
  obtain ⟨h1, h2⟩ := h
  have hk : Tryz.prog.keyType 140 = true := Tryz.keyDeepE
  have hf : (seV a).formed Tryz.prog 140 = true := by simp [seV, Value.formed, Tryz.underlying140, Tryz.cellsStE]
  have hl : Tryz.prog.keyLits (Tryz.prog.types.size + 1) 140 [.int .u32 (a.x : Int), .int .i64 (a.p : Int)] = some [.int .u32 (a.x : Int), .int .i64 (a.p : Int)] := by
    have hsz : Tryz.prog.types.size = 219 := by kernel_rfl
    obtain ⟨d, hd⟩ : ∃ d, Tryz.prog.types.size + 1 = d + 1 + 1 := ⟨Tryz.prog.types.size - 1, (by omega)⟩
    rw [hd]
    exact lits_stE d _ _ (u32_wf (by omega)) (i64_wfE (by omega))
  have : ∃ l, keyOf Tryz.prog 140 (seV a) = some l := by
    unfold keyOf
    rw [Tryz.underlying140]
    simp only [hk, hf, Bool.and_self, if_true]
    refine ⟨.string (keyBytes [.int .u32 (a.x : Int), .int .i64 (a.p : Int)]), ?_⟩
    show Option.map _ (Tryz.prog.keyLits (Tryz.prog.types.size + 1) 140 [.int .u32 (a.x : Int), .int .i64 (a.p : Int)]) = _
    rw [hl]; rfl
  obtain ⟨l, hl⟩ := this
  unfold klE
  rw [hl]; rfl
theorem klE_inj {a b : Stp} (ha : SeOk a) (hb : SeOk b) (h : klE a = klE b) : a = b := by
  have := Tryz.keyedE.inj (keyE a ha) (by rw [h]; exact keyE b hb)
  obtain ⟨ax, ap⟩ := a
  obtain ⟨bx, bp⟩ := b
  simp only [seV, Value.agg.injEq, Array.mk.injEq, List.cons.injEq, Value.int.injEq, and_true, true_and] at this
  obtain ⟨h1, h2⟩ := this
  have e1 : ax = bx := by omega
  have e2 : ap = bp := by omega
  rw [e1, e2]
/-- The map of what was found. -/
noncomputable def mkE : Mk 140 32 74 Stp where
  keyed := Tryz.keyedE
  ht := Tryz.underlying74
  kv := seV
  ok := SeOk
  kl := klE
  hkey := fun a h => keyE a h
  inj := fun a b ha hb h => klE_inj ha hb h
  zero := .int .u32 0
  hz := Tryz.zeroID
  few := fun ks hn h => few_of (ok := SeOk) codeE 1073741824 (by decide) (fun a ha => codeE_lt ha) (fun a b ha hb e => codeE_inj ha hb e) ks hn h
end Go.Proofs.YtaapkngpnlnjeaaGreatDoor
end

section
namespace Go.Proofs.YtaapkngpnlnjeaaGreatDoor
open Go.RowKit
set_option maxRecDepth 100000

def ruleB (alive : Bool) (n : Int) : Bool := decide (n = 3) || (alive && decide (n = 2))
/-- 'a & b' of two uint16. -/
theorem and_u16 (a b : Nat) (ha : a < 65536) (hb : b < 65536) : bits .and .u16 (a : Int) (b : Int) = ((a &&& b : Nat) : Int) := by
  have t1 : (BitVec.ofInt 16 (a : Int)).toNat = a := by
    rw [BitVec.ofInt_natCast, BitVec.toNat_ofNat]; exact Nat.mod_eq_of_lt (by omega)
  have t2 : (BitVec.ofInt 16 (b : Int)).toNat = b := by
    rw [BitVec.ofInt_natCast, BitVec.toNat_ofNat]; exact Nat.mod_eq_of_lt (by omega)
  show IntKind.u16.wrap ((BitVec.ofInt 16 (a : Int) &&& BitVec.ofInt 16 (b : Int)).toNat : Nat) = _
  rw [BitVec.toNat_and, t1, t2]
  have : a &&& b ≤ a := Nat.and_le_left
  exact IntWalk.u16_in _ (by omega)
theorem or_u16 (a b : Nat) (ha : a < 65536) (hb : b < 65536) : bits .or .u16 (a : Int) (b : Int) = ((a ||| b : Nat) : Int) := by
  have t1 : (BitVec.ofInt 16 (a : Int)).toNat = a := by
    rw [BitVec.ofInt_natCast, BitVec.toNat_ofNat]; exact Nat.mod_eq_of_lt (by omega)
  have t2 : (BitVec.ofInt 16 (b : Int)).toNat = b := by
    rw [BitVec.ofInt_natCast, BitVec.toNat_ofNat]; exact Nat.mod_eq_of_lt (by omega)
  show IntKind.u16.wrap ((BitVec.ofInt 16 (a : Int) ||| BitVec.ofInt 16 (b : Int)).toNat : Nat) = _
  rw [BitVec.toNat_or, t1, t2]
  have : a ||| b < 2 ^ 16 := Nat.or_lt_two_pow (by omega) (by omega)
  exact IntWalk.u16_in _ (by omega)
theorem bit_u16 (f k : Nat) (hf : f < 65536) : (bits .and .u16 ((f : Int) / 2 ^ k) 1 == 1) = f.testBit k := by
  have e1 : (f : Int) / 2 ^ k = ((f / 2 ^ k : Nat) : Int) := by
    rw [show (2 : Int) ^ k = ((2 ^ k : Nat) : Int) by rw [Int.natCast_pow]; rfl]; norm_cast
  have hd : f / 2 ^ k ≤ f := Nat.div_le_self _ _
  rw [e1, show (1 : Int) = ((1 : Nat) : Int) from rfl, and_u16 _ _ (by omega) (by omega), Nat.and_one_is_mod, Nat.testBit_eq_decide_div_mod_eq]
  rw [Bool.eq_iff_iff]
  simp only [beq_iff_eq, decide_eq_true_eq]
  omega
/-- How many bits of sixteen. -/
def pc (b : Nat → Bool) (n : Nat) : Nat := (List.range n).countP b
theorem pc_succ (b : Nat → Bool) (n : Nat) : pc b (n + 1) = pc b n + (if b n then 1 else 0) := by
  unfold pc
  rw [List.range_succ, List.countP_append]
  simp [List.countP_cons]
theorem ones8 : ∀ n : Fin 256, Lib.onesCount n.val = pc (fun i => n.val.testBit i) 8 := by decide +kernel
theorem ones_two (x : Nat) (hx : x < 65536) : Lib.onesCount (x / 256) + Lib.onesCount (x % 256) = pc (fun i => x.testBit i) 16 := by
  have h1 := ones8 ⟨x / 256, by omega⟩
  have h2 := ones8 ⟨x % 256, by omega⟩
  simp only at h1 h2
  rw [h1, h2]
  have e1 : (fun i => (x / 256).testBit i) = fun i => x.testBit (8 + i) := by
    funext i
    rw [show x / 256 = x >>> 8 by rw [Nat.shiftRight_eq_div_pow], Nat.testBit_shiftRight]
  have e2 : ∀ i, i < 8 → (x % 256).testBit i = x.testBit i := fun i hi => by
    rw [show (256 : Nat) = 2 ^ 8 by rfl, Nat.testBit_mod_two_pow]; simp [hi]
  rw [e1]
  have e3 : pc (fun i => (x % 256).testBit i) 8 = pc (fun i => x.testBit i) 8 := List.countP_congr fun i hi => by
    rw [e2 i (by simpa using hi)]
  have e4 : ∀ n, pc (fun i => x.testBit (8 + i)) n + pc (fun i => x.testBit i) 8 = pc (fun i => x.testBit i) (8 + n) := fun n => by
    induction n with
    | zero => simp [pc]
    | succ n ih =>
      have a1 := pc_succ (fun i => x.testBit (8 + i)) n
      have a2 := pc_succ (fun i => x.testBit i) (8 + n)
      rw [show 8 + (n + 1) = 8 + n + 1 by omega, a1, a2]
      omega
  rw [e3]
  exact e4 8
/-- The mask of the eight cells around one. -/
def around (x y : Nat) : Nat := 1879 * 2 ^ (4 * (y - 1) + (x - 1))
def nearF (f x y : Nat) : Nat := pc (fun i => f.testBit i && (around x y).testBit i) 16
def innF (f i : Nat) : Bool := ruleB (f.testBit (4 * (1 + i / 2) + (1 + i % 2))) (nearF f (1 + i % 2) (1 + i / 2) : Int)
/-- Those alive, row by row. -/
def cells16 (f : Nat) : List (Int × Int) := ((List.range 16).filter fun i => f.testBit i).map fun i => (((i % 4 : Nat) : Int), ((i / 4 : Nat) : Int))
/-- Is one of the eight around the other? -/
def adjB (p q : Int × Int) : Bool := !decide (q = p) && (decide (-1 ≤ q.1 - p.1) && decide (q.1 - p.1 ≤ 1) && (decide (-1 ≤ q.2 - p.2) && decide (q.2 - p.2 ≤ 1)))
/-- How many of a list are around a point. -/
def nearL (l : List (Int × Int)) (p : Int × Int) : Nat := l.countP (adjB p)
/-- Is a point alive one generation later? -/
def lifeL (l : List (Int × Int)) (p : Int × Int) : Bool := ruleB (decide (p ∈ l)) (nearL l p : Int)
theorem mem16 {f : Nat} {i : Nat} (hi : i < 16) : ((((i % 4 : Nat) : Int), ((i / 4 : Nat) : Int)) ∈ cells16 f) ↔ f.testBit i = true := by
  unfold cells16
  simp only [List.mem_map, List.mem_filter, List.mem_range, Prod.mk.injEq]
  constructor
  · rintro ⟨j, ⟨hj, hb⟩, h1, h2⟩
    obtain rfl : j = i := by omega
    exact hb
  · intro h
    exact ⟨i, ⟨hi, h⟩, rfl, rfl⟩
theorem near16 (f : Nat) {x y : Nat} (hx : x = 1 ∨ x = 2) (hy : y = 1 ∨ y = 2) : nearL (cells16 f) ((x : Int), (y : Int)) = nearF f x y := by
  unfold nearL cells16 nearF pc
  rw [List.countP_map, List.countP_filter]
  refine List.countP_congr fun i hi => ?_
  have hi : i < 16 := by simpa using hi
  have key : ∀ (x y : Fin 3), x.val = 1 ∨ x.val = 2 → y.val = 1 ∨ y.val = 2 → ∀ i : Fin 16, adjB ((x.val : Int), (y.val : Int)) (((i.val % 4 : Nat) : Int), ((i.val / 4 : Nat) : Int)) = (around x.val y.val).testBit i.val := by decide +kernel
  have := key ⟨x, by omega⟩ ⟨y, by omega⟩ hx hy ⟨i, hi⟩
  simp only at this
  simp only [Function.comp, this]
  rw [Bool.and_comm]
theorem inn16 (f : Nat) {i : Nat} (hi : i < 4) : lifeL (cells16 f) (((1 + i % 2 : Nat) : Int), ((1 + i / 2 : Nat) : Int)) = innF f i := by
  unfold lifeL innF
  rw [near16 f (by omega) (by omega)]
  congr 1
  have := mem16 (f := f) (i := 4 * (1 + i / 2) + (1 + i % 2)) (by omega)
  rw [show (4 * (1 + i / 2) + (1 + i % 2)) % 4 = 1 + i % 2 by omega, show (4 * (1 + i / 2) + (1 + i % 2)) / 4 = 1 + i / 2 by omega] at this
  rw [Bool.eq_iff_iff, decide_eq_true_eq]
  exact this
theorem nodup16 (f : Nat) : (cells16 f).Nodup := by
  unfold cells16
  refine List.Pairwise.map _ (fun a b h e => h ?_) (List.nodup_range.filter _)
  simp only [Prod.mk.injEq] at e
  omega
theorem len16 (f : Nat) : (cells16 f).length ≤ 16 := by
  unfold cells16
  rw [List.length_map]
  exact Nat.le_trans (List.length_filter_le _ _) (by simp)
end Go.Proofs.YtaapkngpnlnjeaaGreatDoor
end

section
namespace Go.Proofs.YtaapkngpnlnjeaaGreatDoor
open Go.RowKit

abbrev Plane := Int → Int → Nat
/-- How many of the eight around a place are alive. -/
def nbF (F : Plane) (a b : Int) : Nat := F (a - 1) (b - 1) + F a (b - 1) + F (a + 1) (b - 1) + F (a - 1) b + F (a + 1) b + F (a - 1) (b + 1) + F a (b + 1) + F (a + 1) (b + 1)
/-- One generation later. -/
def lf (F : Plane) : Plane := fun a b => if ruleB (decide (F a b = 1)) (nbF F a b : Int) then 1 else 0
def gens : Nat → Plane → Plane
  | 0, F => F
  | k + 1, F => gens k (lf F)
/-- A plane seen from a place. -/
def shF (F : Plane) (c d : Int) : Plane := fun X Y => F (X + c) (Y + d)
theorem shF_zero (F : Plane) : shF F 0 0 = F := by funext X Y; unfold shF; rw [Int.add_zero, Int.add_zero]
theorem shF_shF (F : Plane) (a b c d : Int) : shF (shF F a b) c d = shF F (a + c) (b + d) := by
  funext X Y; unfold shF
  rw [show X + c + a = X + (a + c) by omega, show Y + d + b = Y + (b + d) by omega]
theorem lf_sh (F : Plane) (c d : Int) : lf (shF F c d) = shF (lf F) c d := by
  funext X Y
  have e : nbF (shF F c d) X Y = nbF F (X + c) (Y + d) := by
    unfold nbF shF
    rw [show X - 1 + c = X + c - 1 by omega, show X + 1 + c = X + c + 1 by omega, show Y - 1 + d = Y + d - 1 by omega, show Y + 1 + d = Y + d + 1 by omega]
  unfold lf
  rw [e]
  rfl
theorem gens_sh : ∀ (k : Nat) (F : Plane) (c d : Int), gens k (shF F c d) = shF (gens k F) c d
  | 0, _, _, _ => rfl
  | k + 1, F, c, d => by
    show gens k (lf (shF F c d)) = _
    rw [lf_sh, gens_sh k]; rfl
theorem gens_add : ∀ (i j : Nat) (F : Plane), gens (i + j) F = gens j (gens i F)
  | 0, j, F => by rw [Nat.zero_add]; rfl
  | i + 1, j, F => by
    rw [show i + 1 + j = (i + j) + 1 by omega]
    show gens (i + j) (lf F) = gens j (gens i (lf F))
    exact gens_add i j (lf F)
/-- What comes of a place hangs on those that are near. -/
theorem lf_loc {F G : Plane} {a b : Int} (h : ∀ X Y, a - 1 ≤ X ∧ X ≤ a + 1 → b - 1 ≤ Y ∧ Y ≤ b + 1 → F X Y = G X Y) : lf F a b = lf G a b := by
  unfold lf nbF
  rw [h a b (by omega) (by omega), h (a - 1) (b - 1) (by omega) (by omega), h a (b - 1) (by omega) (by omega), h (a + 1) (b - 1) (by omega) (by omega), h (a - 1) b (by omega) (by omega), h (a + 1) b (by omega) (by omega),
    h (a - 1) (b + 1) (by omega) (by omega), h a (b + 1) (by omega) (by omega), h (a + 1) (b + 1) (by omega) (by omega)]
theorem gens_loc : ∀ (k : Nat) {F G : Plane} {a b : Int}, (∀ X Y, a - k ≤ X ∧ X ≤ a + k → b - k ≤ Y ∧ Y ≤ b + k → F X Y = G X Y) → gens k F a b = gens k G a b
  | 0, F, G, a, b, h => h a b (by omega) (by omega)
  | k + 1, F, G, a, b, h => gens_loc k (F := lf F) (G := lf G) fun X Y hX hY => lf_loc fun x y hx hy => h x y (by omega) (by omega)
theorem pow_nat (k : Nat) : ((2 ^ k : Nat) : Int) = (2 : Int) ^ k := by rw [Int.natCast_pow]; rfl
theorem pow_mono {i j : Nat} (h : i ≤ j) : (2 : Int) ^ i ≤ 2 ^ j := by
  have := Nat.pow_le_pow_right (n := 2) (by decide) h
  have e1 := pow_nat i
  have e2 := pow_nat j
  omega
/-- A square's successor: the square in its middle, 2^p generations later. -/
structure Sc (N : List Nd) (m x p z : Nat) : Prop where
  sq : Sq N (m + 2) x
  pm : p ≤ m
  out : ∀ F, Con N (m + 2) x F → Con N (m + 1) z (shF (gens (2 ^ p) F) (2 ^ m) (2 ^ m))
/-- One plane tells it for all. -/
theorem Sc.of {N : List Nd} {m x p z : Nat} {F : Plane} (hp : p ≤ m) (hx : Con N (m + 2) x F) (hz : Con N (m + 1) z (shF (gens (2 ^ p) F) (2 ^ m) (2 ^ m))) : Sc N m x p z := by
  refine ⟨hx.1, hp, fun G hG => hz.of fun X Y hX hY => ?_⟩
  unfold shF
  refine gens_loc _ fun a b ha hb => ?_
  have h1 := pow_nat p
  have h2 := pow_mono hp
  have h3 := pow_two2 m
  have h4 : (2 : Int) ^ (m + 2) = 2 * 2 ^ (m + 1) := pow_two2 (m + 1)
  have e1 := hx.2 a b (by omega) (by omega)
  have e2 := hG.2 a b (by omega) (by omega)
  rw [← e1, e2]
theorem Con.unapp {N : List Nd} (hw : Wf N) {n x : Nat} {f : Plane} {E : List Nd} (hs : Sq N n x) (h : Con (N ++ E) n x f) : Con N n x f := ⟨hs, fun X Y hX hY => by rw [← get_app hw E hs]; exact h.2 X Y hX hY⟩
theorem Con.self {N : List Nd} {n x : Nat} (h : Sq N n x) : Con N n x (getZ N n x) := ⟨h, fun _ _ _ _ => rfl⟩
theorem Sc.app {N : List Nd} (hw : Wf N) (E : List Nd) {m x p z : Nat} (h : Sc N m x p z) : Sc (N ++ E) m x p z :=
  ⟨h.sq.app E, h.pm, fun F hF => (h.out F (hF.unapp hw h.sq)).app hw E⟩
theorem Sc.zq {N : List Nd} {m x p z : Nat} (h : Sc N m x p z) : Sq N (m + 1) z := (h.out _ (Con.self h.sq)).1
/-- There is one alone. -/
theorem Sc.uniq {N : List Nd} (hw : Wf N) {m m' x p z z' : Nat} (h : Sc N m x p z) (h' : Sc N m' x p z') : z = z' := by
  have e : m = m' := by
    have h1 : lvZ N x = ((m + 2 : Nat) : Int) := h.sq
    have h2 : lvZ N x = ((m' + 2 : Nat) : Int) := h'.sq
    omega
  subst e
  exact Con.inj hw (h.out _ (Con.self h.sq)) (h'.out _ (Con.self h.sq))
/-- A square's parts. -/
theorem con_q {N : List Nd} (hw : Wf N) {n x : Nat} {F : Plane} (h : Con N (n + 1) x F) (c d : Bool) : Con N n (pick (kidZ N x) c d) (shF F (off n c) (off n d)) := by
  refine ⟨h.1.kid hw c d, fun X Y hX hY => ?_⟩
  have hp := pow_two2 n
  have o1 := off_rng n c
  have o2 := off_rng n d
  have := h.2 (X + off n c) (Y + off n d) (by omega) (by omega)
  rw [show shF F (off n c) (off n d) X Y = F (X + off n c) (Y + off n d) from rfl, ← this]
  show _ = getZ N n (pick (kidZ N x) (qb n (X + off n c)) (qb n (Y + off n d))) (X + off n c) (Y + off n d)
  have e : ∀ (r : Bool) (Z : Int), 0 ≤ Z ∧ Z < 2 ^ n → qb n (Z + off n r) = r := fun r Z hZ => by
    cases r
    · simp only [off, Bool.false_eq_true, if_false, Int.add_zero]; exact qb_lo hZ.1 hZ.2
    · simp only [off, if_true]; rw [qb_one, qb_lo hZ.1 hZ.2]; rfl
  rw [e c X hX, e d Y hY]
  have := get_off N n (pick (kidZ N x) c d) c d (X + off n c) (Y + off n d)
  rw [Int.add_sub_cancel, Int.add_sub_cancel] at this
  exact this
theorem con_make2 {N : List Nd} {n x : Nat} {F : Plane} {c d : Int} {k : K4} (h : Sq N (n + 1) x) (hk : kidZ N x = k) (hc : ∀ r b, Con N n (pick k r b) (shF F (c + off n r) (d + off n b))) : Con N (n + 1) x (shF F c d) := by
  refine con_make h fun r b => ?_
  rw [hk]
  refine (hc r b).of fun X Y _ _ => ?_
  show F (X + (c + off n r)) (Y + (d + off n b)) = F (X + off n r + c) (Y + off n b + d)
  rw [show X + (c + off n r) = X + off n r + c by omega, show Y + (d + off n b) = Y + off n b + d by omega]
/-- The middle of four. -/
theorem con_mid {N : List Nd} (hw : Wf N) {n : Nat} {F : Plane} {c d : Int} {k : K4} (hk : ∀ r b, Con N (n + 1) (pick k r b) (shF F (c + off (n + 1) r) (d + off (n + 1) b))) (r b : Bool) :
    Con N n (pick (midK N k) r b) (shF F (c + 2 ^ n + off n r) (d + 2 ^ n + off n b)) := by
  rw [mid_pick]
  have := con_q hw (hk r b) (!r) (!b)
  rw [shF_shF] at this
  have e : ∀ (c : Int) (r : Bool), c + off (n + 1) r + off n (!r) = c + 2 ^ n + off n r := fun c r => by
    have := pow_two2 n
    cases r <;> simp [off] <;> omega
  rw [e, e] at this
  exact this
end Go.Proofs.YtaapkngpnlnjeaaGreatDoor
end
