-- M02
import Derived.Test.YtaapkngpnlnjeaaGreatM01
import Derived.Maps.OwnSet
import Derived.DeepKeys4
import Derived.RowKit
import Derived.Below
import Derived.Deep.Draws
import Derived.WalkKit
import Derived.WalkLawsBesides
import Derived.Lib.Hide
import Derived.Deep.LoopGhost
import Derived.Deep.QuietTactic
import Derived.Deep.AppendLies
import Derived.Laws.BytesArg
import Derived.OwnWalk
import Derived.IntWalk
import Derived.Handy
import Derived.BigRegion
import Derived.BigQuiet
import Derived.Deep.RegionWith
import Derived.Deep.RegionHeld3
section
namespace Go.Proofs.YtaapkngpnlnjeaaGreat

/-- A rectangle: from x, y to X, Y. -/
structure R4 where
  x : Int
  y : Int
  X : Int
  Y : Int
  deriving DecidableEq
/-- Without points? -/
def R4.no (r : R4) : Bool := decide (r.X ≤ r.x) || decide (r.Y ≤ r.y)
def R4.has (r : R4) (a b : Int) : Bool := decide (r.x ≤ a) && decide (a < r.X) && decide (r.y ≤ b) && decide (b < r.Y)
theorem R4.no_iff {r : R4} : r.no = true ↔ r.X ≤ r.x ∨ r.Y ≤ r.y := by simp [R4.no]
theorem R4.no_not {r : R4} : r.no = false ↔ r.x < r.X ∧ r.y < r.Y := by simp [R4.no]
theorem R4.has_iff {r : R4} {a b : Int} : r.has a b = true ↔ (r.x ≤ a ∧ a < r.X) ∧ r.y ≤ b ∧ b < r.Y := by simp [R4.has, and_assoc]
theorem R4.has_no {r : R4} (h : r.no = true) (a b : Int) : r.has a b = false := by
  rw [R4.no_iff] at h
  cases hh : r.has a b with
  | false => rfl
  | true => rw [R4.has_iff] at hh; omega
/-- Of two intervals. -/
def cutR (r : R4) (p q h : Int) : R4 :=
  if (R4.mk (max r.x p) (max r.y q) (min r.X (p + h)) (min r.Y (q + h))).no then ⟨-p, -q, -p, -q⟩ else ⟨max r.x p - p, max r.y q - q, min r.X (p + h) - p, min r.Y (q + h) - q⟩
/-- A rectangle's part in one of four of level n, seen from its corner. -/
def qR (r : R4) (n : Nat) (c d : Bool) : R4 := cutR r (off n c) (off n d) (2 ^ n)
theorem off_cases (n : Nat) (c : Bool) : off n c = 0 ∨ off n c = 2 ^ n := by cases c <;> simp [off]
theorem off_rng (n : Nat) (c : Bool) : 0 ≤ off n c ∧ off n c ≤ 2 ^ n := by have := pow_pos2 n; rcases off_cases n c with h | h <;> omega
theorem cutR_has (r : R4) (p q h : Int) {a b : Int} (ha : 0 ≤ a ∧ a < h) (hb : 0 ≤ b ∧ b < h) : (cutR r p q h).has a b = r.has (a + p) (b + q) := by
  rw [Bool.eq_iff_iff, R4.has_iff, R4.has_iff]
  unfold cutR
  split
  · rename_i hm
    rw [R4.no_iff] at hm
    simp only at hm ⊢
    omega
  · simp only
    omega
theorem qR_has (r : R4) (n : Nat) (c d : Bool) {a b : Int} (ha : 0 ≤ a ∧ a < 2 ^ n) (hb : 0 ≤ b ∧ b < 2 ^ n) : (qR r n c d).has a b = r.has (a + off n c) (b + off n d) := cutR_has r _ _ _ ha hb
theorem cutR_in (r : R4) (p q h : Int) : (cutR r p q h).no = true ∨ (0 ≤ (cutR r p q h).x ∧ (cutR r p q h).X ≤ h ∧ 0 ≤ (cutR r p q h).y ∧ (cutR r p q h).Y ≤ h) := by
  unfold cutR
  split
  · left; rw [R4.no_iff]; simp
  · right; simp only; omega
/-- The parts of one rectangle: how they may end. -/
def Pr (P : R4) (n : Nat) (r : R4) : Prop := r.no = true ∨ ((r.x = 0 ∨ r.x = P.x % 2 ^ n) ∧ (r.X = 2 ^ n ∨ r.X = (P.X - 1) % 2 ^ n + 1) ∧ (r.y = 0 ∨ r.y = P.y % 2 ^ n) ∧ (r.Y = 2 ^ n ∨ r.Y = (P.Y - 1) % 2 ^ n + 1))
theorem mod_half (n : Nat) (a : Int) : (a % 2 ^ (n + 1) < 2 ^ n → a % 2 ^ (n + 1) = a % 2 ^ n) ∧ (2 ^ n ≤ a % 2 ^ (n + 1) → a % 2 ^ (n + 1) - 2 ^ n = a % 2 ^ n) := by
  have hp := pow_pos2 n
  have h2 := pow_two2 n
  have h0 := Int.emod_nonneg a (show (2 : Int) ^ (n + 1) ≠ 0 by omega)
  have h1 := Int.emod_lt_of_pos a (show (0 : Int) < 2 ^ (n + 1) by omega)
  have e : a % 2 ^ (n + 1) % 2 ^ n = a % 2 ^ n := Int.emod_emod_of_dvd a (by rw [h2]; exact Int.dvd_mul_left 2 (2 ^ n))
  generalize a % 2 ^ (n + 1) = b at *
  refine ⟨fun h => ?_, fun h => ?_⟩
  · rw [← e, Int.emod_eq_of_lt h0 h]
  · have : (b - 2 ^ n) % 2 ^ n = a % 2 ^ n := by rw [Int.sub_emod_right]; exact e
    rw [← this, Int.emod_eq_of_lt (by omega) (by omega)]
theorem pr_lo {n : Nat} {P x : Int} (_ : 0 ≤ x) (h : x = 0 ∨ x = P % 2 ^ (n + 1)) (c : Bool) (hc : x < off n c + 2 ^ n) : max x (off n c) - off n c = 0 ∨ max x (off n c) - off n c = P % 2 ^ n := by
  have hp := pow_pos2 n
  obtain ⟨m1, m2⟩ := mod_half n P
  cases c <;> simp only [off, Bool.false_eq_true, if_false, if_true] at hc ⊢ <;> omega
theorem pr_hi {n : Nat} {P X : Int} (h0 : X ≤ 2 ^ (n + 1)) (h : X = 2 ^ (n + 1) ∨ X = (P - 1) % 2 ^ (n + 1) + 1) (c : Bool) (hc : off n c < X) : min X (off n c + 2 ^ n) - off n c = 2 ^ n ∨ min X (off n c + 2 ^ n) - off n c = (P - 1) % 2 ^ n + 1 := by
  have hp := pow_pos2 n
  have h2 := pow_two2 n
  obtain ⟨m1, m2⟩ := mod_half n (P - 1)
  cases c <;> simp only [off, Bool.false_eq_true, if_false, if_true] at hc ⊢ <;> omega
/-- A rectangle within a square of level n. -/
def RIn (n : Nat) (r : R4) : Prop := r.no = true ∨ (0 ≤ r.x ∧ r.X ≤ 2 ^ n ∧ 0 ≤ r.y ∧ r.Y ≤ 2 ^ n)
theorem qR_in (r : R4) (n : Nat) (c d : Bool) : RIn n (qR r n c d) := cutR_in r _ _ _
theorem qR_pr {P r : R4} {n : Nat} (h : Pr P (n + 1) r) (hi : RIn (n + 1) r) (c d : Bool) : Pr P n (qR r n c d) := by
  by_cases hno : (R4.mk (max r.x (off n c)) (max r.y (off n d)) (min r.X (off n c + 2 ^ n)) (min r.Y (off n d + 2 ^ n))).no = true
  · left
    unfold qR cutR
    rw [if_pos hno, R4.no_iff]; simp
  · have hp := pow_pos2 n
    have h2 := pow_two2 n
    have hm := R4.no_not.1 (Bool.not_eq_true _ ▸ hno)
    simp only at hm
    have hrno : ¬ r.no = true := by rw [R4.no_iff]; omega
    obtain ⟨p1, p2, p3, p4⟩ := h.resolve_left hrno
    obtain ⟨i1, i2, i3, i4⟩ := hi.resolve_left hrno
    right
    unfold qR cutR
    rw [if_neg hno]
    exact ⟨pr_lo i1 p1 c (by omega), pr_hi i2 p2 c (by omega), pr_lo i3 p3 d (by omega), pr_hi i4 p4 d (by omega)⟩
/-- The squares as they are, each cell of a square a function's. -/
def Con (N : List Nd) (n x : Nat) (f : Int → Int → Nat) : Prop := Sq N n x ∧ ∀ X Y, 0 ≤ X ∧ X < 2 ^ n → 0 ≤ Y ∧ Y < 2 ^ n → getZ N n x X Y = f X Y
theorem Con.app {N : List Nd} (hw : Wf N) {n x : Nat} {f : Int → Int → Nat} (E : List Nd) (h : Con N n x f) : Con (N ++ E) n x f := ⟨h.1.app E, fun X Y hX hY => (get_app hw E h.1 X Y).trans (h.2 X Y hX hY)⟩
theorem Con.of {N : List Nd} {n x : Nat} {f g : Int → Int → Nat} (h : Con N n x f) (hf : ∀ X Y, 0 ≤ X ∧ X < 2 ^ n → 0 ≤ Y ∧ Y < 2 ^ n → f X Y = g X Y) : Con N n x g := ⟨h.1, fun X Y hX hY => (h.2 X Y hX hY).trans (hf X Y hX hY)⟩
theorem Con.inj {N : List Nd} (hw : Wf N) {n x y : Nat} {f : Int → Int → Nat} (hx : Con N n x f) (hy : Con N n y f) : x = y := by
  refine get_inj hw hx.1 hy.1 fun X Y => ?_
  rw [← get_mod N n x, ← get_mod N n y]
  have hp := pow_pos2 n
  have h0 := Int.emod_nonneg X (show (2 : Int) ^ n ≠ 0 by omega)
  have h1 := Int.emod_lt_of_pos X hp
  have h2 := Int.emod_nonneg Y (show (2 : Int) ^ n ≠ 0 by omega)
  have h3 := Int.emod_lt_of_pos Y hp
  rw [hx.2 _ _ ⟨h0, h1⟩ ⟨h2, h3⟩, hy.2 _ _ ⟨h0, h1⟩ ⟨h2, h3⟩]
/-- One of four of a function's square. -/
def qF (f : Int → Int → Nat) (n : Nat) (c d : Bool) : Int → Int → Nat := fun X Y => f (X + off n c) (Y + off n d)
theorem con_make {N : List Nd} {n x : Nat} {f : Int → Int → Nat} (h : Sq N (n + 1) x) (hk : ∀ c d, Con N n (pick (kidZ N x) c d) (qF f n c d)) : Con N (n + 1) x f := by
  refine ⟨h, fun X Y hX hY => ?_⟩
  show getZ N n (pick (kidZ N x) (qb n X) (qb n Y)) X Y = f X Y
  rw [← get_off N n _ (qb n X) (qb n Y), (hk (qb n X) (qb n Y)).2 _ _ ((rng_off n _ X).2 ⟨hX.1, hX.2, rfl⟩) ((rng_off n _ Y).2 ⟨hY.1, hY.2, rfl⟩)]
  unfold qF
  rw [Int.sub_add_cancel, Int.sub_add_cancel]
/-- A new square is a piece of a function's square. -/
def Pc (n : Nat) (f : Int → Int → Nat) (N : List Nd) (y : Nat) : Prop := ∃ (j : Nat) (A B : Int), j ≤ n ∧ (0 ≤ A ∧ A + 2 ^ j ≤ 2 ^ n ∧ A % 2 ^ j = 0) ∧ (0 ≤ B ∧ B + 2 ^ j ≤ 2 ^ n ∧ B % 2 ^ j = 0) ∧ Con N j y (fun X Y => f (X + A) (Y + B))
theorem Pc.self {n : Nat} {f : Int → Int → Nat} {N : List Nd} {y : Nat} (h : Con N n y f) : Pc n f N y :=
  ⟨n, 0, 0, Nat.le_refl _, ⟨by omega, by omega, by simp⟩, ⟨by omega, by omega, by simp⟩, by simpa using h⟩
theorem Pc.app {n : Nat} {f : Int → Int → Nat} {N : List Nd} (hw : Wf N) {y : Nat} (E : List Nd) (h : Pc n f N y) : Pc n f (N ++ E) y := by
  obtain ⟨j, A, B, h1, h2, h3, h4⟩ := h
  exact ⟨j, A, B, h1, h2, h3, h4.app hw E⟩
theorem off_mod {n j : Nat} (h : j ≤ n) (c : Bool) : off n c % 2 ^ j = 0 := by
  rcases off_cases n c with e | e
  · rw [e]; simp
  · rw [e]
    obtain ⟨d, rfl⟩ := Nat.exists_eq_add_of_le h
    rw [Int.pow_add]
    exact Int.mul_emod_right _ _
theorem Pc.up {n : Nat} {f : Int → Int → Nat} {N : List Nd} {y : Nat} {c d : Bool} (h : Pc n (qF f n c d) N y) : Pc (n + 1) f N y := by
  obtain ⟨j, A, B, h1, ⟨a1, a2, a3⟩, ⟨b1, b2, b3⟩, h4⟩ := h
  have hc := off_rng n c
  have hd := off_rng n d
  have h2 := pow_two2 n
  refine ⟨j, A + off n c, B + off n d, by omega, ⟨by omega, by omega, ?_⟩, ⟨by omega, by omega, ?_⟩, ?_⟩
  · rw [Int.add_emod, a3, off_mod h1]; simp
  · rw [Int.add_emod, b3, off_mod h1]; simp
  · refine h4.of fun X Y _ _ => ?_
    unfold qF
    rw [Int.add_assoc, Int.add_assoc]
theorem Pc.of {n : Nat} {f g : Int → Int → Nat} {N : List Nd} {y : Nat} (h : Pc n f N y) (hf : ∀ X Y, 0 ≤ X ∧ X < 2 ^ n → 0 ≤ Y ∧ Y < 2 ^ n → f X Y = g X Y) : Pc n g N y := by
  obtain ⟨j, A, B, h1, h2, h3, h4⟩ := h
  exact ⟨j, A, B, h1, h2, h3, h4.of fun X Y hX hY => hf _ _ (by omega) (by omega)⟩
/-- What is new in a store is made of pieces of a function's square. -/
def New8 (N : List Nd) (n : Nat) (f : Int → Int → Nat) (N' : List Nd) : Prop := (∃ E, N' = N ++ E) ∧ ∀ y, N.length ≤ y → y < N'.length → Pc n f N' y
theorem New8.refl (N : List Nd) (n : Nat) (f : Int → Int → Nat) : New8 N n f N := ⟨⟨[], by simp⟩, fun y h1 h2 => by omega⟩
theorem New8.trans {N N1 N2 : List Nd} {n : Nat} {f : Int → Int → Nat} (hw : Wf N1) (h : New8 N n f N1) (h' : New8 N1 n f N2) : New8 N n f N2 := by
  obtain ⟨⟨E, rfl⟩, h1⟩ := h
  obtain ⟨⟨F, rfl⟩, h2⟩ := h'
  refine ⟨⟨E ++ F, by rw [List.append_assoc]⟩, fun y hy hl => ?_⟩
  rcases Nat.lt_or_ge y (N ++ E).length with h | h
  · exact (h1 y hy h).app hw F
  · exact h2 y h hl
theorem New8.up {N N' : List Nd} {n : Nat} {f : Int → Int → Nat} {c d : Bool} (h : New8 N n (qF f n c d) N') : New8 N (n + 1) f N' := ⟨h.1, fun y h1 h2 => (h.2 y h1 h2).up⟩
theorem New8.of {N N' : List Nd} {n : Nat} {f g : Int → Int → Nat} (h : New8 N n f N') (hf : ∀ X Y, 0 ≤ X ∧ X < 2 ^ n → 0 ≤ Y ∧ Y < 2 ^ n → f X Y = g X Y) : New8 N n g N' := ⟨h.1, fun y h1 h2 => (h.2 y h1 h2).of hf⟩
theorem New8.con {N N' : List Nd} {n m x : Nat} {f g : Int → Int → Nat} (hw : Wf N) (h : New8 N n f N') (hc : Con N m x g) : Con N' m x g := by
  obtain ⟨⟨E, rfl⟩, _⟩ := h
  exact hc.app hw E
/-- Make of four that have their cells. -/
theorem mk_con {N : List Nd} {most n : Nat} {k : K4} {f : Int → Int → Nat} (hw : Wf N) (hn : n < 62) (hk : ∀ c d, Con N n (pick k c d) (qF f n c d)) :
    (mkZ N most k = (N, 0, 7) ∧ most ≤ N.length) ∨ ∃ N' r, mkZ N most k = (N', r, 0) ∧ Con N' (n + 1) r f ∧ New8 N (n + 1) f N' := by
  have hfo : Fo N n k := fun c d => (hk c d).1
  rcases mk_case (most := most) hw hn hfo with h | ⟨E, hm, hE, hsq, hkid, hth⟩
  · exact Or.inl h
  · right
    generalize (mkZ N most k).2.1 = r at *
    have hcon : Con (N ++ E) (n + 1) r f := con_make hsq fun c d => by rw [hkid]; exact (hk c d).app hw E
    refine ⟨N ++ E, r, hm, hcon, ⟨E, rfl⟩, fun y h1 h2 => ?_⟩
    have hlr := hsq.lt
    rw [List.length_append] at h2 hlr
    have hr : N.length ≤ r := by
      apply Classical.byContradiction
      intro hlt
      have hlt' : r < N.length := by omega
      have hE0 := hth ⟨r, by unfold Sq; rw [← lv_app E hlt']; exact hsq, by rw [← kid_app E hlt']; exact hkid⟩
      rw [hE0] at h2; simp at h2; omega
    obtain rfl : y = r := by omega
    exact Pc.self hcon
/-- Empty: what is new has no living cells. -/
theorem em_con {most : Nat} : ∀ (n : Nat) {N : List Nd} {x j : Nat}, Wf N → N.length ≤ most → Con N j x (fun _ _ => 0) → j + n ≤ 62 →
    (∃ N', emZ most n N x = (N', 0, 7) ∧ New8 N (j + n) (fun _ _ => 0) N' ∧ most ≤ N'.length ∧ Wf N') ∨ ∃ N' r, emZ most n N x = (N', r, 0) ∧ Con N' (j + n) r (fun _ _ => 0) ∧ New8 N (j + n) (fun _ _ => 0) N' ∧ Wf N'
  | 0, N, x, j, hw, _, he, _ => Or.inr ⟨N, x, rfl, he, New8.refl _ _ _, hw⟩
  | n + 1, N, x, j, hw, hl, he, hjn => by
    obtain ⟨wf1, wf2, wf3⟩ := mk_wf (most := most) (x, x, x, x) hw hl
    rcases mk_con (most := most) (n := j) (k := (x, x, x, x)) (f := fun _ _ => 0) hw (by omega) (fun c d => by rw [pick_all]; exact he) with ⟨hm, hfull⟩ | ⟨N1, r, hm, hc, hnew⟩
    · left
      refine ⟨N, by simp only [emZ, hm]; simp, New8.refl _ _ _, hfull, hw⟩
    · rw [hm] at wf1 wf2 wf3
      have hstep : emZ most (n + 1) N x = emZ most n N1 r := by simp only [emZ, hm]; simp
      rw [hstep]
      have upn : ∀ m, New8 N (j + 1) (fun _ _ => 0) N1 → New8 N (j + 1 + m) (fun _ _ => 0) N1 := fun m => by
        induction m with
        | zero => exact id
        | succ m ih => exact fun h => New8.up (c := false) (d := false) (ih h)
      rw [show j + (n + 1) = j + 1 + n by omega]
      rcases em_con n (j := j + 1) wf1 wf2 hc (by omega) with ⟨N2, h1, h2, h3, h4⟩ | ⟨N2, t, h1, h2, h3, h4⟩
      · exact Or.inl ⟨N2, h1, (upn n hnew).trans wf1 h2, h3, h4⟩
      · exact Or.inr ⟨N2, t, h1, h2, (upn n hnew).trans wf1 h3, h4⟩
/-- The number Dead stands for a square without living cells. -/
theorem get_dead {N : List Nd} (hw : Wf N) : ∀ (n : Nat) (X Y : Int), getZ N n 0 X Y = 0
  | 0, _, _ => rfl
  | n + 1, X, Y => by
    show getZ N n (pick (kidZ N 0) _ _) X Y = 0
    rw [show kidZ N 0 = (0, 0, 0, 0) by unfold kidZ; rw [hw.dead], pick_all]
    exact get_dead hw n X Y
def Sq0 (N : List Nd) (n x : Nat) : Prop := x = 0 ∨ Sq N n x
theorem Sq0.app {N : List Nd} {n x : Nat} (E : List Nd) (h : Sq0 N n x) : Sq0 (N ++ E) n x := h.imp id (fun h => h.app E)
theorem Sq0.get_app {N : List Nd} (hw : Wf N) (E : List Nd) (hw' : Wf (N ++ E)) {n x : Nat} (h : Sq0 N n x) (X Y : Int) : getZ (N ++ E) n x X Y = getZ N n x X Y := by
  rcases h with rfl | h
  · rw [get_dead hw, get_dead hw']
  · exact Go.Proofs.YtaapkngpnlnjeaaGreat.get_app hw E h X Y
theorem Sq0.kid {N : List Nd} (hw : Wf N) {n x : Nat} (h : Sq0 N (n + 1) x) (c d : Bool) : Sq0 N n (pick (kidZ N x) c d) := by
  rcases h with rfl | h
  · left; rw [show kidZ N 0 = (0, 0, 0, 0) by unfold kidZ; rw [hw.dead], pick_all]
  · exact Or.inr (h.kid hw c d)
/-- A square after a change: some cells are alive, a rectangle's others are c. -/
def Tc (N : List Nd) (n x : Nat) (r : R4) (c : Nat) (L : List (Int × Int)) : Int → Int → Nat := fun X Y => if (X, Y) ∈ L then 1 else if r.has X Y then c else getZ N n x X Y
/-- The points of a list in one of four. -/
def qL (L : List (Int × Int)) (n : Nat) (c d : Bool) : List (Int × Int) := (L.filter fun p => qb n p.1 == c && qb n p.2 == d).map fun p => (p.1 % 2 ^ n, p.2 % 2 ^ n)
def LIn (n : Nat) (L : List (Int × Int)) : Prop := ∀ p ∈ L, (0 ≤ p.1 ∧ p.1 < 2 ^ n) ∧ 0 ≤ p.2 ∧ p.2 < 2 ^ n
theorem qL_in (L : List (Int × Int)) (n : Nat) (c d : Bool) : LIn n (qL L n c d) := fun p hp => by
  unfold qL at hp
  rw [List.mem_map] at hp
  obtain ⟨q, _, rfl⟩ := hp
  have h := pow_pos2 n
  exact ⟨⟨Int.emod_nonneg _ (by omega), Int.emod_lt_of_pos _ h⟩, Int.emod_nonneg _ (by omega), Int.emod_lt_of_pos _ h⟩
theorem mod_off {n : Nat} {X : Int} (h : 0 ≤ X ∧ X < 2 ^ (n + 1)) : X % 2 ^ n = X - off n (qb n X) := by
  obtain ⟨h0, h1⟩ := (rng_off n (qb n X) X).2 ⟨h.1, h.2, rfl⟩
  have : (X - off n (qb n X)) % 2 ^ n = X % 2 ^ n := by
    rw [Int.sub_emod, off_mod (Nat.le_refl n), Int.sub_zero, Int.emod_emod]
  rw [← this, Int.emod_eq_of_lt h0 h1]
theorem qL_mem {L : List (Int × Int)} {n : Nat} (hL : LIn (n + 1) L) (c d : Bool) {X Y : Int} (hX : 0 ≤ X ∧ X < 2 ^ n) (hY : 0 ≤ Y ∧ Y < 2 ^ n) : (X, Y) ∈ qL L n c d ↔ (X + off n c, Y + off n d) ∈ L := by
  unfold qL
  rw [List.mem_map]
  constructor
  · rintro ⟨⟨p, q⟩, h, e⟩
    rw [List.mem_filter] at h
    simp only [Bool.and_eq_true, beq_iff_eq] at h
    obtain ⟨hm, rfl, rfl⟩ := h
    obtain ⟨hp, hq⟩ := hL _ hm
    simp only [Prod.mk.injEq] at e
    obtain ⟨rfl, rfl⟩ := e
    rw [mod_off hp, mod_off hq, Int.sub_add_cancel, Int.sub_add_cancel]
    exact hm
  · intro hm
    obtain ⟨hp, hq⟩ := hL _ hm
    have b1 := ((rng_off n c (X + off n c)).1 (by rw [Int.add_sub_cancel]; exact hX)).2.2
    have b2 := ((rng_off n d (Y + off n d)).1 (by rw [Int.add_sub_cancel]; exact hY)).2.2
    refine ⟨_, List.mem_filter.2 ⟨hm, by simp only [b1, b2]; simp⟩, ?_⟩
    simp only at hp hq
    rw [mod_off hp, mod_off hq, b1, b2, Int.add_sub_cancel, Int.add_sub_cancel]
theorem Tc_q {N : List Nd} {n x : Nat} {r : R4} {c : Nat} {L : List (Int × Int)} (hL : LIn (n + 1) L) (a b : Bool) {X Y : Int} (hX : 0 ≤ X ∧ X < 2 ^ n) (hY : 0 ≤ Y ∧ Y < 2 ^ n) : Tc N n (pick (kidZ N x) a b) (qR r n a b) c (qL L n a b) X Y = qF (Tc N (n + 1) x r c L) n a b X Y := by
  unfold Tc qF
  rw [qR_has r n a b hX hY]
  simp only [qL_mem hL a b hX hY]
  have b1 := ((rng_off n a (X + off n a)).1 (by rw [Int.add_sub_cancel]; exact hX)).2.2
  have b2 := ((rng_off n b (Y + off n b)).1 (by rw [Int.add_sub_cancel]; exact hY)).2.2
  have e : getZ N (n + 1) x (X + off n a) (Y + off n b) = getZ N n (pick (kidZ N x) a b) X Y := by
    show getZ N n (pick (kidZ N x) (qb n (X + off n a)) (qb n (Y + off n b))) _ _ = _
    rw [b1, b2, ← get_off N n _ a b, Int.add_sub_cancel, Int.add_sub_cancel]
  rw [e]
theorem Tc_app {N : List Nd} (hw : Wf N) (E : List Nd) (hw' : Wf (N ++ E)) {n x : Nat} (h : Sq0 N n x) (r : R4) (c : Nat) (L : List (Int × Int)) : Tc (N ++ E) n x r c L = Tc N n x r c L := by
  funext X Y
  unfold Tc
  rw [h.get_app hw E hw']
end Go.Proofs.YtaapkngpnlnjeaaGreat
end

section
namespace Go.Proofs.YtaapkngpnlnjeaaGreat
open Go.RowKit Go.Maps
set_option maxRecDepth 100000

theorem Tryz.keyDeepK : Tryz.prog.keyTypeAt (Tryz.prog.types.size + 1) 105 = true := by kernel_rfl
theorem Tryz.laidOutT : laidOutB Tryz.prog = true := by kernel_rfl
theorem Tryz.keyRowK : (105 : TypeId) < Tryz.prog.types.size := of_decide_eq_true (by kernel_rfl)
theorem Tryz.keyWideK : (match Tryz.prog.underlying 105 with | some (.array _ _) | some (.struct _) => true | _ => false) = true := by rw [Tryz.underlying105]
theorem Tryz.keyedK : Keyed Tryz.prog 105 := Keyed.of_law (deep_law_laid Tryz.laidOutT (m := 2) (by omega) Tryz.keyRowK (by kernel_rfl) Tryz.keyWideK)
theorem Tryz.zeroID (w : World) : (zeroValue 27).run Tryz.prog w = .ok (.int .u32 0) w := by kernel_rfl
/-- Four numbers, as a value. -/
def kv (k : K4) : Value := .agg #[.int .u32 (k.1 : Int), .int .u32 (k.2.1 : Int), .int .u32 (k.2.2.1 : Int), .int .u32 (k.2.2.2 : Int)]
/-- Numbers that a uint32 holds. -/
def InK (k : K4) : Prop := k.1 < 4294967296 ∧ k.2.1 < 4294967296 ∧ k.2.2.1 < 4294967296 ∧ k.2.2.2 < 4294967296
noncomputable def klk (k : K4) : Lit := (keyOf Tryz.prog 105 (kv k)).getD (.bool false)
theorem Tryz.cellsK : Tryz.prog.cellsOf 105 = 4 := by kernel_rfl
theorem Tryz.cellsID : Tryz.prog.cellsOf 27 = 1 := by kernel_rfl
theorem u32_wf {x : Nat} (h : x < 4294967296) : (Lit.int .u32 (x : Int)).wf = true := by
  simp [Lit.wf, IntKind.min, IntKind.max, IntKind.bits, IntKind.signed]; omega
theorem lits_id (d : Nat) (x : Int) (h : (Lit.int .u32 x).wf = true) : Tryz.prog.keyLits (d + 1) 27 [.int .u32 x] = some [.int .u32 x] := by
  unfold Program.keyLits
  rw [Tryz.underlying27]
  simp only [h, and_self, if_true]
theorem lits_kids (d : Nat) (a b c e : Int) (h1 : (Lit.int .u32 a).wf = true) (h2 : (Lit.int .u32 b).wf = true) (h3 : (Lit.int .u32 c).wf = true) (h4 : (Lit.int .u32 e).wf = true) :
    Tryz.prog.keyLits (d + 1 + 1) 105 [.int .u32 a, .int .u32 b, .int .u32 c, .int .u32 e] = some [.int .u32 a, .int .u32 b, .int .u32 c, .int .u32 e] := by
  have e1 := lits_id d a h1
  have e2 := lits_id d b h2
  have e3 := lits_id d c h3
  have e4 := lits_id d e h4
  unfold Program.keyLits
  rw [Tryz.underlying105]
  simp only [Tryz.cellsID, Tryz.cellsK]
  rw [if_pos (show ([Value.int .u32 a, .int .u32 b, .int .u32 c, .int .u32 e] : List Value).length = 4 from rfl), show List.range 4 = [0, 1, 2, 3] from rfl]
  simp only [List.mapM_cons, List.mapM_nil, Nat.mul_one, List.drop, List.take, e1, e2, e3, e4]
  rfl
theorem lits_top (a b c e : Int) (h1 : (Lit.int .u32 a).wf = true) (h2 : (Lit.int .u32 b).wf = true) (h3 : (Lit.int .u32 c).wf = true) (h4 : (Lit.int .u32 e).wf = true) :
    Tryz.prog.keyLits (Tryz.prog.types.size + 1) 105 [.int .u32 a, .int .u32 b, .int .u32 c, .int .u32 e] = some [.int .u32 a, .int .u32 b, .int .u32 c, .int .u32 e] := by
  obtain ⟨d, hd⟩ : ∃ d, Tryz.prog.types.size = d + 1 := ⟨Tryz.prog.types.size - 1, by have : (105 : Nat) < Tryz.prog.types.size := Tryz.keyRowK; omega⟩
  rw [hd]
  exact lits_kids d a b c e h1 h2 h3 h4
theorem keyK (k : K4) (h : InK k) : keyOf Tryz.prog 105 (kv k) = some (klk k) := by
  have hk : Tryz.prog.keyType 105 = true := Tryz.keyDeepK
  have hf : (kv k).formed Tryz.prog 105 = true := by simp [kv, Value.formed, Tryz.underlying105, Tryz.cellsK]
  have hl := lits_top k.1 k.2.1 k.2.2.1 k.2.2.2 (u32_wf h.1) (u32_wf h.2.1) (u32_wf h.2.2.1) (u32_wf h.2.2.2)
  have : ∃ l, keyOf Tryz.prog 105 (kv k) = some l := by
    unfold keyOf
    rw [Tryz.underlying105]
    simp only [hk, hf, Bool.and_self, if_true]
    refine ⟨.string (keyBytes [.int .u32 (k.1 : Int), .int .u32 (k.2.1 : Int), .int .u32 (k.2.2.1 : Int), .int .u32 (k.2.2.2 : Int)]), ?_⟩
    show Option.map _ (Tryz.prog.keyLits (Tryz.prog.types.size + 1) 105 [.int .u32 (k.1 : Int), .int .u32 (k.2.1 : Int), .int .u32 (k.2.2.1 : Int), .int .u32 (k.2.2.2 : Int)]) = _
    rw [hl]; rfl
  obtain ⟨l, hl⟩ := this
  unfold klk
  rw [hl]; rfl
theorem klk_inj {y z : K4} (hy : InK y) (hz : InK z) (h : klk y = klk z) : y = z := by
  have := Tryz.keyedK.inj (keyK y hy) (by rw [h]; exact keyK z hz)
  simp only [kv, Value.agg.injEq, Array.mk.injEq, List.cons.injEq, Value.int.injEq, and_true, true_and] at this
  obtain ⟨h1, h2, h3, h4⟩ := this
  exact Prod.ext (by omega) (Prod.ext (by omega) (Prod.ext (by omega) (by omega)))

/-- Block b holds the table of these squares. -/
def KMap (w : World) (b : Nat) (N : List Nd) : Prop :=
  ∃ D : DataW Unit, w.ownsMap Tryz.prog 105 (plainElem Tryz.prog 27) b N.length D ∧ Maps.size D + 2 = N.length ∧
    (∀ k i, InK k → findZ N k = some i → Maps.has D (klk k) = true ∧ D.atKey (klk k) (.lit (.int .u32 0)) = .lit (.int .u32 (i : Int))) ∧ ∀ k, InK k → findZ N k = none → Maps.has D (klk k) = false
theorem KMap.lt {w : World} {b : Nat} {N : List Nd} (h : KMap w b N) : b < w.heap.size := by
  obtain ⟨D, h, _⟩ := h
  exact h.lt
theorem KMap.blk {w w' : World} {b : Nat} {N : List Nd} (h : KMap w b N) (hb : w'.heap[b]? = w.heap[b]?) : KMap w' b N := by
  obtain ⟨D, ⟨es, clock, h1, h2⟩, r⟩ := h
  exact ⟨D, ⟨es, clock, hb.trans h1, h2⟩, r⟩
theorem kmap_new (w : World) : KMap (w.alloc (.map #[] 0)) w.heap.size N0 := by
  refine ⟨.map [], (World.ownsMap_made w _ _ _).mono (Nat.zero_le _), rfl, fun k i _ hf => ?_, fun k _ _ => ?_⟩
  · simp [findZ, N0, idx] at hf
  · simp [Maps.has]
theorem id_wf {i : Nat} (h : i < 4294967296) : plainElem (H := Unit) Tryz.prog 27 (.int .u32 (i : Int)) = some (.lit (.int .u32 (i : Int)), []) := plainElem_int Tryz.underlying27 (u32_wf h)
/-- 's.table[k]', with whether it is there. -/
theorem KMap.look {w : World} {b : Nat} {N : List Nd} (h : KMap w b N) (k : K4) (hk : InK k) :
    (∀ i, findZ N k = some i → (Instr.lookup 109 (.map (some b)) (kv k) true).run Tryz.prog w = .ok (.tuple #[.int .u32 (i : Int), .bool true]) w) ∧
    (findZ N k = none → (Instr.lookup 109 (.map (some b)) (kv k) true).run Tryz.prog w = .ok (.tuple #[.int .u32 0, .bool false]) w) := by
  obtain ⟨D, ho, hs, h1, h2⟩ := h
  obtain ⟨v, ps, hr, hv⟩ := ho.look_ok Tryz.keyedK Tryz.underlying109 (Tryz.zeroID w) (id_wf (i := 0) (by omega)) (keyK k hk)
  obtain ⟨c, rfl, hc, _⟩ := plainElem_int_inv Tryz.underlying27 hv
  simp only [Prod.mk.injEq] at hc
  refine ⟨fun i hi => ?_, fun hn => ?_⟩
  · obtain ⟨g1, g2⟩ := h1 k i hk hi
    rw [hr, g1]
    rw [show (((0 : Nat) : Int)) = 0 from rfl, g2] at hc
    have := hc.1
    simp only [DataW.lit.injEq, Lit.int.injEq, true_and] at this
    rw [← this]
  · rw [hr, h2 k hk hn]
    rw [Maps.atKey_of_not_has (h2 k hk hn)] at hc
    have := hc.1
    simp only [DataW.lit.injEq, Lit.int.injEq, true_and] at this
    rw [← this]; rfl
/-- The same, drawn whatever. -/
theorem KMap.drewN {w : World} {b : Nat} {N : List Nd} (h : KMap w b N) (q : Nat) : KMap (w.drewN q) b N := h.blk rfl
theorem KMap.lookQ {w : World} {b : Nat} {N : List Nd} (h : KMap w b N) (k : K4) (hk : InK k) (hn : findZ N k = none) (q : Nat) :
    (Instr.lookup 109 (.map (some b)) (.agg #[.int .u32 (k.1 : Int), .int .u32 (k.2.1 : Int), .int .u32 (k.2.2.1 : Int), .int .u32 (k.2.2.2 : Int)]) true).run Tryz.prog (w.drewN q) = .ok (.tuple #[.int .u32 0, .bool false]) (w.drewN q) := ((h.drewN q).look k hk).2 hn
theorem KMap.lookS {w : World} {b : Nat} {N : List Nd} (h : KMap w b N) (k : K4) (hk : InK k) {i : Nat} (hn : findZ N k = some i) (q : Nat) :
    (Instr.lookup 109 (.map (some b)) (.agg #[.int .u32 (k.1 : Int), .int .u32 (k.2.1 : Int), .int .u32 (k.2.2.1 : Int), .int .u32 (k.2.2.2 : Int)]) true).run Tryz.prog (w.drewN q) = .ok (.tuple #[.int .u32 (i : Int), .bool true]) (w.drewN q) := ((h.drewN q).look k hk).1 i hn
/-- 's.table[k] = x' of a new square. -/
theorem find_app {N : List Nd} {k : K4} {i : Nat} (n : Nd) (h : findZ N k = some i) : findZ (N ++ [n]) k = some i := by
  obtain ⟨h2, m, hm, hk⟩ := find_some h
  have hl : 2 ≤ N.length := by have := (List.getElem?_eq_some_iff.1 hm).1; omega
  unfold findZ at h ⊢
  rw [List.drop_append_of_le_length hl]
  generalize N.drop 2 = l at h
  generalize 2 = s at h
  revert s
  induction l with
  | nil => intro s h; simp [idx] at h
  | cons x r ih =>
    intro s h
    simp only [List.cons_append, idx] at h ⊢
    split
    · rename_i hx; rw [if_pos hx] at h; exact h
    · rename_i hx; rw [if_neg hx] at h; exact ih _ h
theorem find_new {N : List Nd} {k : K4} (hl : 2 ≤ N.length) (n : Nd) (h : findZ N k = none) : findZ (N ++ [n]) k = if n.k = k then some N.length else none := by
  unfold findZ at h ⊢
  rw [List.drop_append_of_le_length hl]
  have e : N.length = 2 + (N.drop 2).length := by simp; omega
  rw [e]
  generalize N.drop 2 = l at h
  generalize 2 = s at h ⊢
  revert s
  induction l with
  | nil => intro s h; simp [idx]
  | cons x r ih =>
    intro s h
    simp only [idx, List.cons_append] at h ⊢
    split at h
    · cases h
    · rename_i hx
      rw [if_neg hx, ih _ h]
      simp only [List.length_cons]
      congr 2; omega
theorem KMap.put {w : World} {b : Nat} {N : List Nd} (h : KMap w b N) (hl : 2 ≤ N.length) (n : Nd) (hk : InK n.k) (hf : findZ N n.k = none) (hm : N.length ≤ 1048576) :
    ∃ w', (Instr.mapUpdate 109 (.map (some b)) (kv n.k) (.int .u32 (N.length : Int))).run Tryz.prog w = .ok () w' ∧ KMap w' b (N ++ [n]) ∧ w.grownBy w' (some b) := by
  obtain ⟨D, ho, hs, h1, h2⟩ := h
  obtain ⟨w', r1, r2, r3⟩ := ho.update Tryz.keyedK Tryz.underlying109 (by unfold maxLen; omega) (keyK n.k hk) (id_wf (i := N.length) (by omega))
  have hkl : WideAt.IsKeyLit (klk n.k) := Tryz.keyedK.key (keyK n.k hk)
  refine ⟨w', r1, ⟨_, by simpa using r2, ?_, fun k i hki hi => ?_, fun k hki hi => ?_⟩, r3⟩
  · rw [Maps.size_put (ho.tidy Tryz.keyedK), h2 _ hk hf]; simp; omega
  · by_cases e : k = n.k
    · subst e
      rw [find_new hl n hf, if_pos rfl] at hi
      cases hi
      exact ⟨Maps.has_put_same ho.isMap hkl _, Maps.atKey_put_same ho.isMap hkl _ _⟩
    · have hne : klk k ≠ klk n.k := fun hh => e (klk_inj hki hk hh)
      rw [Maps.has_put_other hne, Maps.atKey_put_other hne]
      cases hf2 : findZ N k with
      | some j =>
        rw [find_app n hf2] at hi
        cases hi
        exact h1 k _ hki hf2
      | none =>
        rw [find_new hl n hf2, if_neg (fun hh => e hh.symm)] at hi
        cases hi
  · by_cases e : k = n.k
    · subst e
      rw [find_new hl n hf, if_pos rfl] at hi
      cases hi
    · have hne : klk k ≠ klk n.k := fun hh => e (klk_inj hki hk hh)
      rw [Maps.has_put_other hne]
      refine h2 k hki ?_
      cases hf2 : findZ N k with
      | some j => rw [find_app n hf2] at hi; cases hi
      | none => rfl
end Go.Proofs.YtaapkngpnlnjeaaGreat
end

section
namespace Go.Proofs.YtaapkngpnlnjeaaGreat
open Go.RowKit Go.Maps

/-- A square's six cells. -/
def ndV (n : Nd) : List Value := [.int .u32 (n.k.1 : Int), .int .u32 (n.k.2.1 : Int), .int .u32 (n.k.2.2.1 : Int), .int .u32 (n.k.2.2.2 : Int), .int .i64 (n.lv : Int), .int .u64 (n.ct : Int)]
def ndVs (N : List Nd) : List Value := N.flatMap ndV
theorem ndVs_len (N : List Nd) : (ndVs N).length = N.length * 6 := by
  induction N with
  | nil => rfl
  | cons c r ih => simp only [ndVs, List.flatMap_cons, List.length_append, List.length_cons] at ih ⊢; rw [ih]; simp [ndV]; omega
theorem ndVs_at : ∀ (N : List Nd) (i j : Nat), j < 6 → (ndVs N)[i * 6 + j]? = N[i]?.bind (fun n => (ndV n)[j]?)
  | [], i, j, _ => by simp [ndVs]
  | c :: r, 0, j, hj => by simp only [ndVs, List.flatMap_cons, Nat.zero_mul, Nat.zero_add, List.getElem?_cons_zero, Option.bind_some]; rw [List.getElem?_append_left (by simp [ndV]; omega)]
  | c :: r, i + 1, j, hj => by
    have := ndVs_at r i j hj
    simp only [ndVs, List.flatMap_cons, List.getElem?_cons_succ] at this ⊢
    rw [List.getElem?_append_right (by simp [ndV]; omega), show (i + 1) * 6 + j - (ndV c).length = i * 6 + j by simp [ndV]; omega]
    exact this
/-- A store: its block, its squares' block, its table's block, the slice's room, how many there may be, its squares. -/
structure St (w : World) (sb g tb cap most : Nat) (N : List Nd) : Prop where
  blk : w.heap[sb]? = some (.cells #[.int .i64 (most : Int), .slice (some ⟨g, 0, none⟩) N.length cap, .map (some tb)] 111 (0, 0))
  row : w.ownsRow 0 107 6 (.slice (some ⟨g, 0, none⟩) N.length cap) N.length (ndVs N)
  tab : KMap w tb N
  wf : Wf N
  room : N.length ≤ most
  most_le : most ≤ 1048576
  ne : sb ≠ g
theorem St.lt {w : World} {sb g tb cap most : Nat} {N : List Nd} (h : St w sb g tb cap most N) : sb < w.heap.size ∧ g < w.heap.size ∧ tb < w.heap.size := by
  refine ⟨(Array.getElem?_eq_some_iff.1 h.blk).1, ?_, h.tab.lt⟩
  rcases h.row.2 with ⟨hv, _⟩ | ⟨g', cp, cur, hv, _, hg, _⟩
  · cases hv
  · cases hv; exact (Array.getElem?_eq_some_iff.1 hg).1
theorem St.ne_tab {w : World} {sb g tb cap most : Nat} {N : List Nd} (h : St w sb g tb cap most N) : sb ≠ tb ∧ g ≠ tb := by
  obtain ⟨D, ⟨es, cl, h1, _⟩, _⟩ := h.tab
  refine ⟨fun e => ?_, fun e => ?_⟩
  · subst e; rw [h.blk] at h1; cases h1
  · subst e
    rcases h.row.2 with ⟨hv, _⟩ | ⟨g', cp, cur, hv, _, hg, _⟩
    · cases hv
    · cases hv; rw [hg] at h1; cases h1
theorem St.later {w w' : World} {sb g tb cap most : Nat} {N : List Nd} (h : St w sb g tb cap most N) (hb : Below w.heap.size w w') : St w' sb g tb cap most N := by
  obtain ⟨l1, l2, l3⟩ := h.lt
  refine ⟨by rw [hb.block sb l1]; exact h.blk, ⟨h.row.1, ?_⟩, h.tab.blk (hb.block tb l3), h.wf, h.room, h.most_le, h.ne⟩
  rcases h.row.2 with ⟨hv, _⟩ | ⟨g', cp, cur, hv, h0, hg, hr⟩
  · cases hv
  · cases hv; exact Or.inr ⟨g, cap, cur, rfl, h0, by rw [hb.block g l2]; exact hg, hr⟩
theorem St.drewN {w : World} {sb g tb cap most : Nat} {N : List Nd} (h : St w sb g tb cap most N) (q : Nat) : St (w.drewN q) sb g tb cap most N := ⟨h.blk, h.row, h.tab.blk rfl, h.wf, h.room, h.most_le, h.ne⟩
theorem St.cells {w : World} {sb g tb cap most : Nat} {N : List Nd} (h : St w sb g tb cap most N) : w.cell? ⟨sb, 0, none⟩ = some (.int .i64 (most : Int)) ∧ w.cell? ⟨sb, 1, none⟩ = some (.slice (some ⟨g, 0, none⟩) N.length cap) ∧ w.cell? ⟨sb, 2, none⟩ = some (.map (some tb)) ∧ w.frozen? ⟨sb, 1, none⟩ = false :=
  ⟨by rw [Lib.cell_of_heap h.blk]; rfl, by rw [Lib.cell_of_heap h.blk]; rfl, by rw [Lib.cell_of_heap h.blk]; rfl, Lib.frozen_of_heap h.blk 1⟩
theorem St.cell {w : World} {sb g tb cap most : Nat} {N : List Nd} (h : St w sb g tb cap most N) {x : Nat} {n : Nd} (hx : N[x]? = some n) (j : Nat) (hj : j < 6) : w.cell? ⟨g, x * 6 + j, none⟩ = (ndV n)[j]? := by
  have hl : x < N.length := (List.getElem?_eq_some_iff.1 hx).1
  rw [h.row.cellAt (x * 6 + j) (by omega), ndVs_at N x j hj, hx]; rfl
theorem St.sq {w : World} {sb g tb cap most : Nat} {N : List Nd} (h : St w sb g tb cap most N) {x : Nat} {n : Nd} (hx : N[x]? = some n) :
    w.cell? ⟨g, x * 6, none⟩ = some (.int .u32 (n.k.1 : Int)) ∧ w.cell? ⟨g, x * 6 + 1, none⟩ = some (.int .u32 (n.k.2.1 : Int)) ∧ w.cell? ⟨g, x * 6 + 2, none⟩ = some (.int .u32 (n.k.2.2.1 : Int)) ∧ w.cell? ⟨g, x * 6 + 3, none⟩ = some (.int .u32 (n.k.2.2.2 : Int)) ∧
    w.cell? ⟨g, x * 6 + 4, none⟩ = some (.int .i64 (n.lv : Int)) ∧ w.cell? ⟨g, x * 6 + 5, none⟩ = some (.int .u64 (n.ct : Int)) :=
  ⟨h.cell hx 0 (by omega), h.cell hx 1 (by omega), h.cell hx 2 (by omega), h.cell hx 3 (by omega), h.cell hx 4 (by omega), h.cell hx 5 (by omega)⟩

set_option maxRecDepth 100000
theorem len_any {w : World} {sb g tb cap most : Nat} {N : List Nd} (h : St w sb g tb cap most N) :
    Calls Tryz.prog 24 #[.pointer (some ⟨sb, 0, none⟩)] w fun e w' => e = .returned (.int .i64 (N.length : Int)) ∧ w = w' := by
  obtain ⟨c0, c1, c2, _⟩ := h.cells
  go_enter Tryz.func24, Tryz.ntmps24
  go_wp2
  go_ret
  exact ⟨rfl, rfl⟩
theorem len_nil (w : World) : Calls Tryz.prog 24 #[.pointer none] w fun e w' => e = .returned (.int .i64 0) ∧ w = w' := by
  go_enter Tryz.func24, Tryz.ntmps24
  go_wp2
  go_ret
  exact ⟨rfl, rfl⟩
theorem is_any {w : World} {sb g tb cap most : Nat} {N : List Nd} (h : St w sb g tb cap most N) (x : Nat) (hx : x < 4294967296) :
    Calls Tryz.prog 62 #[.pointer (some ⟨sb, 0, none⟩), .int .u32 (x : Int)] w fun e w' => e = .returned (.bool (decide (x < N.length))) ∧ w = w' := by
  have HS := Lib.hid h
  have hw1 : IntKind.u64.wrap (x : Int) = (x : Int) := IntWalk.u64_in _ (by omega)
  have hw2 : IntKind.u64.wrap (N.length : Int) = (N.length : Int) := IntWalk.u64_in _ (by have := h.room; have := h.most_le; omega)
  clear h
  go_enter Tryz.func62, Tryz.ntmps62
  go_wp2_with fail
  refine (len_any HS.out).mono ?_
  rintro e w' ⟨rfl, rfl⟩
  go_wp2
  go_ret
  exact ⟨rfl, rfl⟩
theorem is_nil (x : Nat) (w : World) (hx : x < 4294967296) : Calls Tryz.prog 62 #[.pointer none, .int .u32 (x : Int)] w fun e w' => e = .returned (.bool false) ∧ w = w' := by
  have hw1 : IntKind.u64.wrap (x : Int) = (x : Int) := IntWalk.u64_in _ (by omega)
  have hw2 : decide ((x : Int) < 0) = false := by simp
  go_enter Tryz.func62, Tryz.ntmps62
  go_wp2_with fail
  refine (len_nil _).mono ?_
  rintro e w' ⟨rfl, rfl⟩
  go_wp2
  go_ret
  exact ⟨rfl, rfl⟩
theorem room_any {w : World} {sb g tb cap most : Nat} {N : List Nd} (h : St w sb g tb cap most N) :
    Calls Tryz.prog 126 #[.pointer (some ⟨sb, 0, none⟩)] w fun e w' => e = .returned (.int .i64 ((most : Int) - (N.length : Int))) ∧ ∃ q, w' = w.drewN q := by
  obtain ⟨c0, c1, c2, _⟩ := h.cells
  have hw1 : IntKind.i64.wrap ((most : Int) - (N.length : Int)) = (most : Int) - (N.length : Int) := IntWalk.i64_in _ (by have := h.room; have := h.most_le; omega)
  go_enter Tryz.func126, Tryz.ntmps126
  go_wp2_with fail
  go_quiet (fail)
  go_wp2_with fail
  go_ret
  exact ⟨rfl, _, rfl⟩
theorem room_nil (w : World) : Calls Tryz.prog 126 #[.pointer none] w fun e w' => e = .returned (.int .i64 0) ∧ w = w' := by
  go_enter Tryz.func126, Tryz.ntmps126
  go_wp2
  go_ret
  exact ⟨rfl, rfl⟩
theorem level_any {w : World} {sb g tb cap most : Nat} {N : List Nd} (h : St w sb g tb cap most N) (x : Nat) (hx : x < 4294967296) :
    Calls Tryz.prog 36 #[.pointer (some ⟨sb, 0, none⟩), .int .u32 (x : Int)] w fun e w' => e = .returned (.int .i64 (lvZ N x)) ∧ w = w' := by
  have HS := Lib.hid h
  obtain ⟨c0, c1, c2, _⟩ := h.cells
  by_cases hl : x < N.length
  · have hg : decide (x < N.length) = true := by simpa using hl
    have hi : (x : Int) < (N.length : Int) := by omega
    have hi0 : (0 : Int) ≤ (x : Int) := by omega
    obtain ⟨_, _, _, _, s4, _⟩ := h.sq (List.getElem?_eq_getElem hl)
    rw [lv_of hl]
    generalize N[x] = n at *
    clear h
    go_enter Tryz.func36, Tryz.ntmps36
    go_wp2_with fail
    refine (is_any HS.out x hx).mono ?_
    rintro e w' ⟨rfl, rfl⟩
    go_wp2
    go_ret
    exact ⟨rfl, rfl⟩
  · have hg : decide (x < N.length) = false := by simpa using hl
    rw [lv_none (by omega)]
    clear h
    go_enter Tryz.func36, Tryz.ntmps36
    go_wp2_with fail
    refine (is_any HS.out x hx).mono ?_
    rintro e w' ⟨rfl, rfl⟩
    go_wp2
    go_ret
    exact ⟨rfl, rfl⟩
theorem level_nil (x : Nat) (hx : x < 4294967296) (w : World) : Calls Tryz.prog 36 #[.pointer none, .int .u32 (x : Int)] w fun e w' => e = .returned (.int .i64 (-1)) ∧ w = w' := by
  go_enter Tryz.func36, Tryz.ntmps36
  go_wp2_with fail
  refine (is_nil x _ hx).mono ?_
  rintro e w' ⟨rfl, rfl⟩
  go_wp2
  go_ret
  exact ⟨rfl, rfl⟩
theorem count_any {w : World} {sb g tb cap most : Nat} {N : List Nd} (h : St w sb g tb cap most N) (x : Nat) (hx : x < 4294967296) :
    Calls Tryz.prog 29 #[.pointer (some ⟨sb, 0, none⟩), .int .u32 (x : Int)] w fun e w' => e = .returned (.int .u64 (ctZ N x : Int)) ∧ w = w' := by
  have HS := Lib.hid h
  obtain ⟨c0, c1, c2, _⟩ := h.cells
  by_cases hl : x < N.length
  · have hg : decide (x < N.length) = true := by simpa using hl
    have hi : (x : Int) < (N.length : Int) := by omega
    have hi0 : (0 : Int) ≤ (x : Int) := by omega
    obtain ⟨_, _, _, _, _, s5⟩ := h.sq (List.getElem?_eq_getElem hl)
    rw [ct_of hl]
    generalize N[x] = n at *
    clear h
    go_enter Tryz.func29, Tryz.ntmps29
    go_wp2_with fail
    refine (is_any HS.out x hx).mono ?_
    rintro e w' ⟨rfl, rfl⟩
    go_wp2
    go_ret
    exact ⟨rfl, rfl⟩
  · have hg : decide (x < N.length) = false := by simpa using hl
    have hc : ctZ N x = 0 := by unfold ctZ; rw [List.getElem?_eq_none (by omega)]
    rw [hc]
    clear h
    go_enter Tryz.func29, Tryz.ntmps29
    go_wp2_with fail
    refine (is_any HS.out x hx).mono ?_
    rintro e w' ⟨rfl, rfl⟩
    go_wp2
    go_ret
    exact ⟨rfl, rfl⟩
theorem count_nil (x : Nat) (hx : x < 4294967296) (w : World) : Calls Tryz.prog 29 #[.pointer none, .int .u32 (x : Int)] w fun e w' => e = .returned (.int .u64 0) ∧ w = w' := by
  go_enter Tryz.func29, Tryz.ntmps29
  go_wp2_with fail
  refine (is_nil x _ hx).mono ?_
  rintro e w' ⟨rfl, rfl⟩
  go_wp2
  go_ret
  exact ⟨rfl, rfl⟩
/-- Four numbers in a block of the call's own. -/
def KAt (w : World) (b : Nat) (k : K4) : Prop := w.heap[b]? = some (.cells #[.int .u32 (k.1 : Int), .int .u32 (k.2.1 : Int), .int .u32 (k.2.2.1 : Int), .int .u32 (k.2.2.2 : Int)] 105 (0, 0))
theorem KAt.lt {w : World} {b : Nat} {k : K4} (h : KAt w b k) : b < w.heap.size := (Array.getElem?_eq_some_iff.1 h).1
theorem KAt.cells {w : World} {b : Nat} {k : K4} (h : KAt w b k) : w.cell? ⟨b, 0, none⟩ = some (.int .u32 (k.1 : Int)) ∧ w.cell? ⟨b, 1, none⟩ = some (.int .u32 (k.2.1 : Int)) ∧ w.cell? ⟨b, 2, none⟩ = some (.int .u32 (k.2.2.1 : Int)) ∧ w.cell? ⟨b, 3, none⟩ = some (.int .u32 (k.2.2.2 : Int)) ∧
    w.frozen? ⟨b, 0, none⟩ = false ∧ w.frozen? ⟨b, 1, none⟩ = false ∧ w.frozen? ⟨b, 2, none⟩ = false ∧ w.frozen? ⟨b, 3, none⟩ = false :=
  ⟨by rw [Lib.cell_of_heap h]; rfl, by rw [Lib.cell_of_heap h]; rfl, by rw [Lib.cell_of_heap h]; rfl, by rw [Lib.cell_of_heap h]; rfl, Lib.frozen_of_heap h 0, Lib.frozen_of_heap h 1, Lib.frozen_of_heap h 2, Lib.frozen_of_heap h 3⟩
theorem KAt.later {w w' : World} {b : Nat} {k : K4} (h : KAt w b k) (hb : Below w.heap.size w w') : KAt w' b k := by
  unfold KAt; rw [hb.block b h.lt]; exact h
theorem k_new (w : World) (k : K4) : KAt (w.alloc (.cells #[.int .u32 (k.1 : Int), .int .u32 (k.2.1 : Int), .int .u32 (k.2.2.1 : Int), .int .u32 (k.2.2.2 : Int)] 105)) w.heap.size k := heap_alloc_new w _
theorem KAt.put {w : World} {b : Nat} {k : K4} (h : KAt w b k) (d : K4) : KAt ((((w.setCell ⟨b, 0, none⟩ (.int .u32 (d.1 : Int))).setCell ⟨b, 1, none⟩ (.int .u32 (d.2.1 : Int))).setCell ⟨b, 2, none⟩ (.int .u32 (d.2.2.1 : Int))).setCell ⟨b, 3, none⟩ (.int .u32 (d.2.2.2 : Int))) b d := by
  unfold KAt at h ⊢
  simp only [World.setCell, Array.getElem?_modify, h]
  simp
/-- A result that is four numbers, written into a block behind a world. -/
theorem k_res {w W : World} {b : Nat} {k : K4} (hb : Below b w W) (h : KAt W b k) (d : K4) :
    ∃ W', ((((W.setCell ⟨b, 0, none⟩ (.int .u32 (d.1 : Int))).setCell ⟨b, 1, none⟩ (.int .u32 (d.2.1 : Int))).setCell ⟨b, 2, none⟩ (.int .u32 (d.2.2.1 : Int))).setCell ⟨b, 3, none⟩ (.int .u32 (d.2.2.2 : Int))) = W' ∧ Below b w W' ∧ KAt W' b d :=
  ⟨_, rfl, (((hb.setCell (p := ⟨b, 0, none⟩) (by simp) _).setCell (p := ⟨b, 1, none⟩) (by simp) _).setCell (p := ⟨b, 2, none⟩) (by simp) _).setCell (p := ⟨b, 3, none⟩) (by simp) _, h.put d⟩
theorem bel1 (w : World) (o : Obj) : Below w.heap.size w (w.alloc o) := (Below.refl _ w).alloc (Nat.le_refl _) o
theorem of_nil (x : Nat) (hx : x < 4294967296) (w : World) : Calls Tryz.prog 74 #[.pointer none, .int .u32 (x : Int)] w fun e w' => e = .returned (.tuple #[kv (0, 0, 0, 0), .bool false]) ∧ Below w.heap.size w w' := by
  go_enter Tryz.func74, Tryz.ntmps74
  go_wp2_with fail
  refine (level_nil x hx _).mono ?_
  rintro e w' ⟨rfl, rfl⟩
  go_wp2
  refine bodyPost_ret (v := _) (by simp [results, Tryz.results74, go_sem]; rfl) rfl ?_
  exact ⟨rfl, bel1 _ _⟩
end Go.Proofs.YtaapkngpnlnjeaaGreat
end

section
namespace Go.Proofs.YtaapkngpnlnjeaaGreat
open Go.RowKit

/-- Is a coordinate on the plane? -/
def onP (n : Int) : Bool := decide (-2305843009213693952 < n) && decide (n < 2305843009213693952)

theorem onPlane_any (n : Int) (w : World) :
    Calls Tryz.prog 63 #[.int .i64 n] w fun e w' => e = .returned (.bool (onP n)) ∧ w = w' := by
  by_cases h1 : -2305843009213693952 < n
  · have e : onP n = decide (n < 2305843009213693952) := by unfold onP; rw [decide_eq_true h1, Bool.true_and]
    rw [e]
    go_enter Tryz.func63, Tryz.ntmps63
    go_wp2
    go_ret
    exact ⟨rfl, rfl⟩
  · have e : onP n = false := by unfold onP; rw [decide_eq_false h1, Bool.false_and]
    rw [e]
    go_enter Tryz.func63, Tryz.ntmps63
    go_wp2
    go_ret
    exact ⟨rfl, rfl⟩
theorem pright_any (x y : Int) (w : World) :
    Calls Tryz.prog 30 #[.agg #[.int .i64 x, .int .i64 y]] w fun e w' => e = .returned (.bool (onP x && onP y)) ∧ Below w.heap.size w w' := by
  go_enter Tryz.func30, Tryz.ntmps30
  go_wp2_with fail
  refine (onPlane_any x _).mono ?_
  rintro e w' ⟨rfl, rfl⟩
  cases hx : onP x with
  | true =>
    go_wp2_with fail
    refine (onPlane_any y _).mono ?_
    rintro e w' ⟨rfl, rfl⟩
    go_wp2
    go_ret
    exact ⟨by rw [hx]; rfl, by go_grown⟩
  | false =>
    go_wp2
    go_ret
    exact ⟨by rw [hx]; rfl, by go_grown⟩

theorem blk_lt {w : World} {p : Addr} {v : Value} (h : w.cell? p = some v) : p.block < w.heap.size := by
  apply Classical.byContradiction
  intro hn
  simp [World.cell?, Array.getElem?_eq_none (Nat.le_of_not_lt hn)] at h
/-- Numbers in a block of the call's own. -/
def Nums (w : World) (b : Nat) (zs : List Int) : Prop := b < w.heap.size ∧ ∀ j z, zs[j]? = some z → w.cell? ⟨b, j, none⟩ = some (.int .i64 z) ∧ w.frozen? ⟨b, j, none⟩ = false
theorem Nums.later {w w' : World} {b : Nat} {zs : List Int} (h : Nums w b zs) (hb : Below w.heap.size w w') : Nums w' b zs :=
  ⟨Nat.lt_of_lt_of_le h.1 hb.size, fun j z hz => ⟨by rw [hb.cell (p := ⟨b, j, none⟩) h.1]; exact (h.2 j z hz).1, by rw [hb.frozen (p := ⟨b, j, none⟩) h.1]; exact (h.2 j z hz).2⟩⟩
theorem Nums.two {w : World} {b : Nat} {x y : Int} (h : Nums w b [x, y]) : w.cell? ⟨b, 0, none⟩ = some (.int .i64 x) ∧ w.cell? ⟨b, 1, none⟩ = some (.int .i64 y) ∧ w.frozen? ⟨b, 0, none⟩ = false ∧ w.frozen? ⟨b, 1, none⟩ = false :=
  ⟨(h.2 0 x rfl).1, (h.2 1 y rfl).1, (h.2 0 x rfl).2, (h.2 1 y rfl).2⟩
theorem Nums.four {w : World} {b : Nat} {x y X Y : Int} (h : Nums w b [x, y, X, Y]) : w.cell? ⟨b, 0, none⟩ = some (.int .i64 x) ∧ w.cell? ⟨b, 1, none⟩ = some (.int .i64 y) ∧ w.cell? ⟨b, 2, none⟩ = some (.int .i64 X) ∧ w.cell? ⟨b, 3, none⟩ = some (.int .i64 Y) ∧ w.frozen? ⟨b, 0, none⟩ = false ∧ w.frozen? ⟨b, 1, none⟩ = false ∧ w.frozen? ⟨b, 2, none⟩ = false ∧ w.frozen? ⟨b, 3, none⟩ = false :=
  ⟨(h.2 0 x rfl).1, (h.2 1 y rfl).1, (h.2 2 X rfl).1, (h.2 3 Y rfl).1, (h.2 0 x rfl).2, (h.2 1 y rfl).2, (h.2 2 X rfl).2, (h.2 3 Y rfl).2⟩
theorem pt_new (w : World) (x y : Int) (t : TypeId) : Nums (w.alloc (.cells #[.int .i64 x, .int .i64 y] t)) w.heap.size [x, y] := by
  refine ⟨by simp, fun j z hz => ?_⟩
  match j, hz with
  | 0, hz => obtain rfl : x = z := by simpa using hz
             exact ⟨by simp, by simp⟩
  | 1, hz => obtain rfl : y = z := by simpa using hz
             exact ⟨by simp, by simp⟩
  | j + 2, hz => simp at hz
theorem rc_new (w : World) (x y X Y : Int) (t : TypeId) : Nums (w.alloc (.cells #[.int .i64 x, .int .i64 y, .int .i64 X, .int .i64 Y] t)) w.heap.size [x, y, X, Y] := by
  refine ⟨by simp, fun j z hz => ?_⟩
  match j, hz with
  | 0, hz => obtain rfl : x = z := by simpa using hz
             exact ⟨by simp, by simp⟩
  | 1, hz => obtain rfl : y = z := by simpa using hz
             exact ⟨by simp, by simp⟩
  | 2, hz => obtain rfl : X = z := by simpa using hz
             exact ⟨by simp, by simp⟩
  | 3, hz => obtain rfl : Y = z := by simpa using hz
             exact ⟨by simp, by simp⟩
  | j + 4, hz => simp at hz
theorem put_two {w : World} {b B : Nat} {x y : Int} {w0 : World} (h : Nums w b [x, y]) (hb : Below B w0 w) (hB : B ≤ b) (x' y' : Int) : ∃ W, (w.setCell ⟨b, 0, none⟩ (.int .i64 x')).setCell ⟨b, 1, none⟩ (.int .i64 y') = W ∧ Below B w0 W ∧ Nums W b [x', y'] := by
  obtain ⟨c0, c1, f0, f1⟩ := h.two
  refine ⟨_, rfl, (hb.setCell (p := ⟨b, 0, none⟩) hB _).setCell (p := ⟨b, 1, none⟩) hB _, by simpa using h.1, fun j z hz => ?_⟩
  match j, hz with
  | 0, hz => obtain rfl : x' = z := by simpa using hz
             refine ⟨?_, by simpa using f0⟩
             rw [World.cell?_setCell_other _ _ _ _ (by simp)]
             exact World.cell?_setCell_same _ _ _ c0
  | 1, hz => obtain rfl : y' = z := by simpa using hz
             refine ⟨?_, by simpa using f1⟩
             exact World.cell?_setCell_same _ _ _ (by rw [World.cell?_setCell_other _ _ _ _ (by simp)]; exact c1)
  | j + 2, hz => simp at hz
theorem put_four {w : World} {b B : Nat} {x y X Y : Int} {w0 : World} (h : Nums w b [x, y, X, Y]) (hb : Below B w0 w) (hB : B ≤ b) (x' y' X' Y' : Int) : ∃ W, (((w.setCell ⟨b, 0, none⟩ (.int .i64 x')).setCell ⟨b, 1, none⟩ (.int .i64 y')).setCell ⟨b, 2, none⟩ (.int .i64 X')).setCell ⟨b, 3, none⟩ (.int .i64 Y') = W ∧ Below B w0 W ∧ Nums W b [x', y', X', Y'] := by
  obtain ⟨c0, c1, c2, c3, f0, f1, f2, f3⟩ := h.four
  refine ⟨_, rfl, (((hb.setCell (p := ⟨b, 0, none⟩) hB _).setCell (p := ⟨b, 1, none⟩) hB _).setCell (p := ⟨b, 2, none⟩) hB _).setCell (p := ⟨b, 3, none⟩) hB _, by simpa using h.1, fun j z hz => ?_⟩
  match j, hz with
  | 0, hz => obtain rfl : x' = z := by simpa using hz
             refine ⟨?_, by simpa using f0⟩
             rw [World.cell?_setCell_other _ _ _ _ (by simp), World.cell?_setCell_other _ _ _ _ (by simp), World.cell?_setCell_other _ _ _ _ (by simp)]
             exact World.cell?_setCell_same _ _ _ c0
  | 1, hz => obtain rfl : y' = z := by simpa using hz
             refine ⟨?_, by simpa using f1⟩
             rw [World.cell?_setCell_other _ _ _ _ (by simp), World.cell?_setCell_other _ _ _ _ (by simp)]
             exact World.cell?_setCell_same _ _ _ (by rw [World.cell?_setCell_other _ _ _ _ (by simp)]; exact c1)
  | 2, hz => obtain rfl : X' = z := by simpa using hz
             refine ⟨?_, by simpa using f2⟩
             rw [World.cell?_setCell_other _ _ _ _ (by simp)]
             exact World.cell?_setCell_same _ _ _ (by rw [World.cell?_setCell_other _ _ _ _ (by simp), World.cell?_setCell_other _ _ _ _ (by simp)]; exact c2)
  | 3, hz => obtain rfl : Y' = z := by simpa using hz
             refine ⟨?_, by simpa using f3⟩
             exact World.cell?_setCell_same _ _ _ (by rw [World.cell?_setCell_other _ _ _ _ (by simp), World.cell?_setCell_other _ _ _ _ (by simp), World.cell?_setCell_other _ _ _ _ (by simp)]; exact c3)
  | j + 4, hz => simp at hz

theorem row_four (w : World) (x y X Y : Int) (t : TypeId) : ∀ j z, [x, y, X, Y][j]? = some z → (w.alloc (.cells #[.int .i64 x, .int .i64 y, .int .i64 X, .int .i64 Y] t)).cell? ⟨w.heap.size, j, none⟩ = some (.int .i64 z) := fun j z hz => ((rc_new w x y X Y t).2 j z hz).1
theorem has_any (x y X Y a b : Int) (w : World) :
    Calls Tryz.prog 15 #[.agg #[.int .i64 x, .int .i64 y, .int .i64 X, .int .i64 Y], .agg #[.int .i64 a, .int .i64 b]] w fun e w' => e = .returned (.bool (decide (x ≤ a) && decide (a < X) && decide (y ≤ b) && decide (b < Y))) ∧ Below w.heap.size w w' := by
  by_cases h1 : x ≤ a
  · by_cases h2 : a < X
    · by_cases h3 : y ≤ b
      · rw [decide_eq_true h1, decide_eq_true h2, decide_eq_true h3, Bool.true_and, Bool.true_and]
        go_enter Tryz.func15, Tryz.ntmps15
        go_wp2
        go_ret
        exact ⟨rfl, by go_grown⟩
      · rw [decide_eq_true h1, decide_eq_true h2, decide_eq_false h3, Bool.true_and, Bool.true_and]
        go_enter Tryz.func15, Tryz.ntmps15
        go_wp2
        go_ret
        exact ⟨rfl, by go_grown⟩
    · rw [decide_eq_true h1, decide_eq_false h2, Bool.true_and, Bool.false_and]
      go_enter Tryz.func15, Tryz.ntmps15
      go_wp2
      go_ret
      exact ⟨rfl, by go_grown⟩
  · rw [decide_eq_false h1, Bool.false_and, Bool.false_and]
    go_enter Tryz.func15, Tryz.ntmps15
    go_wp2
    go_ret
    exact ⟨rfl, by go_grown⟩
end Go.Proofs.YtaapkngpnlnjeaaGreat
end
