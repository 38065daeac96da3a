/- The least rectangle of a square's living cells: plain mathematics, no program. -/
import Derived.Test.YtfohkbgacpokoaaS8
namespace Go.Proofs.Ytfohkbgacpokoaa

def zeR : R4 := ⟨0, 0, 0, 0⟩
def orR (a b : R4) : R4 := if a.no then (if b.no then zeR else b) else if b.no then a else ⟨min a.x b.x, min a.y b.y, max a.X b.X, max a.Y b.Y⟩
def mvR (a : R4) (p q : Int) : R4 := ⟨a.x + p, a.y + q, a.X + p, a.Y + q⟩
def bxJ (n : Nat) (f : Nat → R4) : Nat → R4
  | 0 => zeR
  | i + 1 => orR (bxJ n f i) (mvR (f i) (off n (decide (i % 2 = 1))) (off n (decide (2 ≤ i))))
def bxZ (N : List Nd) : Nat → Nat → R4
  | 0, x => if ctZ N x = 0 then zeR else ⟨0, 0, 1, 1⟩
  | n + 1, x => if ctZ N x = 0 then zeR else bxJ n (fun i => bxZ N n (kAt (kidZ N x) i)) 4
/-- All cells are in a rectangle, and each of its sides has one. -/
structure IsB (S : Int → Int → Prop) (b : R4) : Prop where
  has : ∀ X Y, S X Y → b.has X Y = true
  ends : (∃ X Y, S X Y) → (∃ Y, S b.x Y) ∧ (∃ Y, S (b.X - 1) Y) ∧ (∃ X, S X b.y) ∧ (∃ X, S X (b.Y - 1))
  no : (∀ X Y, ¬ S X Y) → b.no = true
theorem IsB.some {S : Int → Int → Prop} {b : R4} (h : IsB S b) (hb : b.no = false) : ∃ X Y, S X Y := by
  apply Classical.byContradiction
  intro hc
  have := h.no fun X Y hs => hc ⟨X, Y, hs⟩
  rw [hb] at this
  cases this
theorem IsB.none {S : Int → Int → Prop} {b : R4} (h : IsB S b) (hb : b.no = true) (X Y : Int) : ¬ S X Y := fun hs => by
  have := h.has X Y hs
  rw [R4.has_no hb] at this
  cases this
theorem IsB.of {S T : Int → Int → Prop} {b : R4} (h : IsB S b) (hst : ∀ X Y, S X Y ↔ T X Y) : IsB T b := by
  have : S = T := by
    funext X Y
    exact propext (hst X Y)
  exact this ▸ h
theorem IsB.uniq {S : Int → Int → Prop} {a b : R4} (ha : IsB S a) (hb : IsB S b) (hs : ∃ X Y, S X Y) : a = b := by
  obtain ⟨⟨y1, p1⟩, ⟨y2, p2⟩, ⟨x3, p3⟩, ⟨x4, p4⟩⟩ := ha.ends hs
  obtain ⟨⟨z1, q1⟩, ⟨z2, q2⟩, ⟨w3, q3⟩, ⟨w4, q4⟩⟩ := hb.ends hs
  have a1 := R4.has_iff.1 (hb.has _ _ p1)
  have a2 := R4.has_iff.1 (hb.has _ _ p2)
  have a3 := R4.has_iff.1 (hb.has _ _ p3)
  have a4 := R4.has_iff.1 (hb.has _ _ p4)
  have b1 := R4.has_iff.1 (ha.has _ _ q1)
  have b2 := R4.has_iff.1 (ha.has _ _ q2)
  have b3 := R4.has_iff.1 (ha.has _ _ q3)
  have b4 := R4.has_iff.1 (ha.has _ _ q4)
  obtain ⟨ax, ay, aX, aY⟩ := a
  obtain ⟨bx, by', bX, bY⟩ := b
  simp only at *
  congr 1 <;> omega
theorem isB_zero {S : Int → Int → Prop} (h : ∀ X Y, ¬ S X Y) : IsB S zeR := ⟨fun X Y hs => absurd hs (h X Y), fun ⟨X, Y, hs⟩ => absurd hs (h X Y), fun _ => by decide⟩
theorem isB_or {S T : Int → Int → Prop} {a b : R4} (ha : IsB S a) (hb : IsB T b) : IsB (fun X Y => S X Y ∨ T X Y) (orR a b) := by
  unfold orR
  cases h1 : a.no
  · obtain ⟨⟨y1, p1⟩, ⟨y2, p2⟩, ⟨x3, p3⟩, ⟨x4, p4⟩⟩ := ha.ends (ha.some h1)
    cases h2 : b.no
    · obtain ⟨⟨z1, q1⟩, ⟨z2, q2⟩, ⟨w3, q3⟩, ⟨w4, q4⟩⟩ := hb.ends (hb.some h2)
      simp only [Bool.false_eq_true, if_false]
      refine ⟨fun X Y hs => ?_, fun _ => ⟨?_, ?_, ?_, ?_⟩, fun hn => absurd (Or.inl p1) (hn _ _)⟩
      · rw [R4.has_iff]
        rcases hs with hs | hs
        · have := R4.has_iff.1 (ha.has _ _ hs)
          simp only; omega
        · have := R4.has_iff.1 (hb.has _ _ hs)
          simp only; omega
      · simp only
        by_cases h : a.x ≤ b.x
        · exact ⟨y1, Or.inl (by rw [Int.min_eq_left h]; exact p1)⟩
        · exact ⟨z1, Or.inr (by rw [Int.min_eq_right (by omega)]; exact q1)⟩
      · simp only
        by_cases h : a.X ≤ b.X
        · exact ⟨z2, Or.inr (by rw [Int.max_eq_right h]; exact q2)⟩
        · exact ⟨y2, Or.inl (by rw [Int.max_eq_left (by omega)]; exact p2)⟩
      · simp only
        by_cases h : a.y ≤ b.y
        · exact ⟨x3, Or.inl (by rw [Int.min_eq_left h]; exact p3)⟩
        · exact ⟨w3, Or.inr (by rw [Int.min_eq_right (by omega)]; exact q3)⟩
      · simp only
        by_cases h : a.Y ≤ b.Y
        · exact ⟨w4, Or.inr (by rw [Int.max_eq_right h]; exact q4)⟩
        · exact ⟨x4, Or.inl (by rw [Int.max_eq_left (by omega)]; exact p4)⟩
    · simp only [Bool.false_eq_true, if_false, if_true]
      exact ha.of fun X Y => ⟨Or.inl, fun h => h.resolve_right (hb.none h2 X Y)⟩
  · cases h2 : b.no
    · simp only [Bool.false_eq_true, if_false, if_true]
      exact hb.of fun X Y => ⟨Or.inr, fun h => h.resolve_left (ha.none h1 X Y)⟩
    · simp only [if_true]
      exact isB_zero fun X Y h => h.elim (ha.none h1 X Y) (hb.none h2 X Y)
theorem isB_mv {S : Int → Int → Prop} {a : R4} (h : IsB S a) (p q : Int) : IsB (fun X Y => S (X - p) (Y - q)) (mvR a p q) := by
  have hno : (mvR a p q).no = a.no := by
    rw [Bool.eq_iff_iff, R4.no_iff, R4.no_iff]
    simp only [mvR]; omega
  refine ⟨fun X Y hs => ?_, fun ⟨X, Y, hs⟩ => ?_, fun hn => ?_⟩
  · have := R4.has_iff.1 (h.has _ _ hs)
    rw [R4.has_iff]
    simp only [mvR]; omega
  · obtain ⟨⟨y1, p1⟩, ⟨y2, p2⟩, ⟨x3, p3⟩, ⟨x4, p4⟩⟩ := h.ends ⟨_, _, hs⟩
    simp only [mvR]
    exact ⟨⟨y1 + q, by rw [Int.add_sub_cancel, Int.add_sub_cancel]; exact p1⟩, ⟨y2 + q, by rw [show a.X + p - 1 - p = a.X - 1 by omega, Int.add_sub_cancel]; exact p2⟩, ⟨x3 + p, by rw [Int.add_sub_cancel, Int.add_sub_cancel]; exact p3⟩, ⟨x4 + p, by rw [show a.Y + q - 1 - q = a.Y - 1 by omega, Int.add_sub_cancel]; exact p4⟩⟩
  · rw [hno]
    refine h.no fun X Y hs => hn (X + p) (Y + q) ?_
    rw [Int.add_sub_cancel, Int.add_sub_cancel]
    exact hs
/-- A living cell of a square. -/
def livP (N : List Nd) (n x : Nat) (X Y : Int) : Prop := (0 ≤ X ∧ X < 2 ^ n) ∧ (0 ≤ Y ∧ Y < 2 ^ n) ∧ getZ N n x X Y = 1
theorem liv_kid {N : List Nd} {n x : Nat} (a b : Bool) (X Y : Int) : livP N n (pick (kidZ N x) a b) (X - off n a) (Y - off n b) ↔ livP N (n + 1) x X Y ∧ qb n X = a ∧ qb n Y = b := by
  unfold livP
  have e : ∀ (Z : Int) (c : Bool), (0 ≤ Z - off n c ∧ Z - off n c < 2 ^ n) ↔ (0 ≤ Z ∧ Z < 2 ^ (n + 1) ∧ qb n Z = c) := fun Z c => rng_off n c Z
  rw [e X a, e Y b, get_off]
  constructor
  · rintro ⟨⟨h1, h2, rfl⟩, ⟨h3, h4, rfl⟩, h5⟩
    exact ⟨⟨⟨h1, h2⟩, ⟨h3, h4⟩, h5⟩, rfl, rfl⟩
  · rintro ⟨⟨⟨h1, h2⟩, ⟨h3, h4⟩, h5⟩, rfl, rfl⟩
    exact ⟨⟨h1, h2, rfl⟩, ⟨h3, h4, rfl⟩, h5⟩
theorem pl_dec (a b : Bool) : decide (pl a b % 2 = 1) = a ∧ decide (2 ≤ pl a b) = b := by cases a <;> cases b <;> decide
theorem bx_step {N : List Nd} {n x : Nat} (ih : ∀ a b, IsB (livP N n (pick (kidZ N x) a b)) (bxZ N n (pick (kidZ N x) a b))) :
    ∀ i, i ≤ 4 → IsB (fun X Y => livP N (n + 1) x X Y ∧ pl (qb n X) (qb n Y) < i) (bxJ n (fun i => bxZ N n (kAt (kidZ N x) i)) i)
  | 0, _ => isB_zero fun X Y h => by omega
  | i + 1, hi => by
    obtain ⟨a, b, rfl⟩ := pl_of (show i < 4 by omega)
    have h1 := bx_step ih (pl a b) (by omega)
    have h2 := isB_mv (ih a b) (off n a) (off n b)
    unfold bxJ
    rw [(pl_dec a b).1, (pl_dec a b).2, ← pick_kAt]
    refine (isB_or h1 h2).of fun X Y => ?_
    rw [liv_kid]
    constructor
    · rintro (⟨h3, h4⟩ | ⟨h3, rfl, rfl⟩)
      · exact ⟨h3, by omega⟩
      · exact ⟨h3, by omega⟩
    · rintro ⟨h3, h4⟩
      rcases Nat.lt_or_ge (pl (qb n X) (qb n Y)) (pl a b) with h5 | h5
      · exact Or.inl ⟨h3, h5⟩
      · exact Or.inr ⟨h3, pl_inj.1 (show pl (qb n X) (qb n Y) = pl a b by omega)⟩
theorem bx_is {N : List Nd} (hw : Wf N) : ∀ {n x : Nat}, Sq N n x → IsB (livP N n x) (bxZ N n x)
  | 0, x, hx => by
    unfold bxZ
    split
    · rename_i h0
      refine isB_zero fun X Y hs => ?_
      have := (ct_zero hw hx).1 h0 X Y
      have := hs.2.2
      omega
    · rename_i h0
      have hx1 : x = 1 := by
        rcases hx.zero hw with rfl | rfl
        · exact absurd ((ct_zero hw hx).2 fun _ _ => rfl) h0
        · rfl
      have hc : ∀ X Y, livP N 0 x X Y ↔ X = 0 ∧ Y = 0 := fun X Y => by
        unfold livP
        have e : (2 : Int) ^ 0 = 1 := rfl
        rw [e]
        constructor
        · rintro ⟨h1, h2, _⟩; omega
        · rintro ⟨rfl, rfl⟩
          exact ⟨by omega, by omega, hx1⟩
      refine ⟨fun X Y hs => ?_, fun _ => ?_, fun hn => absurd ((hc 0 0).2 ⟨rfl, rfl⟩) (hn _ _)⟩
      · obtain ⟨rfl, rfl⟩ := (hc X Y).1 hs
        decide
      · simp only [hc]
        refine ⟨⟨0, ?_⟩, ⟨0, ?_⟩, ⟨0, ?_⟩, ⟨0, ?_⟩⟩ <;> simp
  | n + 1, x, hx => by
    unfold bxZ
    split
    · rename_i h0
      refine isB_zero fun X Y hs => ?_
      have := (ct_zero hw hx).1 h0 X Y
      have := hs.2.2
      omega
    · refine (bx_step (fun a b => bx_is hw (hx.kid hw a b)) 4 (Nat.le_refl _)).of fun X Y => ?_
      have := pl_lt (qb n X) (qb n Y)
      exact ⟨fun h => h.1, fun h => ⟨h, this⟩⟩
/-- Its coordinates are within the square. -/
def RB (n : Nat) (b : R4) : Prop := (0 ≤ b.x ∧ b.x ≤ 2 ^ n) ∧ (0 ≤ b.y ∧ b.y ≤ 2 ^ n) ∧ (0 ≤ b.X ∧ b.X ≤ 2 ^ n) ∧ 0 ≤ b.Y ∧ b.Y ≤ 2 ^ n
theorem rb_zero (n : Nat) : RB n zeR := by
  have := pow_pos2 n
  unfold RB zeR; simp only; omega
theorem rb_or {n : Nat} {a b : R4} (ha : RB n a) (hb : RB n b) : RB n (orR a b) := by
  unfold orR
  split
  · split
    · exact rb_zero n
    · exact hb
  · split
    · exact ha
    · unfold RB at *; simp only; omega
theorem rb_mv {n : Nat} {a : R4} (ha : RB n a) (c d : Bool) : RB (n + 1) (mvR a (off n c) (off n d)) := by
  have h1 := off_rng n c
  have h2 := off_rng n d
  have h3 := pow_two2 n
  unfold RB mvR at *; simp only; omega
theorem rb_bx (N : List Nd) : ∀ (n x : Nat), RB n (bxZ N n x)
  | 0, x => by
    unfold bxZ
    split
    · exact rb_zero 0
    · have e : (2 : Int) ^ 0 = 1 := rfl
      unfold RB; simp only; omega
  | n + 1, x => by
    unfold bxZ
    split
    · exact rb_zero _
    · have : ∀ i, RB (n + 1) (bxJ n (fun i => bxZ N n (kAt (kidZ N x) i)) i) := fun i => by
        induction i with
        | zero => exact rb_zero _
        | succ i ih => exact rb_or ih (rb_mv (rb_bx N n _) _ _)
      exact this 4
theorem rb_bxJ (N : List Nd) (n x : Nat) : ∀ i, RB (n + 1) (bxJ n (fun i => bxZ N n (kAt (kidZ N x) i)) i)
  | 0 => rb_zero _
  | i + 1 => rb_or (rb_bxJ N n x i) (rb_mv (rb_bx N n _) _ _)
end Go.Proofs.Ytfohkbgacpokoaa
