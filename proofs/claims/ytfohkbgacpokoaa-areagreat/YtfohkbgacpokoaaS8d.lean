/- How many squares a rectangle's plane needs; its box, its cells: mathematics. -/
import Derived.Test.YtfohkbgacpokoaaBxo
namespace Go.Proofs.Ytfohkbgacpokoaa
open Go.RowKit

/-- Where a piece of a square may lie. -/
def Al (n j : Nat) (A B : Int) : Prop := j ≤ n ∧ (0 ≤ A ∧ A + 2 ^ j ≤ 2 ^ n ∧ A % 2 ^ j = 0) ∧ (0 ≤ B ∧ B + 2 ^ j ≤ 2 ^ n ∧ B % 2 ^ j = 0)
/-- As many squares are new as there are pieces that differ. -/
theorem new8_le {N N' : List Nd} {n : Nat} {f : Int → Int → Nat} (hw : Wf N') (h : New8 N n f N') (code : Nat → Int → Int → Nat) (M : Nat) (hM : ∀ j A B, Al n j A B → code j A B < M)
    (hc : ∀ j A B j' A' B', Al n j A B → Al n j' A' B' → code j A B = code j' A' B' → j = j' ∧ ∀ X Y, 0 ≤ X ∧ X < 2 ^ j → 0 ≤ Y ∧ Y < 2 ^ j → f (X + A) (Y + B) = f (X + A') (Y + B')) : N'.length ≤ N.length + M := by
  have hp : ∀ y, ∃ c : Nat, N.length ≤ y → y < N'.length → ∃ j A B, Al n j A B ∧ Con N' j y (fun X Y => f (X + A) (Y + B)) ∧ c = code j A B := fun y => by
    by_cases hy : N.length ≤ y ∧ y < N'.length
    · obtain ⟨j, A, B, h1, h2, h3, h4⟩ := h.2 y hy.1 hy.2
      exact ⟨code j A B, fun _ _ => ⟨j, A, B, ⟨h1, h2, h3⟩, h4, rfl⟩⟩
    · exact ⟨0, fun a b => absurd ⟨a, b⟩ hy⟩
  obtain ⟨κ, hκ⟩ := Classical.axiomOfChoice hp
  obtain ⟨E, hE⟩ := h.1
  have hl : N'.length = N.length + E.length := by rw [hE, List.length_append]
  have hmem : ∀ y, y ∈ (List.range E.length).map (· + N.length) → N.length ≤ y ∧ y < N'.length := fun y hy => by
    obtain ⟨i, hi, rfl⟩ := List.mem_map.1 hy
    have := List.mem_range.1 hi
    omega
  have hnd : ((List.range E.length).map (· + N.length)).Nodup := map_nodup List.nodup_range fun x _ y _ e => by omega
  have h1 := nat_few M (((List.range E.length).map (· + N.length)).map κ) (map_nodup hnd fun x hx y hy e => by
    obtain ⟨x1, x2⟩ := hmem x hx
    obtain ⟨y1, y2⟩ := hmem y hy
    obtain ⟨j, A, B, a1, a2, a3⟩ := hκ x x1 x2
    obtain ⟨j', A', B', b1, b2, b3⟩ := hκ y y1 y2
    obtain ⟨rfl, hf⟩ := hc j A B j' A' B' a1 b1 (by rw [← a3, ← b3]; exact e)
    exact (a2.of fun X Y hX hY => hf X Y hX hY).inj hw b2) (fun c hc' => by
    obtain ⟨y, hy, rfl⟩ := List.mem_map.1 hc'
    obtain ⟨y1, y2⟩ := hmem y hy
    obtain ⟨j, A, B, a1, a2, a3⟩ := hκ y y1 y2
    rw [a3]; exact hM j A B a1)
  simp only [List.length_map, List.length_range] at h1
  omega
/-- Squares that are all alike. -/
theorem new8_flat {N N' : List Nd} {n : Nat} {f : Int → Int → Nat} (hw : Wf N') (h : New8 N n f N') (v : Nat) (hf : ∀ X Y, 0 ≤ X ∧ X < 2 ^ n → 0 ≤ Y ∧ Y < 2 ^ n → f X Y = v) : N'.length ≤ N.length + (n + 1) := by
  refine new8_le hw h (fun j _ _ => j) (n + 1) (fun j A B ha => by have := ha.1; omega) (fun j A B j' A' B' ha hb e => ?_)
  subst e
  refine ⟨rfl, fun X Y hX hY => ?_⟩
  obtain ⟨_, a2, a3⟩ := ha
  obtain ⟨_, b2, b3⟩ := hb
  rw [hf _ _ (by omega) (by omega), hf _ _ (by omega) (by omega)]
theorem cut_lo {j : Nat} {P A A' X : Int} (_ : 0 ≤ X ∧ X < 2 ^ j) (ha : A % 2 ^ j = 0) (hb : A' % 2 ^ j = 0) (h : decide (P ≤ A) = decide (P ≤ A')) (h1 : P < A + 2 ^ j) (h2 : P < A' + 2 ^ j) : (P ≤ X + A ↔ P ≤ X + A') := by
  have hp := pow_pos2 j
  rw [decide_eq_decide] at h
  by_cases hPA : P ≤ A
  · have := h.1 hPA; omega
  · have hPB : ¬ P ≤ A' := fun e => hPA (h.2 e)
    have e1 : P % 2 ^ j = P - A := by
      have : (P - A) % 2 ^ j = P % 2 ^ j := by rw [Int.sub_emod, ha]; simp
      rw [← this]; exact Int.emod_eq_of_lt (by omega) (by omega)
    have e2 : P % 2 ^ j = P - A' := by
      have : (P - A') % 2 ^ j = P % 2 ^ j := by rw [Int.sub_emod, hb]; simp
      rw [← this]; exact Int.emod_eq_of_lt (by omega) (by omega)
    omega
theorem cut_hi {j : Nat} {P A A' X : Int} (_ : 0 ≤ X ∧ X < 2 ^ j) (ha : A % 2 ^ j = 0) (hb : A' % 2 ^ j = 0) (h : decide (A + 2 ^ j ≤ P) = decide (A' + 2 ^ j ≤ P)) (h1 : A < P) (h2 : A' < P) : (X + A < P ↔ X + A' < P) := by
  have hp := pow_pos2 j
  rw [decide_eq_decide] at h
  by_cases hPA : A + 2 ^ j ≤ P
  · have := h.1 hPA; omega
  · have hPB : ¬ A' + 2 ^ j ≤ P := fun e => hPA (h.2 e)
    have e1 : P % 2 ^ j = P - A := by
      have : (P - A) % 2 ^ j = P % 2 ^ j := by rw [Int.sub_emod, ha]; simp
      rw [← this]; exact Int.emod_eq_of_lt (by omega) (by omega)
    have e2 : P % 2 ^ j = P - A' := by
      have : (P - A') % 2 ^ j = P % 2 ^ j := by rw [Int.sub_emod, hb]; simp
      rw [← this]; exact Int.emod_eq_of_lt (by omega) (by omega)
    omega
/-- Does a piece have points of a rectangle? -/
def mt (r : R4) (j : Nat) (A B : Int) : Bool := decide (r.x < A + 2 ^ j) && decide (A < r.X) && (decide (r.y < B + 2 ^ j) && decide (B < r.Y))
def codeR (r : R4) (j : Nat) (A B : Int) : Nat := j * 32 + (if mt r j A B then b2n (decide (r.x ≤ A)) + 2 * (b2n (decide (A + 2 ^ j ≤ r.X)) + 2 * (b2n (decide (r.y ≤ B)) + 2 * b2n (decide (B + 2 ^ j ≤ r.Y)))) else 16)
/-- A rectangle on a plane without living cells. -/
theorem new8_rect {N N' : List Nd} {n : Nat} {f : Int → Int → Nat} (hw : Wf N') (h : New8 N n f N') (r : R4) (c : Nat) (hf : ∀ X Y, 0 ≤ X ∧ X < 2 ^ n → 0 ≤ Y ∧ Y < 2 ^ n → f X Y = if r.has X Y then c else 0) : N'.length ≤ N.length + (n + 1) * 32 := by
  refine new8_le hw h (codeR r) ((n + 1) * 32) (fun j A B ha => ?_) (fun j A B j' A' B' ha hb e => ?_)
  · have := ha.1
    unfold codeR
    have h1 := b2n_le (decide (r.x ≤ A))
    have h2 := b2n_le (decide (A + 2 ^ j ≤ r.X))
    have h3 := b2n_le (decide (r.y ≤ B))
    have h4 := b2n_le (decide (B + 2 ^ j ≤ r.Y))
    split <;> omega
  · unfold codeR at e
    have a1 := b2n_le (decide (r.x ≤ A))
    have a2 := b2n_le (decide (A + 2 ^ j ≤ r.X))
    have a3 := b2n_le (decide (r.y ≤ B))
    have a4 := b2n_le (decide (B + 2 ^ j ≤ r.Y))
    have b1 := b2n_le (decide (r.x ≤ A'))
    have b2 := b2n_le (decide (A' + 2 ^ j' ≤ r.X))
    have b3 := b2n_le (decide (r.y ≤ B'))
    have b4 := b2n_le (decide (B' + 2 ^ j' ≤ r.Y))
    have hj : j = j' := by split at e <;> split at e <;> omega
    subst hj
    refine ⟨rfl, fun X Y hX hY => ?_⟩
    obtain ⟨g1, g2, g3⟩ := ha
    obtain ⟨k1, k2, k3⟩ := hb
    rw [hf _ _ (by omega) (by omega), hf _ _ (by omega) (by omega)]
    have key : r.has (X + A) (Y + B) = r.has (X + A') (Y + B') := by
      cases m1 : mt r j A B <;> cases m2 : mt r j A' B' <;> rw [m1, m2] at e <;> simp only [if_true, if_false, Bool.false_eq_true] at e
      · have z : ∀ A B, mt r j A B = false → ¬ (r.has (X + A) (Y + B) = true) := fun A B hm hh => by
          rw [R4.has_iff] at hh
          have : mt r j A B = true := by
            unfold mt
            simp only [Bool.and_eq_true, decide_eq_true_eq]
            omega
          rw [hm] at this; cases this
        rw [Bool.eq_iff_iff]
        exact ⟨fun hh => absurd hh (z A B m1), fun hh => absurd hh (z A' B' m2)⟩
      · omega
      · omega
      · unfold mt at m1 m2
        simp only [Bool.and_eq_true, decide_eq_true_eq] at m1 m2
        have e1 := b2n_inj (show b2n (decide (r.x ≤ A)) = b2n (decide (r.x ≤ A')) by omega)
        have e2 := b2n_inj (show b2n (decide (A + 2 ^ j ≤ r.X)) = b2n (decide (A' + 2 ^ j ≤ r.X)) by omega)
        have e3 := b2n_inj (show b2n (decide (r.y ≤ B)) = b2n (decide (r.y ≤ B')) by omega)
        have e4 := b2n_inj (show b2n (decide (B + 2 ^ j ≤ r.Y)) = b2n (decide (B' + 2 ^ j ≤ r.Y)) by omega)
        rw [Bool.eq_iff_iff, R4.has_iff, R4.has_iff, cut_lo hX g2.2.2 k2.2.2 e1 m1.1.1 m2.1.1, cut_hi hX g2.2.2 k2.2.2 e2 m1.1.2 m2.1.2, cut_lo hY g3.2.2 k3.2.2 e3 m1.2.1 m2.2.1, cut_hi hY g3.2.2 k3.2.2 e4 m1.2.2 m2.2.2]
    rw [key]
theorem shR_has (r : R4) (n : Nat) (a b : Int) : (shR r n).has (a + 2 ^ n) (b + 2 ^ n) = r.has a b := by
  rw [Bool.eq_iff_iff, R4.has_iff, R4.has_iff]
  unfold shR; simp only; omega
/-- The cells of a plane that was filled. -/
theorem al_fill {N N' : List Nd} {n0 n x y c : Nat} {r : R4} (hn : n0 ≤ n) (hr : inR n r) (h : Con N' (n + 1) y (Fp N n0 (kidZ N x) n (shR r n) c)) (a b : Int) : alK N' n (kidZ N' y) a b = if r.has a b then c == 1 else alK N n0 (kidZ N x) a b := by
  rw [al_con h]
  unfold Fp
  rw [shR_has, Int.add_sub_cancel, Int.add_sub_cancel]
  cases hh : r.has a b
  · cases ha : alK N n0 (kidZ N x) a b
    · simp
    · have hin : (inS n0 a && inS n0 b) = true := by
        unfold alK at ha
        simp only [Bool.and_eq_true] at ha ⊢
        exact ha.1
      rw [Bool.and_eq_true] at hin
      rw [inS_mono hn hin.1, inS_mono hn hin.2]
      simp
  · have := R4.has_iff.1 hh
    obtain ⟨⟨h1, h2⟩, h3, h4⟩ := hr
    rw [show inS n a = true by rw [inS_iff]; omega, show inS n b = true by rw [inS_iff]; omega]
    simp
theorem liv_al {N : List Nd} {n x : Nat} (X Y : Int) : livP N (n + 1) x (X - -2 ^ n) (Y - -2 ^ n) ↔ alK N n (kidZ N x) X Y = true := by
  have h2 := pow_two2 n
  rw [al_root]
  unfold livP
  simp only [Bool.and_eq_true, inS_iff, beq_iff_eq, Int.sub_neg]
  constructor
  · rintro ⟨a, b, c⟩
    exact ⟨⟨by omega, by omega⟩, c⟩
  · rintro ⟨⟨a, b⟩, c⟩
    exact ⟨by omega, by omega, c⟩
theorem isB_plane {N : List Nd} (hw : Wf N) {n x : Nat} (hx : Sq N (n + 1) x) : IsB (fun X Y => alK N n (kidZ N x) X Y = true) (mvR (bxZ N (n + 1) x) (-2 ^ n) (-2 ^ n)) :=
  (isB_mv (bx_is hw hx) (-2 ^ n) (-2 ^ n)).of liv_al
theorem isB_rect {r : R4} (hr : r.no = false) : IsB (fun X Y => r.has X Y = true) r := by
  have hlt := R4.no_not.1 hr
  refine ⟨fun X Y h => h, fun _ => ⟨⟨r.y, ?_⟩, ⟨r.y, ?_⟩, ⟨r.x, ?_⟩, ⟨r.x, ?_⟩⟩, fun h => absurd (R4.has_iff.2 ⟨⟨Int.le_refl r.x, hlt.1⟩, Int.le_refl r.y, hlt.2⟩) (h _ _)⟩ <;> rw [R4.has_iff] <;> omega
theorem ct_al {N : List Nd} (hw : Wf N) {n x : Nat} (hx : Sq N (n + 1) x) : ctZ N x = 0 ↔ ∀ a b, alK N n (kidZ N x) a b = false := by
  rw [ct_zero hw hx]
  constructor
  · intro h a b
    rw [al_root, h]; simp
  · intro h X Y
    rw [← get_mod N (n + 1) x X Y]
    have hp := pow_pos2 (n + 1)
    have h2 := pow_two2 n
    have e0 := Int.emod_nonneg X (show (2 : Int) ^ (n + 1) ≠ 0 by omega)
    have e1 := Int.emod_lt_of_pos X hp
    have e2 := Int.emod_nonneg Y (show (2 : Int) ^ (n + 1) ≠ 0 by omega)
    have e3 := Int.emod_lt_of_pos Y hp
    generalize X % 2 ^ (n + 1) = P at *
    generalize Y % 2 ^ (n + 1) = Q at *
    have := h (P - 2 ^ n) (Q - 2 ^ n)
    rw [al_root, Int.sub_add_cancel, Int.sub_add_cancel, show inS n (P - 2 ^ n) = true by rw [inS_iff]; omega, show inS n (Q - 2 ^ n) = true by rw [inS_iff]; omega] at this
    rcases get_cell hw hx P Q with e | e
    · exact e
    · rw [e] at this; simp at this
/-- The box of a plane whose cells are a rectangle. -/
theorem bx_rect {N : List Nd} (hw : Wf N) {n x : Nat} (hx : Sq N (n + 1) x) {r : R4} (hr : r.no = false) (h : ∀ a b, alK N n (kidZ N x) a b = r.has a b) : bxP N n x = r ∧ ctZ N x ≠ 0 := by
  have hlt := R4.no_not.1 hr
  have hin : r.has r.x r.y = true := R4.has_iff.2 ⟨⟨Int.le_refl _, hlt.1⟩, Int.le_refl _, hlt.2⟩
  have hne : ctZ N x ≠ 0 := fun e => by
    have := (ct_al hw hx).1 e r.x r.y
    rw [h, hin] at this; cases this
  refine ⟨?_, hne⟩
  unfold bxP
  rw [if_neg hne]
  refine (isB_plane hw hx).uniq ((isB_rect hr).of fun X Y => by rw [h]) ⟨r.x, r.y, by rw [h]; exact hin⟩
end Go.Proofs.Ytfohkbgacpokoaa
