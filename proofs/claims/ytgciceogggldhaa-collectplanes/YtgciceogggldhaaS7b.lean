/- Planes as squares of a store: how many cells are alive; another cell: plain mathematics, no program. -/
import Derived.Test.YtgciceogggldhaaS7
namespace Go.Proofs.Ytgciceogggldhaa

def off (n : Nat) (r : Bool) : Int := if r then 2 ^ n else 0
def sh (dx dy : Int) (l : List (Int × Int)) : List (Int × Int) := l.map fun p => (p.1 + dx, p.2 + dy)
/-- The living cells of a square, from its corner on. -/
def cellsQ (N : List Nd) : Nat → Nat → List (Int × Int)
  | 0, x => if x = 1 then [(0, 0)] else []
  | n + 1, x => sh (off n false) (off n false) (cellsQ N n (pick (kidZ N x) false false)) ++ (sh (off n true) (off n false) (cellsQ N n (pick (kidZ N x) true false)) ++ (sh (off n false) (off n true) (cellsQ N n (pick (kidZ N x) false true)) ++ sh (off n true) (off n true) (cellsQ N n (pick (kidZ N x) true true))))
theorem mem_sh {dx dy X Y : Int} {l : List (Int × Int)} : (X, Y) ∈ sh dx dy l ↔ (X - dx, Y - dy) ∈ l := by
  unfold sh
  rw [List.mem_map]
  constructor
  · rintro ⟨⟨a, b⟩, h, e⟩
    simp only [Prod.mk.injEq] at e
    rw [show X - dx = a by omega, show Y - dy = b by omega]
    exact h
  · intro h
    exact ⟨_, h, by simp⟩
theorem rng_off (n : Nat) (r : Bool) (X : Int) : (0 ≤ X - off n r ∧ X - off n r < 2 ^ n) ↔ (0 ≤ X ∧ X < 2 ^ (n + 1) ∧ qb n X = r) := by
  have hp := pow_pos2 n
  have h2 := pow_two2 n
  cases r
  · simp only [off, Bool.false_eq_true, if_false]
    constructor
    · rintro ⟨h0, h1⟩
      exact ⟨by omega, by omega, qb_lo (by omega) (by omega)⟩
    · rintro ⟨h0, h1, h3⟩
      refine ⟨by omega, ?_⟩
      apply Classical.byContradiction
      intro hn
      rw [qb_hi (by omega) h1] at h3
      cases h3
  · simp only [off, if_true]
    constructor
    · rintro ⟨h0, h1⟩
      exact ⟨by omega, by omega, qb_hi (by omega) (by omega)⟩
    · rintro ⟨h0, h1, h3⟩
      refine ⟨?_, by omega⟩
      apply Classical.byContradiction
      intro hn
      rw [qb_lo h0 (by omega)] at h3
      cases h3
theorem get_off (N : List Nd) (n x : Nat) (r b : Bool) (X Y : Int) : getZ N n x (X - off n r) (Y - off n b) = getZ N n x X Y := by
  have e : ∀ (r : Bool) (X : Int), X - off n r = X + (if r then -1 else 0) * 2 ^ n := fun r X => by
    cases r
    · simp [off]
    · simp only [off, if_true]; omega
  rw [e, e]
  exact get_add N n x X Y _ _
theorem mem_part {N : List Nd} {n x : Nat} (ih : ∀ X Y, (X, Y) ∈ cellsQ N n x ↔ (0 ≤ X ∧ X < 2 ^ n) ∧ (0 ≤ Y ∧ Y < 2 ^ n) ∧ getZ N n x X Y = 1) (r b : Bool) (X Y : Int) :
    (X, Y) ∈ sh (off n r) (off n b) (cellsQ N n x) ↔ (0 ≤ X ∧ X < 2 ^ (n + 1) ∧ qb n X = r) ∧ (0 ≤ Y ∧ Y < 2 ^ (n + 1) ∧ qb n Y = b) ∧ getZ N n x X Y = 1 := by
  rw [mem_sh, ih, rng_off, rng_off, get_off]
theorem mem_cells (N : List Nd) : ∀ (n x : Nat) (X Y : Int), (X, Y) ∈ cellsQ N n x ↔ (0 ≤ X ∧ X < 2 ^ n) ∧ (0 ≤ Y ∧ Y < 2 ^ n) ∧ getZ N n x X Y = 1
  | 0, x, X, Y => by
    unfold cellsQ
    show _ ↔ _ ∧ _ ∧ x = 1
    by_cases hx : x = 1
    · rw [if_pos hx]
      simp only [List.mem_singleton, Prod.mk.injEq, Int.pow_zero]
      constructor
      · rintro ⟨h1, h2⟩; exact ⟨by omega, by omega, hx⟩
      · rintro ⟨h1, h2, _⟩; omega
    · rw [if_neg hx]
      simp [hx]
  | n + 1, x, X, Y => by
    have ih := fun y => mem_cells N n y
    have hg : getZ N (n + 1) x X Y = getZ N n (pick (kidZ N x) (qb n X) (qb n Y)) X Y := rfl
    rw [hg]
    unfold cellsQ
    rw [List.mem_append, List.mem_append, List.mem_append, mem_part (ih _), mem_part (ih _), mem_part (ih _), mem_part (ih _)]
    cases qb n X <;> cases qb n Y <;> simp <;> constructor <;> intro h <;> omega
theorem nodup_cells (N : List Nd) : ∀ (n x : Nat), (cellsQ N n x).Nodup
  | 0, x => by
    unfold cellsQ
    split <;> simp
  | n + 1, x => by
    have hs : ∀ r b, (sh (off n r) (off n b) (cellsQ N n (pick (kidZ N x) r b))).Nodup := fun r b => by
      refine List.Pairwise.map _ (fun p q h e => h ?_) (nodup_cells N n _)
      simp only [Prod.mk.injEq] at e
      exact Prod.ext (by omega) (by omega)
    have hm := fun r b X Y => mem_part (fun X Y => mem_cells N n (pick (kidZ N x) r b) X Y) r b X Y
    have hd : ∀ r b r' b', (r, b) ≠ (r', b') → ∀ p, p ∈ sh (off n r) (off n b) (cellsQ N n (pick (kidZ N x) r b)) → ∀ q, q ∈ sh (off n r') (off n b') (cellsQ N n (pick (kidZ N x) r' b')) → p ≠ q := by
      rintro r b r' b' hne ⟨X, Y⟩ hp ⟨X', Y'⟩ hq e
      simp only [Prod.mk.injEq] at e
      obtain ⟨rfl, rfl⟩ := e
      obtain ⟨⟨_, _, e1⟩, ⟨_, _, e2⟩, _⟩ := (hm r b X Y).1 hp
      obtain ⟨⟨_, _, e3⟩, ⟨_, _, e4⟩, _⟩ := (hm r' b' X Y).1 hq
      exact hne (by rw [← e1, ← e2, ← e3, ← e4])
    unfold cellsQ
    refine List.nodup_append.2 ⟨hs _ _, List.nodup_append.2 ⟨hs _ _, List.nodup_append.2 ⟨hs _ _, hs _ _, hd _ _ _ _ (by simp)⟩, ?_⟩, ?_⟩
    · intro p hp q hq
      rw [List.mem_append] at hq
      rcases hq with hq | hq
      · exact hd _ _ _ _ (by simp) p hp q hq
      · exact hd _ _ _ _ (by simp) p hp q hq
    · intro p hp q hq
      rw [List.mem_append, List.mem_append] at hq
      rcases hq with hq | hq | hq
      · exact hd _ _ _ _ (by simp) p hp q hq
      · exact hd _ _ _ _ (by simp) p hp q hq
      · exact hd _ _ _ _ (by simp) p hp q hq
theorem sat_min7 (a b : Nat) : sat (min a topN) (min b topN) = min (a + b) topN := by unfold sat; omega
theorem ct_cells {N : List Nd} (hw : Wf N) : ∀ {n x : Nat}, Sq N n x → ctZ N x = min (cellsQ N n x).length topN
  | 0, x, h => by
    unfold ctZ
    rcases h.zero hw with rfl | rfl
    · rw [hw.dead]; rfl
    · rw [hw.alive]; rfl
  | n + 1, x, h => by
    obtain ⟨nd, hx, hx2, hl, hk⟩ := h.node hw
    obtain ⟨_, _, _, _, _, _, _, _, _, _, hc⟩ := hw.up x nd hx2 hx
    have e : ctZ N x = nd.ct := by unfold ctZ; rw [hx]
    have hf := h.kid hw
    rw [← hk] at hf
    have h0 := ct_cells hw (hf false false)
    have h1 := ct_cells hw (hf true false)
    have h2 := ct_cells hw (hf false true)
    have h3 := ct_cells hw (hf true true)
    have e0 : ∀ a, sat 0 (min a topN) = min a topN := fun a => by unfold sat; omega
    rw [e, hc]
    unfold livZ cellsQ
    rw [← hk]
    simp only [pick, if_true, Bool.false_eq_true, if_false, sh, List.length_append, List.length_map] at h0 h1 h2 h3 ⊢
    rw [h0, h1, h2, h3, e0, sat_min7, sat_min7, sat_min7]
    omega
theorem ct_zero {N : List Nd} (hw : Wf N) {n x : Nat} (h : Sq N n x) : ctZ N x = 0 ↔ ∀ X Y, getZ N n x X Y = 0 := by
  rw [ct_cells hw h]
  constructor
  · intro h0 X Y
    have hl : (cellsQ N n x).length = 0 := by have : topN ≠ 0 := by decide
                                              omega
    rcases get_cell hw h X Y with e | e
    · exact e
    · exfalso
      have hm : (X % 2 ^ n, Y % 2 ^ n) ∈ cellsQ N n x := (mem_cells N n x _ _).2 ⟨⟨Int.emod_nonneg _ (by have := pow_pos2 n; omega), Int.emod_lt_of_pos _ (pow_pos2 n)⟩, ⟨Int.emod_nonneg _ (by have := pow_pos2 n; omega), Int.emod_lt_of_pos _ (pow_pos2 n)⟩, by rw [get_mod]; exact e⟩
      rw [List.length_eq_zero_iff.1 hl] at hm
      cases hm
  · intro h0
    have : cellsQ N n x = [] := by
      cases hc : cellsQ N n x with
      | nil => rfl
      | cons p l =>
        exfalso
        obtain ⟨X, Y⟩ := p
        have hm : (X, Y) ∈ cellsQ N n x := by rw [hc]; exact List.mem_cons_self
        have := ((mem_cells N n x X Y).1 hm).2.2
        rw [h0] at this
        cases this
    rw [this]; simp
/-- A plane's living cells in a list, each once: how many. -/
theorem ct_list {N : List Nd} (hw : Wf N) {n x : Nat} (h : Sq N (n + 1) x) {l : List (Int × Int)} (hd : l.Nodup) (hl : ∀ a b, (a, b) ∈ l ↔ alK N n (kidZ N x) a b = true) : ctZ N x = min l.length topN := by
  rw [ct_cells hw h]
  have hp : (cellsQ N (n + 1) x).Perm (sh (2 ^ n) (2 ^ n) l) := by
    refine (List.perm_ext_iff_of_nodup (nodup_cells N (n + 1) x) ?_).2 ?_
    · refine List.Pairwise.map _ (fun p q h e => h ?_) hd
      simp only [Prod.mk.injEq] at e
      exact Prod.ext (by omega) (by omega)
    · rintro ⟨X, Y⟩
      rw [mem_sh, hl, mem_cells, al_root]
      simp only [Bool.and_eq_true, inS_iff, beq_iff_eq, Int.sub_add_cancel, pow_two2]
      constructor
      · rintro ⟨h1, h2, h3⟩; exact ⟨⟨by omega, by omega⟩, h3⟩
      · rintro ⟨⟨h1, h2⟩, h3⟩; exact ⟨by omega, by omega, h3⟩
  rw [hp.length_eq]
  simp [sh]
/-- Planes of one level with the same cells have one square. -/
theorem root_inj {N : List Nd} (hw : Wf N) {n x y : Nat} (hx : Sq N (n + 1) x) (hy : Sq N (n + 1) y) (h : ∀ a b, alK N n (kidZ N x) a b = alK N n (kidZ N y) a b) : x = y := by
  refine get_inj hw hx hy fun X Y => ?_
  rw [← get_mod N (n + 1) x, ← get_mod N (n + 1) y]
  have h0 := Int.emod_nonneg X (show (2 : Int) ^ (n + 1) ≠ 0 by have := pow_pos2 (n + 1); omega)
  have h1 := Int.emod_lt_of_pos X (pow_pos2 (n + 1))
  have h2 := Int.emod_nonneg Y (show (2 : Int) ^ (n + 1) ≠ 0 by have := pow_pos2 (n + 1); omega)
  have h3 := Int.emod_lt_of_pos Y (pow_pos2 (n + 1))
  generalize X % 2 ^ (n + 1) = A at *
  generalize Y % 2 ^ (n + 1) = B at *
  have := h (A - 2 ^ n) (B - 2 ^ n)
  rw [al_root, al_root, inS_iff.2 (by rw [pow_two2] at h1; omega), inS_iff.2 (by rw [pow_two2] at h3; omega)] at this
  simp only [Bool.and_self, Bool.true_and, Int.sub_add_cancel] at this
  rcases get_cell hw hx A B with e | e <;> rcases get_cell hw hy A B with e' | e' <;> rw [e, e'] <;> rw [e, e'] at this <;> simp at this
/-- All living cells are in the middle: so many of the twelve outer squares have none. -/
theorem in_middle {N : List Nd} (hw : Wf N) {n : Nat} {k : K4} (hk : Fo N (n + 1) k) : (∀ r b r' b', (r' = !r ∧ b' = !b) ∨ ctZ N (pick (kidZ N (pick k r b)) r' b') = 0) ↔ ∀ a b, alK N (n + 1) k a b = true → inS n a = true ∧ inS n b = true := by
  constructor
  · intro h a b hab
    simp only [alK, Bool.and_eq_true, beq_iff_eq] at hab
    obtain ⟨⟨ha, hb⟩, hg⟩ := hab
    have hg' : getZ N n (pick (kidZ N (pick k (decide (0 ≤ a)) (decide (0 ≤ b)))) (qb n a) (qb n b)) a b = 1 := hg
    rcases h (decide (0 ≤ a)) (decide (0 ≤ b)) (qb n a) (qb n b) with ⟨h1, h2⟩ | h0
    · constructor
      · cases hi : inS n a with
        | true => rfl
        | false => rw [qb_out hi ha] at h1; cases hd : decide (0 ≤ a) <;> rw [hd] at h1 <;> cases h1
      · cases hi : inS n b with
        | true => rfl
        | false => rw [qb_out hi hb] at h2; cases hd : decide (0 ≤ b) <;> rw [hd] at h2 <;> cases h2
    · have := (ct_zero hw ((hk _ _).kid hw _ _)).1 h0 a b
      rw [this] at hg'
      cases hg'
  · intro h r b r' b'
    by_cases hm : r' = !r ∧ b' = !b
    · exact Or.inl hm
    · right
      refine (ct_zero hw ((hk r b).kid hw r' b')).2 fun X Y => ?_
      rcases get_cell hw ((hk r b).kid hw r' b') X Y with e | e
      · exact e
      · exfalso
        have hp := pow_pos2 n
        have h2 := pow_two2 n
        have key : ∀ (r r' : Bool) (X : Int), ∃ a : Int, inS (n + 1) a = true ∧ decide (0 ≤ a) = r ∧ qb n a = r' ∧ a % 2 ^ n = X % 2 ^ n ∧ (inS n a = true → r' = !r) := fun r r' X => by
          have m0 := Int.emod_nonneg X (show (2 : Int) ^ n ≠ 0 by omega)
          have m1 := Int.emod_lt_of_pos X hp
          have mm : X % 2 ^ n % 2 ^ n = X % 2 ^ n := Int.emod_emod _ _
          generalize X % 2 ^ n = A at *
          cases r <;> cases r'
          · refine ⟨A - 2 ^ (n + 1), inS_iff.2 (by omega), by simp; omega, qb_far (by omega) (by omega), ?_, fun hh => ?_⟩
            · rw [h2, show A - 2 * 2 ^ n = A + 2 ^ n * (-2) by omega, Int.add_mul_emod_self_left]; exact mm
            · rw [inS_iff] at hh; omega
          · refine ⟨A - 2 ^ n, inS_iff.2 (by omega), by simp; omega, qb_neg (by omega) (by omega), ?_, fun _ => rfl⟩
            rw [show A - 2 ^ n = A + 2 ^ n * (-1) by omega, Int.add_mul_emod_self_left]; exact mm
          · exact ⟨A, inS_iff.2 (by omega), by simp; omega, qb_lo m0 m1, mm, fun _ => rfl⟩
          · refine ⟨A + 2 ^ n, inS_iff.2 (by omega), by simp; omega, qb_hi (by omega) (by omega), ?_, fun hh => ?_⟩
            · rw [show A + 2 ^ n = A + 2 ^ n * 1 by omega, Int.add_mul_emod_self_left]; exact mm
            · rw [inS_iff] at hh; omega
        obtain ⟨a, a1, a2, a3, a4, a5⟩ := key r r' X
        obtain ⟨c, c1, c2, c3, c4, c5⟩ := key b b' Y
        have hal : alK N (n + 1) k a c = true := by
          unfold alK
          rw [a1, c1, a2, c2]
          show (true && true && (getZ N n (pick (kidZ N (pick k r b)) (qb n a) (qb n c)) a c == 1)) = true
          rw [a3, c3, ← get_mod, a4, c4, get_mod, e]
          rfl
        obtain ⟨i1, i2⟩ := h a c hal
        exact hm ⟨a5 i1, c5 i2⟩
end Go.Proofs.Ytgciceogggldhaa
