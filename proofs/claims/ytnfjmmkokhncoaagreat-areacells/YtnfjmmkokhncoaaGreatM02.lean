-- M02
import Derived.Test.YtnfjmmkokhncoaaGreatM01
section
namespace Go.Proofs.YtnfjmmkokhncoaaGreat

def off (n : Nat) (r : Bool) : Int := if r then 2 ^ n else 0
def sh (dx dy : Int) (l : List (Int × Int)) : List (Int × Int) := l.map fun p => (p.1 + dx, p.2 + dy)
/-- The living cells of a square, from its corner on. -/
def cellsQ (N : List Nd) : Nat → Nat → List (Int × Int)
  | 0, x => if x = 1 then [(0, 0)] else []
  | n + 1, x => sh (off n false) (off n false) (cellsQ N n (pick (kidZ N x) false false)) ++ (sh (off n true) (off n false) (cellsQ N n (pick (kidZ N x) true false)) ++ (sh (off n false) (off n true) (cellsQ N n (pick (kidZ N x) false true)) ++ sh (off n true) (off n true) (cellsQ N n (pick (kidZ N x) true true))))
theorem mem_sh {dx dy X Y : Int} {l : List (Int × Int)} : (X, Y) ∈ sh dx dy l ↔ (X - dx, Y - dy) ∈ l := by
  unfold sh
  rw [List.mem_map]
  constructor
  · rintro ⟨⟨a, b⟩, h, e⟩
    simp only [Prod.mk.injEq] at e
    rw [show X - dx = a by omega, show Y - dy = b by omega]
    exact h
  · intro h
    exact ⟨_, h, by simp⟩
theorem rng_off (n : Nat) (r : Bool) (X : Int) : (0 ≤ X - off n r ∧ X - off n r < 2 ^ n) ↔ (0 ≤ X ∧ X < 2 ^ (n + 1) ∧ qb n X = r) := by
  have hp := pow_pos2 n
  have h2 := pow_two2 n
  cases r
  · simp only [off, Bool.false_eq_true, if_false]
    constructor
    · rintro ⟨h0, h1⟩
      exact ⟨by omega, by omega, qb_lo (by omega) (by omega)⟩
    · rintro ⟨h0, h1, h3⟩
      refine ⟨by omega, ?_⟩
      apply Classical.byContradiction
      intro hn
      rw [qb_hi (by omega) h1] at h3
      cases h3
  · simp only [off, if_true]
    constructor
    · rintro ⟨h0, h1⟩
      exact ⟨by omega, by omega, qb_hi (by omega) (by omega)⟩
    · rintro ⟨h0, h1, h3⟩
      refine ⟨?_, by omega⟩
      apply Classical.byContradiction
      intro hn
      rw [qb_lo h0 (by omega)] at h3
      cases h3
theorem get_off (N : List Nd) (n x : Nat) (r b : Bool) (X Y : Int) : getZ N n x (X - off n r) (Y - off n b) = getZ N n x X Y := by
  have e : ∀ (r : Bool) (X : Int), X - off n r = X + (if r then -1 else 0) * 2 ^ n := fun r X => by
    cases r
    · simp [off]
    · simp only [off, if_true]; omega
  rw [e, e]
  exact get_add N n x X Y _ _
theorem mem_part {N : List Nd} {n x : Nat} (ih : ∀ X Y, (X, Y) ∈ cellsQ N n x ↔ (0 ≤ X ∧ X < 2 ^ n) ∧ (0 ≤ Y ∧ Y < 2 ^ n) ∧ getZ N n x X Y = 1) (r b : Bool) (X Y : Int) :
    (X, Y) ∈ sh (off n r) (off n b) (cellsQ N n x) ↔ (0 ≤ X ∧ X < 2 ^ (n + 1) ∧ qb n X = r) ∧ (0 ≤ Y ∧ Y < 2 ^ (n + 1) ∧ qb n Y = b) ∧ getZ N n x X Y = 1 := by
  rw [mem_sh, ih, rng_off, rng_off, get_off]
theorem mem_cells (N : List Nd) : ∀ (n x : Nat) (X Y : Int), (X, Y) ∈ cellsQ N n x ↔ (0 ≤ X ∧ X < 2 ^ n) ∧ (0 ≤ Y ∧ Y < 2 ^ n) ∧ getZ N n x X Y = 1
  | 0, x, X, Y => by
    unfold cellsQ
    show _ ↔ _ ∧ _ ∧ x = 1
    by_cases hx : x = 1
    · rw [if_pos hx]
      simp only [List.mem_singleton, Prod.mk.injEq, Int.pow_zero]
      constructor
      · rintro ⟨h1, h2⟩; exact ⟨by omega, by omega, hx⟩
      · rintro ⟨h1, h2, _⟩; omega
    · rw [if_neg hx]
      simp [hx]
  | n + 1, x, X, Y => by
    have ih := fun y => mem_cells N n y
    have hg : getZ N (n + 1) x X Y = getZ N n (pick (kidZ N x) (qb n X) (qb n Y)) X Y := rfl
    rw [hg]
    unfold cellsQ
    rw [List.mem_append, List.mem_append, List.mem_append, mem_part (ih _), mem_part (ih _), mem_part (ih _), mem_part (ih _)]
    cases qb n X <;> cases qb n Y <;> simp <;> constructor <;> intro h <;> omega
theorem nodup_cells (N : List Nd) : ∀ (n x : Nat), (cellsQ N n x).Nodup
  | 0, x => by
    unfold cellsQ
    split <;> simp
  | n + 1, x => by
    have hs : ∀ r b, (sh (off n r) (off n b) (cellsQ N n (pick (kidZ N x) r b))).Nodup := fun r b => by
      refine List.Pairwise.map _ (fun p q h e => h ?_) (nodup_cells N n _)
      simp only [Prod.mk.injEq] at e
      exact Prod.ext (by omega) (by omega)
    have hm := fun r b X Y => mem_part (fun X Y => mem_cells N n (pick (kidZ N x) r b) X Y) r b X Y
    have hd : ∀ r b r' b', (r, b) ≠ (r', b') → ∀ p, p ∈ sh (off n r) (off n b) (cellsQ N n (pick (kidZ N x) r b)) → ∀ q, q ∈ sh (off n r') (off n b') (cellsQ N n (pick (kidZ N x) r' b')) → p ≠ q := by
      rintro r b r' b' hne ⟨X, Y⟩ hp ⟨X', Y'⟩ hq e
      simp only [Prod.mk.injEq] at e
      obtain ⟨rfl, rfl⟩ := e
      obtain ⟨⟨_, _, e1⟩, ⟨_, _, e2⟩, _⟩ := (hm r b X Y).1 hp
      obtain ⟨⟨_, _, e3⟩, ⟨_, _, e4⟩, _⟩ := (hm r' b' X Y).1 hq
      exact hne (by rw [← e1, ← e2, ← e3, ← e4])
    unfold cellsQ
    refine List.nodup_append.2 ⟨hs _ _, List.nodup_append.2 ⟨hs _ _, List.nodup_append.2 ⟨hs _ _, hs _ _, hd _ _ _ _ (by simp)⟩, ?_⟩, ?_⟩
    · intro p hp q hq
      rw [List.mem_append] at hq
      rcases hq with hq | hq
      · exact hd _ _ _ _ (by simp) p hp q hq
      · exact hd _ _ _ _ (by simp) p hp q hq
    · intro p hp q hq
      rw [List.mem_append, List.mem_append] at hq
      rcases hq with hq | hq | hq
      · exact hd _ _ _ _ (by simp) p hp q hq
      · exact hd _ _ _ _ (by simp) p hp q hq
      · exact hd _ _ _ _ (by simp) p hp q hq
theorem sat_min7 (a b : Nat) : sat (min a topN) (min b topN) = min (a + b) topN := by unfold sat; omega
theorem ct_cells {N : List Nd} (hw : Wf N) : ∀ {n x : Nat}, Sq N n x → ctZ N x = min (cellsQ N n x).length topN
  | 0, x, h => by
    unfold ctZ
    rcases h.zero hw with rfl | rfl
    · rw [hw.dead]; rfl
    · rw [hw.alive]; rfl
  | n + 1, x, h => by
    obtain ⟨nd, hx, hx2, hl, hk⟩ := h.node hw
    obtain ⟨_, _, _, _, _, _, _, _, _, _, hc⟩ := hw.up x nd hx2 hx
    have e : ctZ N x = nd.ct := by unfold ctZ; rw [hx]
    have hf := h.kid hw
    rw [← hk] at hf
    have h0 := ct_cells hw (hf false false)
    have h1 := ct_cells hw (hf true false)
    have h2 := ct_cells hw (hf false true)
    have h3 := ct_cells hw (hf true true)
    have e0 : ∀ a, sat 0 (min a topN) = min a topN := fun a => by unfold sat; omega
    rw [e, hc]
    unfold livZ cellsQ
    rw [← hk]
    simp only [pick, if_true, Bool.false_eq_true, if_false, sh, List.length_append, List.length_map] at h0 h1 h2 h3 ⊢
    rw [h0, h1, h2, h3, e0, sat_min7, sat_min7, sat_min7]
    omega
theorem ct_zero {N : List Nd} (hw : Wf N) {n x : Nat} (h : Sq N n x) : ctZ N x = 0 ↔ ∀ X Y, getZ N n x X Y = 0 := by
  rw [ct_cells hw h]
  constructor
  · intro h0 X Y
    have hl : (cellsQ N n x).length = 0 := by have : topN ≠ 0 := by decide
                                              omega
    rcases get_cell hw h X Y with e | e
    · exact e
    · exfalso
      have hm : (X % 2 ^ n, Y % 2 ^ n) ∈ cellsQ N n x := (mem_cells N n x _ _).2 ⟨⟨Int.emod_nonneg _ (by have := pow_pos2 n; omega), Int.emod_lt_of_pos _ (pow_pos2 n)⟩, ⟨Int.emod_nonneg _ (by have := pow_pos2 n; omega), Int.emod_lt_of_pos _ (pow_pos2 n)⟩, by rw [get_mod]; exact e⟩
      rw [List.length_eq_zero_iff.1 hl] at hm
      cases hm
  · intro h0
    have : cellsQ N n x = [] := by
      cases hc : cellsQ N n x with
      | nil => rfl
      | cons p l =>
        exfalso
        obtain ⟨X, Y⟩ := p
        have hm : (X, Y) ∈ cellsQ N n x := by rw [hc]; exact List.mem_cons_self
        have := ((mem_cells N n x X Y).1 hm).2.2
        rw [h0] at this
        cases this
    rw [this]; simp
/-- A plane's living cells in a list, each once: how many. -/
theorem ct_list {N : List Nd} (hw : Wf N) {n x : Nat} (h : Sq N (n + 1) x) {l : List (Int × Int)} (hd : l.Nodup) (hl : ∀ a b, (a, b) ∈ l ↔ alK N n (kidZ N x) a b = true) : ctZ N x = min l.length topN := by
  rw [ct_cells hw h]
  have hp : (cellsQ N (n + 1) x).Perm (sh (2 ^ n) (2 ^ n) l) := by
    refine (List.perm_ext_iff_of_nodup (nodup_cells N (n + 1) x) ?_).2 ?_
    · refine List.Pairwise.map _ (fun p q h e => h ?_) hd
      simp only [Prod.mk.injEq] at e
      exact Prod.ext (by omega) (by omega)
    · rintro ⟨X, Y⟩
      rw [mem_sh, hl, mem_cells, al_root]
      simp only [Bool.and_eq_true, inS_iff, beq_iff_eq, Int.sub_add_cancel, pow_two2]
      constructor
      · rintro ⟨h1, h2, h3⟩; exact ⟨⟨by omega, by omega⟩, h3⟩
      · rintro ⟨⟨h1, h2⟩, h3⟩; exact ⟨by omega, by omega, h3⟩
  rw [hp.length_eq]
  simp [sh]
/-- Planes of one level with the same cells have one square. -/
theorem root_inj {N : List Nd} (hw : Wf N) {n x y : Nat} (hx : Sq N (n + 1) x) (hy : Sq N (n + 1) y) (h : ∀ a b, alK N n (kidZ N x) a b = alK N n (kidZ N y) a b) : x = y := by
  refine get_inj hw hx hy fun X Y => ?_
  rw [← get_mod N (n + 1) x, ← get_mod N (n + 1) y]
  have h0 := Int.emod_nonneg X (show (2 : Int) ^ (n + 1) ≠ 0 by have := pow_pos2 (n + 1); omega)
  have h1 := Int.emod_lt_of_pos X (pow_pos2 (n + 1))
  have h2 := Int.emod_nonneg Y (show (2 : Int) ^ (n + 1) ≠ 0 by have := pow_pos2 (n + 1); omega)
  have h3 := Int.emod_lt_of_pos Y (pow_pos2 (n + 1))
  generalize X % 2 ^ (n + 1) = A at *
  generalize Y % 2 ^ (n + 1) = B at *
  have := h (A - 2 ^ n) (B - 2 ^ n)
  rw [al_root, al_root, inS_iff.2 (by rw [pow_two2] at h1; omega), inS_iff.2 (by rw [pow_two2] at h3; omega)] at this
  simp only [Bool.and_self, Bool.true_and, Int.sub_add_cancel] at this
  rcases get_cell hw hx A B with e | e <;> rcases get_cell hw hy A B with e' | e' <;> rw [e, e'] <;> rw [e, e'] at this <;> simp at this
/-- All living cells are in the middle: so many of the twelve outer squares have none. -/
theorem in_middle {N : List Nd} (hw : Wf N) {n : Nat} {k : K4} (hk : Fo N (n + 1) k) : (∀ r b r' b', (r' = !r ∧ b' = !b) ∨ ctZ N (pick (kidZ N (pick k r b)) r' b') = 0) ↔ ∀ a b, alK N (n + 1) k a b = true → inS n a = true ∧ inS n b = true := by
  constructor
  · intro h a b hab
    simp only [alK, Bool.and_eq_true, beq_iff_eq] at hab
    obtain ⟨⟨ha, hb⟩, hg⟩ := hab
    have hg' : getZ N n (pick (kidZ N (pick k (decide (0 ≤ a)) (decide (0 ≤ b)))) (qb n a) (qb n b)) a b = 1 := hg
    rcases h (decide (0 ≤ a)) (decide (0 ≤ b)) (qb n a) (qb n b) with ⟨h1, h2⟩ | h0
    · constructor
      · cases hi : inS n a with
        | true => rfl
        | false => rw [qb_out hi ha] at h1; cases hd : decide (0 ≤ a) <;> rw [hd] at h1 <;> cases h1
      · cases hi : inS n b with
        | true => rfl
        | false => rw [qb_out hi hb] at h2; cases hd : decide (0 ≤ b) <;> rw [hd] at h2 <;> cases h2
    · have := (ct_zero hw ((hk _ _).kid hw _ _)).1 h0 a b
      rw [this] at hg'
      cases hg'
  · intro h r b r' b'
    by_cases hm : r' = !r ∧ b' = !b
    · exact Or.inl hm
    · right
      refine (ct_zero hw ((hk r b).kid hw r' b')).2 fun X Y => ?_
      rcases get_cell hw ((hk r b).kid hw r' b') X Y with e | e
      · exact e
      · exfalso
        have hp := pow_pos2 n
        have h2 := pow_two2 n
        have key : ∀ (r r' : Bool) (X : Int), ∃ a : Int, inS (n + 1) a = true ∧ decide (0 ≤ a) = r ∧ qb n a = r' ∧ a % 2 ^ n = X % 2 ^ n ∧ (inS n a = true → r' = !r) := fun r r' X => by
          have m0 := Int.emod_nonneg X (show (2 : Int) ^ n ≠ 0 by omega)
          have m1 := Int.emod_lt_of_pos X hp
          have mm : X % 2 ^ n % 2 ^ n = X % 2 ^ n := Int.emod_emod _ _
          generalize X % 2 ^ n = A at *
          cases r <;> cases r'
          · refine ⟨A - 2 ^ (n + 1), inS_iff.2 (by omega), by simp; omega, qb_far (by omega) (by omega), ?_, fun hh => ?_⟩
            · rw [h2, show A - 2 * 2 ^ n = A + 2 ^ n * (-2) by omega, Int.add_mul_emod_self_left]; exact mm
            · rw [inS_iff] at hh; omega
          · refine ⟨A - 2 ^ n, inS_iff.2 (by omega), by simp; omega, qb_neg (by omega) (by omega), ?_, fun _ => rfl⟩
            rw [show A - 2 ^ n = A + 2 ^ n * (-1) by omega, Int.add_mul_emod_self_left]; exact mm
          · exact ⟨A, inS_iff.2 (by omega), by simp; omega, qb_lo m0 m1, mm, fun _ => rfl⟩
          · refine ⟨A + 2 ^ n, inS_iff.2 (by omega), by simp; omega, qb_hi (by omega) (by omega), ?_, fun hh => ?_⟩
            · rw [show A + 2 ^ n = A + 2 ^ n * 1 by omega, Int.add_mul_emod_self_left]; exact mm
            · rw [inS_iff] at hh; omega
        obtain ⟨a, a1, a2, a3, a4, a5⟩ := key r r' X
        obtain ⟨c, c1, c2, c3, c4, c5⟩ := key b b' Y
        have hal : alK N (n + 1) k a c = true := by
          unfold alK
          rw [a1, c1, a2, c2]
          show (true && true && (getZ N n (pick (kidZ N (pick k r b)) (qb n a) (qb n c)) a c == 1)) = true
          rw [a3, c3, ← get_mod, a4, c4, get_mod, e]
          rfl
        obtain ⟨i1, i2⟩ := h a c hal
        exact hm ⟨a5 i1, c5 i2⟩
end Go.Proofs.YtnfjmmkokhncoaaGreat
end

section
namespace Go.Proofs.YtnfjmmkokhncoaaGreat

def kAt (k : K4) : Nat → Nat
  | 0 => k.1
  | 1 => k.2.1
  | 2 => k.2.2.1
  | _ => k.2.2.2
def mk4 (f : Nat → Nat) : K4 := (f 0, f 1, f 2, f 3)
theorem kAt_mk4 (f : Nat → Nat) {i : Nat} (h : i < 4) : kAt (mk4 f) i = f i := by
  have : i = 0 ∨ i = 1 ∨ i = 2 ∨ i = 3 := by omega
  rcases this with rfl | rfl | rfl | rfl <;> rfl
theorem mk4_kAt (k : K4) : mk4 (kAt k) = k := rfl
theorem mk4_ext {f g : Nat → Nat} (h : ∀ i, i < 4 → f i = g i) : mk4 f = mk4 g := by
  unfold mk4; rw [h 0 (by omega), h 1 (by omega), h 2 (by omega), h 3 (by omega)]
/-- The place of one of four. -/
def pl (r b : Bool) : Nat := (if r then 1 else 0) + 2 * (if b then 1 else 0)
theorem pl_lt (r b : Bool) : pl r b < 4 := by cases r <;> cases b <;> decide
theorem pick_kAt (k : K4) (r b : Bool) : pick k r b = kAt k (pl r b) := by cases r <;> cases b <;> rfl
theorem pl_of {i : Nat} (h : i < 4) : ∃ r b, i = pl r b := by
  have : i = 0 ∨ i = 1 ∨ i = 2 ∨ i = 3 := by omega
  rcases this with rfl | rfl | rfl | rfl
  · exact ⟨false, false, rfl⟩
  · exact ⟨true, false, rfl⟩
  · exact ⟨false, true, rfl⟩
  · exact ⟨true, true, rfl⟩
theorem pl_across (r b : Bool) : 3 - pl r b = pl (!r) (!b) := by cases r <;> cases b <;> rfl
theorem pl_inj {r b r' b' : Bool} : pl r b = pl r' b' ↔ r = r' ∧ b = b' := by cases r <;> cases b <;> cases r' <;> cases b' <;> decide
theorem fo_iff {N : List Nd} {n : Nat} {k : K4} : Fo N n k ↔ ∀ i, i < 4 → Sq N n (kAt k i) := by
  constructor
  · intro h i hi
    obtain ⟨r, b, rfl⟩ := pl_of hi
    rw [← pick_kAt]; exact h r b
  · intro h r b
    rw [pick_kAt]; exact h _ (pl_lt r b)
/-- Four, one at a place. -/
def corn (e x at_ : Nat) : K4 := mk4 fun i => if i = at_ then x else e
theorem corn_fo {N : List Nd} {n e x at_ : Nat} (he : Sq N n e) (hx : Sq N n x) : Fo N n (corn e x at_) := fo_iff.2 fun i hi => by
  unfold corn; rw [kAt_mk4 _ hi]; split
  · exact hx
  · exact he
theorem raise_all {N : List Nd} {n e : Nat} {k : K4} {f : Nat → Nat} (he : ∀ X Y, getZ N n e X Y = 0) (hk : ∀ i, i < 4 → kidZ N (f i) = corn e (kAt k i) (3 - i)) (a b : Int) : alK N (n + 1) (mk4 f) a b = alK N n k a b := by
  refine al_raise (e := e) he (fun r b r' b' => ?_) a b
  rw [pick_kAt (mk4 f), kAt_mk4 _ (pl_lt _ _), hk _ (pl_lt _ _), pick_kAt, pick_kAt k]
  unfold corn
  rw [kAt_mk4 _ (pl_lt _ _), pl_across]
  simp only [pl_inj]
/-- The four in the middle. -/
def midF (N : List Nd) (k : K4) (i : Nat) : Nat := kAt (kidZ N (kAt k i)) (3 - i)
def midK (N : List Nd) (k : K4) : K4 := mk4 (midF N k)
theorem mid_pick (N : List Nd) (k : K4) (r b : Bool) : pick (midK N k) r b = pick (kidZ N (pick k r b)) (!r) (!b) := by
  rw [pick_kAt, pick_kAt, pick_kAt k]
  unfold midK midF
  rw [kAt_mk4 _ (pl_lt _ _), pl_across]
theorem mid_fo {N : List Nd} (hw : Wf N) {n : Nat} {k : K4} (h : Fo N (n + 1) k) : Fo N n (midK N k) := fun r b => by
  rw [mid_pick]; exact (h r b).kid hw _ _
/-- Are all living cells in the middle? -/
def InMid (N : List Nd) (k : K4) : Prop := ∀ i, i < 4 → ∀ j, j < 4 → j = 3 - i ∨ ctZ N (kAt (kidZ N (kAt k i)) j) = 0
theorem inMid_iff {N : List Nd} (hw : Wf N) {n : Nat} {k : K4} (hk : Fo N (n + 1) k) : InMid N k ↔ ∀ a b, alK N (n + 1) k a b = true → inS n a = true ∧ inS n b = true := by
  rw [← in_middle hw hk]
  constructor
  · intro h r b r' b'
    have := h (pl r b) (pl_lt _ _) (pl r' b') (pl_lt _ _)
    rw [pl_across, pl_inj, ← pick_kAt k, ← pick_kAt] at this
    exact this
  · intro h i hi j hj
    obtain ⟨r, b, rfl⟩ := pl_of hi
    obtain ⟨r', b', rfl⟩ := pl_of hj
    have := h r b r' b'
    rw [pl_across, pl_inj, ← pick_kAt k, ← pick_kAt]
    exact this
/-- Another cell of a square. -/
def Chg (N : List Nd) (n x : Nat) (N' : List Nd) (x' : Nat) (X Y : Int) (c : Nat) : Prop := ∀ A B, getZ N' n x' A B = if A % 2 ^ n = X % 2 ^ n ∧ B % 2 ^ n = Y % 2 ^ n then c else getZ N n x A B
theorem mod_bit (n : Nat) (A X : Int) : (A % 2 ^ (n + 1) = X % 2 ^ (n + 1)) ↔ (A % 2 ^ n = X % 2 ^ n ∧ qb n A = qb n X) := by
  have hp := pow_pos2 n
  have key : ∀ A : Int, A % 2 ^ (n + 1) = A % 2 ^ n + (if qb n A then 2 ^ n else 0) := fun A => by
    have e1 : A / 2 ^ n % 2 = if qb n A then 1 else 0 := by
      unfold qb
      rcases Int.emod_two_eq (A / 2 ^ n) with h | h <;> rw [h] <;> simp
    have d1 := Int.emod_add_mul_ediv A (2 ^ n)
    have d2 := Int.emod_add_mul_ediv (A / 2 ^ n) 2
    have m0 := Int.emod_nonneg A (show (2 : Int) ^ n ≠ 0 by omega)
    have m1 := Int.emod_lt_of_pos A hp
    have h2 := pow_two2 n
    have e2 : A = (A % 2 ^ n + (if qb n A then 2 ^ n else 0)) + 2 ^ (n + 1) * (A / 2 ^ n / 2) := by
      rw [h2, Int.mul_comm 2 (2 ^ n), Int.mul_assoc]
      cases hq : qb n A <;> rw [hq] at e1 <;> simp only [if_true, Bool.false_eq_true, if_false] at e1 ⊢
      · rw [show 2 * (A / 2 ^ n / 2) = A / 2 ^ n by omega]; omega
      · have : 2 ^ n * (2 * (A / 2 ^ n / 2)) = 2 ^ n * (A / 2 ^ n) - 2 ^ n := by
          rw [show 2 * (A / 2 ^ n / 2) = A / 2 ^ n - 1 by omega, Int.mul_sub, Int.mul_one]
        omega
    have e3 : (0 : Int) ≤ A % 2 ^ n + (if qb n A then 2 ^ n else 0) := by split <;> omega
    have e4 : A % 2 ^ n + (if qb n A then 2 ^ n else 0) < 2 ^ (n + 1) := by split <;> omega
    generalize A % 2 ^ n + (if qb n A then 2 ^ n else 0) = R at *
    rw [e2, Int.add_mul_emod_self_left]
    exact Int.emod_eq_of_lt e3 e4
  have a0 := Int.emod_nonneg A (show (2 : Int) ^ n ≠ 0 by omega)
  have a1 := Int.emod_lt_of_pos A hp
  have x0 := Int.emod_nonneg X (show (2 : Int) ^ n ≠ 0 by omega)
  have x1 := Int.emod_lt_of_pos X hp
  rw [key A, key X]
  cases qb n A <;> cases qb n X <;> simp <;> omega
theorem chg_zero (N : List Nd) (x : Nat) (N' : List Nd) (X Y : Int) (c : Nat) : Chg N 0 x N' c X Y c := fun A B => by
  show c = _
  rw [if_pos (by simp [Int.emod_one])]
theorem chg_step {N N1 N2 : List Nd} {n x y x' : Nat} {X Y : Int} {c : Nat} (h : Chg N n (pick (kidZ N x) (qb n X) (qb n Y)) N1 y X Y c)
    (hk : ∀ r b, pick (kidZ N2 x') r b = if r = qb n X ∧ b = qb n Y then y else pick (kidZ N x) r b) (hy : ∀ A B, getZ N2 n y A B = getZ N1 n y A B) (ho : ∀ r b A B, getZ N2 n (pick (kidZ N x) r b) A B = getZ N n (pick (kidZ N x) r b) A B) : Chg N (n + 1) x N2 x' X Y c := fun A B => by
  show getZ N2 n (pick (kidZ N2 x') (qb n A) (qb n B)) A B = if _ then c else getZ N n (pick (kidZ N x) (qb n A) (qb n B)) A B
  rw [hk]
  simp only [mod_bit]
  by_cases hb : qb n A = qb n X ∧ qb n B = qb n Y
  · rw [if_pos hb, hy, h A B, hb.1, hb.2]
    simp
  · rw [if_neg hb, if_neg (fun hh => hb ⟨hh.1.2, hh.2.2⟩), ho]
/-- A plane with another cell. -/
theorem al_chg {N N' : List Nd} {n x x' : Nat} {a b : Int} {c : Nat} (h : Chg N (n + 1) x N' x' (a + 2 ^ n) (b + 2 ^ n) c) (ha : inS n a = true) (hb : inS n b = true) (p q : Int) :
    alK N' n (kidZ N' x') p q = if p = a ∧ q = b then c == 1 else alK N n (kidZ N x) p q := by
  rw [al_root, al_root, h]
  have hr : ∀ {a : Int}, inS n a = true → (a + 2 ^ n) % 2 ^ (n + 1) = a + 2 ^ n := fun {a} ha => by
    rw [inS_iff] at ha
    exact Int.emod_eq_of_lt (by omega) (by rw [pow_two2]; omega)
  rw [hr ha, hr hb]
  by_cases hpq : p = a ∧ q = b
  · obtain ⟨rfl, rfl⟩ := hpq
    rw [hr ha, hr hb, ha, hb]
    simp
  · rw [if_neg hpq]
    cases hp : inS n p with
    | false => rfl
    | true =>
      cases hq : inS n q with
      | false => rfl
      | true =>
        rw [hr hp, hr hq, if_neg (fun hh => hpq ⟨by omega, by omega⟩)]
end Go.Proofs.YtnfjmmkokhncoaaGreat
end

section
namespace Go.Proofs.YtnfjmmkokhncoaaGreat

/-- A rectangle: from x, y to X, Y. -/
structure R4 where
  x : Int
  y : Int
  X : Int
  Y : Int
  deriving DecidableEq
/-- Without points? -/
def R4.no (r : R4) : Bool := decide (r.X ≤ r.x) || decide (r.Y ≤ r.y)
def R4.has (r : R4) (a b : Int) : Bool := decide (r.x ≤ a) && decide (a < r.X) && decide (r.y ≤ b) && decide (b < r.Y)
theorem R4.no_iff {r : R4} : r.no = true ↔ r.X ≤ r.x ∨ r.Y ≤ r.y := by simp [R4.no]
theorem R4.no_not {r : R4} : r.no = false ↔ r.x < r.X ∧ r.y < r.Y := by simp [R4.no]
theorem R4.has_iff {r : R4} {a b : Int} : r.has a b = true ↔ (r.x ≤ a ∧ a < r.X) ∧ r.y ≤ b ∧ b < r.Y := by simp [R4.has, and_assoc]
theorem R4.has_no {r : R4} (h : r.no = true) (a b : Int) : r.has a b = false := by
  rw [R4.no_iff] at h
  cases hh : r.has a b with
  | false => rfl
  | true => rw [R4.has_iff] at hh; omega
/-- Of two intervals. -/
def cutR (r : R4) (p q h : Int) : R4 :=
  if (R4.mk (max r.x p) (max r.y q) (min r.X (p + h)) (min r.Y (q + h))).no then ⟨-p, -q, -p, -q⟩ else ⟨max r.x p - p, max r.y q - q, min r.X (p + h) - p, min r.Y (q + h) - q⟩
/-- A rectangle's part in one of four of level n, seen from its corner. -/
def qR (r : R4) (n : Nat) (c d : Bool) : R4 := cutR r (off n c) (off n d) (2 ^ n)
theorem off_cases (n : Nat) (c : Bool) : off n c = 0 ∨ off n c = 2 ^ n := by cases c <;> simp [off]
theorem off_rng (n : Nat) (c : Bool) : 0 ≤ off n c ∧ off n c ≤ 2 ^ n := by have := pow_pos2 n; rcases off_cases n c with h | h <;> omega
theorem cutR_has (r : R4) (p q h : Int) {a b : Int} (ha : 0 ≤ a ∧ a < h) (hb : 0 ≤ b ∧ b < h) : (cutR r p q h).has a b = r.has (a + p) (b + q) := by
  rw [Bool.eq_iff_iff, R4.has_iff, R4.has_iff]
  unfold cutR
  split
  · rename_i hm
    rw [R4.no_iff] at hm
    simp only at hm ⊢
    omega
  · simp only
    omega
theorem qR_has (r : R4) (n : Nat) (c d : Bool) {a b : Int} (ha : 0 ≤ a ∧ a < 2 ^ n) (hb : 0 ≤ b ∧ b < 2 ^ n) : (qR r n c d).has a b = r.has (a + off n c) (b + off n d) := cutR_has r _ _ _ ha hb
theorem cutR_in (r : R4) (p q h : Int) : (cutR r p q h).no = true ∨ (0 ≤ (cutR r p q h).x ∧ (cutR r p q h).X ≤ h ∧ 0 ≤ (cutR r p q h).y ∧ (cutR r p q h).Y ≤ h) := by
  unfold cutR
  split
  · left; rw [R4.no_iff]; simp
  · right; simp only; omega
/-- The parts of one rectangle: how they may end. -/
def Pr (P : R4) (n : Nat) (r : R4) : Prop := r.no = true ∨ ((r.x = 0 ∨ r.x = P.x % 2 ^ n) ∧ (r.X = 2 ^ n ∨ r.X = (P.X - 1) % 2 ^ n + 1) ∧ (r.y = 0 ∨ r.y = P.y % 2 ^ n) ∧ (r.Y = 2 ^ n ∨ r.Y = (P.Y - 1) % 2 ^ n + 1))
theorem mod_half (n : Nat) (a : Int) : (a % 2 ^ (n + 1) < 2 ^ n → a % 2 ^ (n + 1) = a % 2 ^ n) ∧ (2 ^ n ≤ a % 2 ^ (n + 1) → a % 2 ^ (n + 1) - 2 ^ n = a % 2 ^ n) := by
  have hp := pow_pos2 n
  have h2 := pow_two2 n
  have h0 := Int.emod_nonneg a (show (2 : Int) ^ (n + 1) ≠ 0 by omega)
  have h1 := Int.emod_lt_of_pos a (show (0 : Int) < 2 ^ (n + 1) by omega)
  have e : a % 2 ^ (n + 1) % 2 ^ n = a % 2 ^ n := Int.emod_emod_of_dvd a (by rw [h2]; exact Int.dvd_mul_left 2 (2 ^ n))
  generalize a % 2 ^ (n + 1) = b at *
  refine ⟨fun h => ?_, fun h => ?_⟩
  · rw [← e, Int.emod_eq_of_lt h0 h]
  · have : (b - 2 ^ n) % 2 ^ n = a % 2 ^ n := by rw [Int.sub_emod_right]; exact e
    rw [← this, Int.emod_eq_of_lt (by omega) (by omega)]
theorem pr_lo {n : Nat} {P x : Int} (_ : 0 ≤ x) (h : x = 0 ∨ x = P % 2 ^ (n + 1)) (c : Bool) (hc : x < off n c + 2 ^ n) : max x (off n c) - off n c = 0 ∨ max x (off n c) - off n c = P % 2 ^ n := by
  have hp := pow_pos2 n
  obtain ⟨m1, m2⟩ := mod_half n P
  cases c <;> simp only [off, Bool.false_eq_true, if_false, if_true] at hc ⊢ <;> omega
theorem pr_hi {n : Nat} {P X : Int} (h0 : X ≤ 2 ^ (n + 1)) (h : X = 2 ^ (n + 1) ∨ X = (P - 1) % 2 ^ (n + 1) + 1) (c : Bool) (hc : off n c < X) : min X (off n c + 2 ^ n) - off n c = 2 ^ n ∨ min X (off n c + 2 ^ n) - off n c = (P - 1) % 2 ^ n + 1 := by
  have hp := pow_pos2 n
  have h2 := pow_two2 n
  obtain ⟨m1, m2⟩ := mod_half n (P - 1)
  cases c <;> simp only [off, Bool.false_eq_true, if_false, if_true] at hc ⊢ <;> omega
/-- A rectangle within a square of level n. -/
def RIn (n : Nat) (r : R4) : Prop := r.no = true ∨ (0 ≤ r.x ∧ r.X ≤ 2 ^ n ∧ 0 ≤ r.y ∧ r.Y ≤ 2 ^ n)
theorem qR_in (r : R4) (n : Nat) (c d : Bool) : RIn n (qR r n c d) := cutR_in r _ _ _
theorem qR_pr {P r : R4} {n : Nat} (h : Pr P (n + 1) r) (hi : RIn (n + 1) r) (c d : Bool) : Pr P n (qR r n c d) := by
  by_cases hno : (R4.mk (max r.x (off n c)) (max r.y (off n d)) (min r.X (off n c + 2 ^ n)) (min r.Y (off n d + 2 ^ n))).no = true
  · left
    unfold qR cutR
    rw [if_pos hno, R4.no_iff]; simp
  · have hp := pow_pos2 n
    have h2 := pow_two2 n
    have hm := R4.no_not.1 (Bool.not_eq_true _ ▸ hno)
    simp only at hm
    have hrno : ¬ r.no = true := by rw [R4.no_iff]; omega
    obtain ⟨p1, p2, p3, p4⟩ := h.resolve_left hrno
    obtain ⟨i1, i2, i3, i4⟩ := hi.resolve_left hrno
    right
    unfold qR cutR
    rw [if_neg hno]
    exact ⟨pr_lo i1 p1 c (by omega), pr_hi i2 p2 c (by omega), pr_lo i3 p3 d (by omega), pr_hi i4 p4 d (by omega)⟩
/-- The squares as they are, each cell of a square a function's. -/
def Con (N : List Nd) (n x : Nat) (f : Int → Int → Nat) : Prop := Sq N n x ∧ ∀ X Y, 0 ≤ X ∧ X < 2 ^ n → 0 ≤ Y ∧ Y < 2 ^ n → getZ N n x X Y = f X Y
theorem Con.app {N : List Nd} (hw : Wf N) {n x : Nat} {f : Int → Int → Nat} (E : List Nd) (h : Con N n x f) : Con (N ++ E) n x f := ⟨h.1.app E, fun X Y hX hY => (get_app hw E h.1 X Y).trans (h.2 X Y hX hY)⟩
theorem Con.of {N : List Nd} {n x : Nat} {f g : Int → Int → Nat} (h : Con N n x f) (hf : ∀ X Y, 0 ≤ X ∧ X < 2 ^ n → 0 ≤ Y ∧ Y < 2 ^ n → f X Y = g X Y) : Con N n x g := ⟨h.1, fun X Y hX hY => (h.2 X Y hX hY).trans (hf X Y hX hY)⟩
theorem Con.inj {N : List Nd} (hw : Wf N) {n x y : Nat} {f : Int → Int → Nat} (hx : Con N n x f) (hy : Con N n y f) : x = y := by
  refine get_inj hw hx.1 hy.1 fun X Y => ?_
  rw [← get_mod N n x, ← get_mod N n y]
  have hp := pow_pos2 n
  have h0 := Int.emod_nonneg X (show (2 : Int) ^ n ≠ 0 by omega)
  have h1 := Int.emod_lt_of_pos X hp
  have h2 := Int.emod_nonneg Y (show (2 : Int) ^ n ≠ 0 by omega)
  have h3 := Int.emod_lt_of_pos Y hp
  rw [hx.2 _ _ ⟨h0, h1⟩ ⟨h2, h3⟩, hy.2 _ _ ⟨h0, h1⟩ ⟨h2, h3⟩]
/-- One of four of a function's square. -/
def qF (f : Int → Int → Nat) (n : Nat) (c d : Bool) : Int → Int → Nat := fun X Y => f (X + off n c) (Y + off n d)
theorem con_make {N : List Nd} {n x : Nat} {f : Int → Int → Nat} (h : Sq N (n + 1) x) (hk : ∀ c d, Con N n (pick (kidZ N x) c d) (qF f n c d)) : Con N (n + 1) x f := by
  refine ⟨h, fun X Y hX hY => ?_⟩
  show getZ N n (pick (kidZ N x) (qb n X) (qb n Y)) X Y = f X Y
  rw [← get_off N n _ (qb n X) (qb n Y), (hk (qb n X) (qb n Y)).2 _ _ ((rng_off n _ X).2 ⟨hX.1, hX.2, rfl⟩) ((rng_off n _ Y).2 ⟨hY.1, hY.2, rfl⟩)]
  unfold qF
  rw [Int.sub_add_cancel, Int.sub_add_cancel]
/-- A new square is a piece of a function's square. -/
def Pc (n : Nat) (f : Int → Int → Nat) (N : List Nd) (y : Nat) : Prop := ∃ (j : Nat) (A B : Int), j ≤ n ∧ (0 ≤ A ∧ A + 2 ^ j ≤ 2 ^ n ∧ A % 2 ^ j = 0) ∧ (0 ≤ B ∧ B + 2 ^ j ≤ 2 ^ n ∧ B % 2 ^ j = 0) ∧ Con N j y (fun X Y => f (X + A) (Y + B))
theorem Pc.self {n : Nat} {f : Int → Int → Nat} {N : List Nd} {y : Nat} (h : Con N n y f) : Pc n f N y :=
  ⟨n, 0, 0, Nat.le_refl _, ⟨by omega, by omega, by simp⟩, ⟨by omega, by omega, by simp⟩, by simpa using h⟩
theorem Pc.app {n : Nat} {f : Int → Int → Nat} {N : List Nd} (hw : Wf N) {y : Nat} (E : List Nd) (h : Pc n f N y) : Pc n f (N ++ E) y := by
  obtain ⟨j, A, B, h1, h2, h3, h4⟩ := h
  exact ⟨j, A, B, h1, h2, h3, h4.app hw E⟩
theorem off_mod {n j : Nat} (h : j ≤ n) (c : Bool) : off n c % 2 ^ j = 0 := by
  rcases off_cases n c with e | e
  · rw [e]; simp
  · rw [e]
    obtain ⟨d, rfl⟩ := Nat.exists_eq_add_of_le h
    rw [Int.pow_add]
    exact Int.mul_emod_right _ _
theorem Pc.up {n : Nat} {f : Int → Int → Nat} {N : List Nd} {y : Nat} {c d : Bool} (h : Pc n (qF f n c d) N y) : Pc (n + 1) f N y := by
  obtain ⟨j, A, B, h1, ⟨a1, a2, a3⟩, ⟨b1, b2, b3⟩, h4⟩ := h
  have hc := off_rng n c
  have hd := off_rng n d
  have h2 := pow_two2 n
  refine ⟨j, A + off n c, B + off n d, by omega, ⟨by omega, by omega, ?_⟩, ⟨by omega, by omega, ?_⟩, ?_⟩
  · rw [Int.add_emod, a3, off_mod h1]; simp
  · rw [Int.add_emod, b3, off_mod h1]; simp
  · refine h4.of fun X Y _ _ => ?_
    unfold qF
    rw [Int.add_assoc, Int.add_assoc]
theorem Pc.of {n : Nat} {f g : Int → Int → Nat} {N : List Nd} {y : Nat} (h : Pc n f N y) (hf : ∀ X Y, 0 ≤ X ∧ X < 2 ^ n → 0 ≤ Y ∧ Y < 2 ^ n → f X Y = g X Y) : Pc n g N y := by
  obtain ⟨j, A, B, h1, h2, h3, h4⟩ := h
  exact ⟨j, A, B, h1, h2, h3, h4.of fun X Y hX hY => hf _ _ (by omega) (by omega)⟩
/-- What is new in a store is made of pieces of a function's square. -/
def New8 (N : List Nd) (n : Nat) (f : Int → Int → Nat) (N' : List Nd) : Prop := (∃ E, N' = N ++ E) ∧ ∀ y, N.length ≤ y → y < N'.length → Pc n f N' y
theorem New8.refl (N : List Nd) (n : Nat) (f : Int → Int → Nat) : New8 N n f N := ⟨⟨[], by simp⟩, fun y h1 h2 => by omega⟩
theorem New8.trans {N N1 N2 : List Nd} {n : Nat} {f : Int → Int → Nat} (hw : Wf N1) (h : New8 N n f N1) (h' : New8 N1 n f N2) : New8 N n f N2 := by
  obtain ⟨⟨E, rfl⟩, h1⟩ := h
  obtain ⟨⟨F, rfl⟩, h2⟩ := h'
  refine ⟨⟨E ++ F, by rw [List.append_assoc]⟩, fun y hy hl => ?_⟩
  rcases Nat.lt_or_ge y (N ++ E).length with h | h
  · exact (h1 y hy h).app hw F
  · exact h2 y h hl
theorem New8.up {N N' : List Nd} {n : Nat} {f : Int → Int → Nat} {c d : Bool} (h : New8 N n (qF f n c d) N') : New8 N (n + 1) f N' := ⟨h.1, fun y h1 h2 => (h.2 y h1 h2).up⟩
theorem New8.of {N N' : List Nd} {n : Nat} {f g : Int → Int → Nat} (h : New8 N n f N') (hf : ∀ X Y, 0 ≤ X ∧ X < 2 ^ n → 0 ≤ Y ∧ Y < 2 ^ n → f X Y = g X Y) : New8 N n g N' := ⟨h.1, fun y h1 h2 => (h.2 y h1 h2).of hf⟩
theorem New8.con {N N' : List Nd} {n m x : Nat} {f g : Int → Int → Nat} (hw : Wf N) (h : New8 N n f N') (hc : Con N m x g) : Con N' m x g := by
  obtain ⟨⟨E, rfl⟩, _⟩ := h
  exact hc.app hw E
/-- Make of four that have their cells. -/
theorem mk_con {N : List Nd} {most n : Nat} {k : K4} {f : Int → Int → Nat} (hw : Wf N) (hn : n < 62) (hk : ∀ c d, Con N n (pick k c d) (qF f n c d)) :
    (mkZ N most k = (N, 0, 7) ∧ most ≤ N.length) ∨ ∃ N' r, mkZ N most k = (N', r, 0) ∧ Con N' (n + 1) r f ∧ New8 N (n + 1) f N' := by
  have hfo : Fo N n k := fun c d => (hk c d).1
  rcases mk_case (most := most) hw hn hfo with h | ⟨E, hm, hE, hsq, hkid, hth⟩
  · exact Or.inl h
  · right
    generalize (mkZ N most k).2.1 = r at *
    have hcon : Con (N ++ E) (n + 1) r f := con_make hsq fun c d => by rw [hkid]; exact (hk c d).app hw E
    refine ⟨N ++ E, r, hm, hcon, ⟨E, rfl⟩, fun y h1 h2 => ?_⟩
    have hlr := hsq.lt
    rw [List.length_append] at h2 hlr
    have hr : N.length ≤ r := by
      apply Classical.byContradiction
      intro hlt
      have hlt' : r < N.length := by omega
      have hE0 := hth ⟨r, by unfold Sq; rw [← lv_app E hlt']; exact hsq, by rw [← kid_app E hlt']; exact hkid⟩
      rw [hE0] at h2; simp at h2; omega
    obtain rfl : y = r := by omega
    exact Pc.self hcon
/-- Empty: what is new has no living cells. -/
theorem em_con {most : Nat} : ∀ (n : Nat) {N : List Nd} {x j : Nat}, Wf N → N.length ≤ most → Con N j x (fun _ _ => 0) → j + n ≤ 62 →
    (∃ N', emZ most n N x = (N', 0, 7) ∧ New8 N (j + n) (fun _ _ => 0) N' ∧ most ≤ N'.length ∧ Wf N') ∨ ∃ N' r, emZ most n N x = (N', r, 0) ∧ Con N' (j + n) r (fun _ _ => 0) ∧ New8 N (j + n) (fun _ _ => 0) N' ∧ Wf N'
  | 0, N, x, j, hw, _, he, _ => Or.inr ⟨N, x, rfl, he, New8.refl _ _ _, hw⟩
  | n + 1, N, x, j, hw, hl, he, hjn => by
    obtain ⟨wf1, wf2, wf3⟩ := mk_wf (most := most) (x, x, x, x) hw hl
    rcases mk_con (most := most) (n := j) (k := (x, x, x, x)) (f := fun _ _ => 0) hw (by omega) (fun c d => by rw [pick_all]; exact he) with ⟨hm, hfull⟩ | ⟨N1, r, hm, hc, hnew⟩
    · left
      refine ⟨N, by simp only [emZ, hm]; simp, New8.refl _ _ _, hfull, hw⟩
    · rw [hm] at wf1 wf2 wf3
      have hstep : emZ most (n + 1) N x = emZ most n N1 r := by simp only [emZ, hm]; simp
      rw [hstep]
      have upn : ∀ m, New8 N (j + 1) (fun _ _ => 0) N1 → New8 N (j + 1 + m) (fun _ _ => 0) N1 := fun m => by
        induction m with
        | zero => exact id
        | succ m ih => exact fun h => New8.up (c := false) (d := false) (ih h)
      rw [show j + (n + 1) = j + 1 + n by omega]
      rcases em_con n (j := j + 1) wf1 wf2 hc (by omega) with ⟨N2, h1, h2, h3, h4⟩ | ⟨N2, t, h1, h2, h3, h4⟩
      · exact Or.inl ⟨N2, h1, (upn n hnew).trans wf1 h2, h3, h4⟩
      · exact Or.inr ⟨N2, t, h1, h2, (upn n hnew).trans wf1 h3, h4⟩
/-- The number Dead stands for a square without living cells. -/
theorem get_dead {N : List Nd} (hw : Wf N) : ∀ (n : Nat) (X Y : Int), getZ N n 0 X Y = 0
  | 0, _, _ => rfl
  | n + 1, X, Y => by
    show getZ N n (pick (kidZ N 0) _ _) X Y = 0
    rw [show kidZ N 0 = (0, 0, 0, 0) by unfold kidZ; rw [hw.dead], pick_all]
    exact get_dead hw n X Y
def Sq0 (N : List Nd) (n x : Nat) : Prop := x = 0 ∨ Sq N n x
theorem Sq0.app {N : List Nd} {n x : Nat} (E : List Nd) (h : Sq0 N n x) : Sq0 (N ++ E) n x := h.imp id (fun h => h.app E)
theorem Sq0.get_app {N : List Nd} (hw : Wf N) (E : List Nd) (hw' : Wf (N ++ E)) {n x : Nat} (h : Sq0 N n x) (X Y : Int) : getZ (N ++ E) n x X Y = getZ N n x X Y := by
  rcases h with rfl | h
  · rw [get_dead hw, get_dead hw']
  · exact Go.Proofs.YtnfjmmkokhncoaaGreat.get_app hw E h X Y
theorem Sq0.kid {N : List Nd} (hw : Wf N) {n x : Nat} (h : Sq0 N (n + 1) x) (c d : Bool) : Sq0 N n (pick (kidZ N x) c d) := by
  rcases h with rfl | h
  · left; rw [show kidZ N 0 = (0, 0, 0, 0) by unfold kidZ; rw [hw.dead], pick_all]
  · exact Or.inr (h.kid hw c d)
/-- A square after a change: some cells are alive, a rectangle's others are c. -/
def Tc (N : List Nd) (n x : Nat) (r : R4) (c : Nat) (L : List (Int × Int)) : Int → Int → Nat := fun X Y => if (X, Y) ∈ L then 1 else if r.has X Y then c else getZ N n x X Y
/-- The points of a list in one of four. -/
def qL (L : List (Int × Int)) (n : Nat) (c d : Bool) : List (Int × Int) := (L.filter fun p => qb n p.1 == c && qb n p.2 == d).map fun p => (p.1 % 2 ^ n, p.2 % 2 ^ n)
def LIn (n : Nat) (L : List (Int × Int)) : Prop := ∀ p ∈ L, (0 ≤ p.1 ∧ p.1 < 2 ^ n) ∧ 0 ≤ p.2 ∧ p.2 < 2 ^ n
theorem qL_in (L : List (Int × Int)) (n : Nat) (c d : Bool) : LIn n (qL L n c d) := fun p hp => by
  unfold qL at hp
  rw [List.mem_map] at hp
  obtain ⟨q, _, rfl⟩ := hp
  have h := pow_pos2 n
  exact ⟨⟨Int.emod_nonneg _ (by omega), Int.emod_lt_of_pos _ h⟩, Int.emod_nonneg _ (by omega), Int.emod_lt_of_pos _ h⟩
theorem mod_off {n : Nat} {X : Int} (h : 0 ≤ X ∧ X < 2 ^ (n + 1)) : X % 2 ^ n = X - off n (qb n X) := by
  obtain ⟨h0, h1⟩ := (rng_off n (qb n X) X).2 ⟨h.1, h.2, rfl⟩
  have : (X - off n (qb n X)) % 2 ^ n = X % 2 ^ n := by
    rw [Int.sub_emod, off_mod (Nat.le_refl n), Int.sub_zero, Int.emod_emod]
  rw [← this, Int.emod_eq_of_lt h0 h1]
theorem qL_mem {L : List (Int × Int)} {n : Nat} (hL : LIn (n + 1) L) (c d : Bool) {X Y : Int} (hX : 0 ≤ X ∧ X < 2 ^ n) (hY : 0 ≤ Y ∧ Y < 2 ^ n) : (X, Y) ∈ qL L n c d ↔ (X + off n c, Y + off n d) ∈ L := by
  unfold qL
  rw [List.mem_map]
  constructor
  · rintro ⟨⟨p, q⟩, h, e⟩
    rw [List.mem_filter] at h
    simp only [Bool.and_eq_true, beq_iff_eq] at h
    obtain ⟨hm, rfl, rfl⟩ := h
    obtain ⟨hp, hq⟩ := hL _ hm
    simp only [Prod.mk.injEq] at e
    obtain ⟨rfl, rfl⟩ := e
    rw [mod_off hp, mod_off hq, Int.sub_add_cancel, Int.sub_add_cancel]
    exact hm
  · intro hm
    obtain ⟨hp, hq⟩ := hL _ hm
    have b1 := ((rng_off n c (X + off n c)).1 (by rw [Int.add_sub_cancel]; exact hX)).2.2
    have b2 := ((rng_off n d (Y + off n d)).1 (by rw [Int.add_sub_cancel]; exact hY)).2.2
    refine ⟨_, List.mem_filter.2 ⟨hm, by simp only [b1, b2]; simp⟩, ?_⟩
    simp only at hp hq
    rw [mod_off hp, mod_off hq, b1, b2, Int.add_sub_cancel, Int.add_sub_cancel]
theorem Tc_q {N : List Nd} {n x : Nat} {r : R4} {c : Nat} {L : List (Int × Int)} (hL : LIn (n + 1) L) (a b : Bool) {X Y : Int} (hX : 0 ≤ X ∧ X < 2 ^ n) (hY : 0 ≤ Y ∧ Y < 2 ^ n) : Tc N n (pick (kidZ N x) a b) (qR r n a b) c (qL L n a b) X Y = qF (Tc N (n + 1) x r c L) n a b X Y := by
  unfold Tc qF
  rw [qR_has r n a b hX hY]
  simp only [qL_mem hL a b hX hY]
  have b1 := ((rng_off n a (X + off n a)).1 (by rw [Int.add_sub_cancel]; exact hX)).2.2
  have b2 := ((rng_off n b (Y + off n b)).1 (by rw [Int.add_sub_cancel]; exact hY)).2.2
  have e : getZ N (n + 1) x (X + off n a) (Y + off n b) = getZ N n (pick (kidZ N x) a b) X Y := by
    show getZ N n (pick (kidZ N x) (qb n (X + off n a)) (qb n (Y + off n b))) _ _ = _
    rw [b1, b2, ← get_off N n _ a b, Int.add_sub_cancel, Int.add_sub_cancel]
  rw [e]
theorem Tc_app {N : List Nd} (hw : Wf N) (E : List Nd) (hw' : Wf (N ++ E)) {n x : Nat} (h : Sq0 N n x) (r : R4) (c : Nat) (L : List (Int × Int)) : Tc (N ++ E) n x r c L = Tc N n x r c L := by
  funext X Y
  unfold Tc
  rw [h.get_app hw E hw']
end Go.Proofs.YtnfjmmkokhncoaaGreat
end
