/- Planes as squares of a store: plain mathematics, no program. -/
import Derived.Test.YtgciceogggldhaaS6
namespace Go.Proofs.Ytgciceogggldhaa

/-- One of four: on the right? below? -/
def pick (k : K4) (r b : Bool) : Nat := if b then (if r then k.2.2.2 else k.2.2.1) else (if r then k.2.1 else k.1)
def kidZ (N : List Nd) (x : Nat) : K4 := match N[x]? with | some n => n.k | none => (0, 0, 0, 0)
/-- A bit of a number. -/
def qb (n : Nat) (X : Int) : Bool := decide (X / 2 ^ n % 2 = 1)
/-- The cell of a square of level n at a place. -/
def getZ (N : List Nd) : Nat → Nat → Int → Int → Nat
  | 0, x, _, _ => x
  | n + 1, x, X, Y => getZ N n (pick (kidZ N x) (qb n X) (qb n Y)) X Y
/-- A square of a level. -/
def Sq (N : List Nd) (n x : Nat) : Prop := lvZ N x = (n : Int)
/-- Four squares of a level. -/
def Fo (N : List Nd) (n : Nat) (k : K4) : Prop := ∀ r b, Sq N n (pick k r b)
theorem pow_pos2 (n : Nat) : (0 : Int) < 2 ^ n := Int.pow_pos (by decide)
theorem pow_two2 (n : Nat) : (2 : Int) ^ (n + 1) = 2 * 2 ^ n := by rw [Int.pow_succ]; omega
theorem qb_lo {n : Nat} {X : Int} (h0 : 0 ≤ X) (h1 : X < 2 ^ n) : qb n X = false := by
  unfold qb; rw [Int.ediv_eq_zero_of_lt h0 h1]; rfl
theorem qb_add (n : Nat) (X c : Int) : qb n (X + c * 2 ^ (n + 1)) = qb n X := by
  unfold qb
  have e : (X + c * 2 ^ (n + 1)) / 2 ^ n = X / 2 ^ n + c * 2 := by
    rw [pow_two2, show c * (2 * 2 ^ n) = (c * 2) * 2 ^ n by rw [Int.mul_assoc], Int.add_mul_ediv_right _ _ (by have := pow_pos2 n; omega)]
  rw [e]
  have : (X / 2 ^ n + c * 2) % 2 = X / 2 ^ n % 2 := by omega
  rw [this]
theorem qb_one (n : Nat) (X : Int) : qb n (X + 2 ^ n) = !qb n X := by
  unfold qb
  have e : (X + 2 ^ n) / 2 ^ n = X / 2 ^ n + 1 := by
    have := Int.add_mul_ediv_right X 1 (show (2 : Int) ^ n ≠ 0 by have := pow_pos2 n; omega)
    rw [Int.one_mul] at this; exact this
  rw [e]
  rcases Int.emod_two_eq (X / 2 ^ n) with h | h
  · rw [h, show (X / 2 ^ n + 1) % 2 = 1 by omega]; rfl
  · rw [h, show (X / 2 ^ n + 1) % 2 = 0 by omega]; rfl
theorem qb_hi {n : Nat} {X : Int} (h0 : 2 ^ n ≤ X) (h1 : X < 2 ^ (n + 1)) : qb n X = true := by
  have := qb_one n (X - 2 ^ n)
  rw [Int.sub_add_cancel, qb_lo (X := X - 2 ^ n) (by omega) (by rw [pow_two2] at h1; omega)] at this
  exact this
theorem qb_neg {n : Nat} {X : Int} (h0 : -2 ^ n ≤ X) (h1 : X < 0) : qb n X = true := by
  have := qb_one n X
  rw [qb_lo (X := X + 2 ^ n) (by omega) (by omega)] at this
  cases h : qb n X
  · rw [h] at this; cases this
  · rfl
theorem qb_far {n : Nat} {X : Int} (h0 : -2 ^ (n + 1) ≤ X) (h1 : X < -2 ^ n) : qb n X = false := by
  have := qb_one n X
  rw [qb_neg (X := X + 2 ^ n) (by rw [pow_two2] at h0; omega) (by omega)] at this
  cases h : qb n X
  · rfl
  · rw [h] at this; cases this
theorem get_add (N : List Nd) : ∀ (n x : Nat) (X Y c d : Int), getZ N n x (X + c * 2 ^ n) (Y + d * 2 ^ n) = getZ N n x X Y
  | 0, _, _, _, _, _ => rfl
  | n + 1, x, X, Y, c, d => by
    show getZ N n (pick (kidZ N x) (qb n (X + c * 2 ^ (n + 1))) (qb n (Y + d * 2 ^ (n + 1)))) (X + c * 2 ^ (n + 1)) (Y + d * 2 ^ (n + 1)) = getZ N n (pick (kidZ N x) (qb n X) (qb n Y)) X Y
    rw [qb_add, qb_add, show c * 2 ^ (n + 1) = (c * 2) * 2 ^ n by rw [pow_two2, Int.mul_assoc], show d * 2 ^ (n + 1) = (d * 2) * 2 ^ n by rw [pow_two2, Int.mul_assoc]]
    exact get_add N n _ X Y _ _
theorem get_mod (N : List Nd) (n x : Nat) (X Y : Int) : getZ N n x (X % 2 ^ n) (Y % 2 ^ n) = getZ N n x X Y := by
  have := get_add N n x (X % 2 ^ n) (Y % 2 ^ n) (X / 2 ^ n) (Y / 2 ^ n)
  have e1 : X % 2 ^ n + X / 2 ^ n * 2 ^ n = X := by rw [Int.mul_comm]; exact Int.emod_add_mul_ediv X _
  have e2 : Y % 2 ^ n + Y / 2 ^ n * 2 ^ n = Y := by rw [Int.mul_comm]; exact Int.emod_add_mul_ediv Y _
  rw [e1, e2] at this
  exact this.symm
theorem Sq.lt {N : List Nd} {n x : Nat} (h : Sq N n x) : x < N.length := lv_lt (by rw [h]; omega)
theorem Sq.app {N : List Nd} {n x : Nat} (E : List Nd) (h : Sq N n x) : Sq (N ++ E) n x := (lv_app E h.lt).trans h
theorem Sq.zero {N : List Nd} (hw : Wf N) {x : Nat} (h : Sq N 0 x) : x = 0 ∨ x = 1 := by
  have hl := h.lt
  unfold Sq at h
  rw [lv_of hl] at h
  have := (hw.lv_pos (List.getElem?_eq_getElem hl)).2
  by_cases h2 : 2 ≤ x
  · have := this h2; omega
  · omega
theorem sq_dead {N : List Nd} (hw : Wf N) : Sq N 0 0 := by unfold Sq lvZ; rw [hw.dead]
theorem sq_alive {N : List Nd} (hw : Wf N) : Sq N 0 1 := by unfold Sq lvZ; rw [hw.alive]
theorem Sq.node {N : List Nd} (hw : Wf N) {n x : Nat} (h : Sq N (n + 1) x) : ∃ nd, N[x]? = some nd ∧ 2 ≤ x ∧ nd.lv = n + 1 ∧ nd.k = kidZ N x := by
  have hl := h.lt
  have hx := List.getElem?_eq_getElem hl
  unfold Sq at h
  rw [lv_of hl] at h
  refine ⟨N[x], hx, (hw.lv_pos hx).1 (by omega), by omega, ?_⟩
  unfold kidZ; rw [hx]
theorem Sq.kid {N : List Nd} (hw : Wf N) {n x : Nat} (h : Sq N (n + 1) x) : Fo N n (kidZ N x) := by
  obtain ⟨nd, hx, h2, hl, hk⟩ := h.node hw
  obtain ⟨_, _, _, _, _, _, a, b, c, d, _⟩ := hw.up x nd h2 hx
  rw [← hk]
  intro r b'
  unfold Sq
  cases r <;> cases b' <;> simp only [pick, if_true, if_false, Bool.false_eq_true] <;> omega
theorem kid_app {N : List Nd} {x : Nat} (E : List Nd) (h : x < N.length) : kidZ (N ++ E) x = kidZ N x := by
  unfold kidZ; rw [List.getElem?_append_left h]
theorem Fo.app {N : List Nd} {n : Nat} {k : K4} (E : List Nd) (h : Fo N n k) : Fo (N ++ E) n k := fun r b => (h r b).app E
theorem get_app {N : List Nd} (hw : Wf N) (E : List Nd) : ∀ {n x : Nat}, Sq N n x → ∀ X Y, getZ (N ++ E) n x X Y = getZ N n x X Y
  | 0, _, _, _, _ => rfl
  | n + 1, x, h, X, Y => by
    show getZ (N ++ E) n (pick (kidZ (N ++ E) x) (qb n X) (qb n Y)) X Y = getZ N n (pick (kidZ N x) (qb n X) (qb n Y)) X Y
    rw [kid_app E h.lt]
    exact get_app hw E (h.kid hw _ _) X Y
theorem get_cell {N : List Nd} (hw : Wf N) : ∀ {n x : Nat}, Sq N n x → ∀ X Y, getZ N n x X Y = 0 ∨ getZ N n x X Y = 1
  | 0, _, h, _, _ => h.zero hw
  | _ + 1, _, h, X, Y => get_cell hw (h.kid hw _ _) X Y
theorem pick_ext {k k' : K4} (h : ∀ r b, pick k r b = pick k' r b) : k = k' := by
  obtain ⟨a, b, c, d⟩ := k
  obtain ⟨a', b', c', d'⟩ := k'
  have h0 := h false false
  have h1 := h true false
  have h2 := h false true
  have h3 := h true true
  simp only [pick, if_true, Bool.false_eq_true, if_false] at h0 h1 h2 h3
  rw [h0, h1, h2, h3]
theorem exb (n : Nat) (X : Int) (r : Bool) : ∃ X', qb n X' = r ∧ X' % 2 ^ n = X % 2 ^ n := by
  by_cases h : qb n X = r
  · exact ⟨X, h, rfl⟩
  · refine ⟨X + 2 ^ n, ?_, by simp⟩
    rw [qb_one]; cases r <;> cases hq : qb n X <;> simp_all
/-- Squares of one level with the same cells are one. -/
theorem get_inj {N : List Nd} (hw : Wf N) : ∀ {n x y : Nat}, Sq N n x → Sq N n y → (∀ X Y, getZ N n x X Y = getZ N n y X Y) → x = y
  | 0, x, y, _, _, h => h 0 0
  | n + 1, x, y, hx, hy, h => by
    obtain ⟨nx, ex, x2, _, kx⟩ := hx.node hw
    obtain ⟨ny, ey, y2, _, ky⟩ := hy.node hw
    refine hw.one x y nx ny x2 y2 ex ey ?_
    rw [kx, ky]
    refine pick_ext fun r b => get_inj hw (hx.kid hw r b) (hy.kid hw r b) fun X Y => ?_
    obtain ⟨X', h1, h2⟩ := exb n X r
    obtain ⟨Y', h3, h4⟩ := exb n Y b
    have := h X' Y'
    simp only [getZ, h1, h3] at this
    rw [← get_mod N n (pick (kidZ N x) r b), ← get_mod N n (pick (kidZ N y) r b), ← h2, ← h4, get_mod, get_mod]
    exact this
/-- A square without living cells. -/
def Em (N : List Nd) (n x : Nat) : Prop := Sq N n x ∧ ∀ X Y, getZ N n x X Y = 0
theorem Em.app {N : List Nd} (hw : Wf N) {n x : Nat} (E : List Nd) (h : Em N n x) : Em (N ++ E) n x := ⟨h.1.app E, fun X Y => (get_app hw E h.1 X Y).trans (h.2 X Y)⟩
/-- There are squares without living cells up to a level. -/
def HasEm (N : List Nd) (L : Nat) : Prop := ∀ j, j ≤ L → ∃ e, Em N j e
theorem HasEm.app {N : List Nd} (hw : Wf N) {L : Nat} (E : List Nd) (h : HasEm N L) : HasEm (N ++ E) L := fun j hj => by
  obtain ⟨e, he⟩ := h j hj
  exact ⟨e, he.app hw E⟩
theorem HasEm.mono {N : List Nd} {L M : Nat} (h : HasEm N L) (hM : M ≤ L) : HasEm N M := fun j hj => h j (by omega)
/-- Make of four squares of a level: an end, with room or without. -/
theorem mk_case {N : List Nd} {most n : Nat} {k : K4} (hw : Wf N) (hn : n < 62) (hk : Fo N n k) :
    (mkZ N most k = (N, 0, 7) ∧ most ≤ N.length) ∨ ∃ E, mkZ N most k = (N ++ E, (mkZ N most k).2.1, 0) ∧ E.length ≤ 1 ∧ Sq (N ++ E) (n + 1) (mkZ N most k).2.1 ∧ kidZ (N ++ E) (mkZ N most k).2.1 = k ∧ ((∃ x, Sq N (n + 1) x ∧ kidZ N x = k) → E = []) := by
  have h0 := hk false false
  have h1 := hk true false
  have h2 := hk false true
  have h3 := hk true true
  simp only [pick, if_true, Bool.false_eq_true, if_false] at h0 h1 h2 h3
  have l0 : lvZ N k.1 = n := h0
  have hf : FitZ N k := ⟨by rw [l0]; omega, by rw [l0]; omega, by rw [l0]; exact h1, by rw [l0]; exact h2, by rw [l0]; exact h3⟩
  cases hfd : findZ N k with
  | some i =>
    obtain ⟨hi, nd, hnd, hk⟩ := find_some hfd
    obtain ⟨p1, _, _, _, _, _, pl, _⟩ := hw.up i nd hi hnd
    rw [hk, l0] at pl
    right
    rw [mk_there hf hfd]
    refine ⟨[], by simp, by simp, ?_, ?_, fun _ => rfl⟩
    · unfold Sq lvZ; simp only [List.append_nil, hnd]; omega
    · unfold kidZ; simp only [List.append_nil, hnd]; exact hk
  | none =>
    rcases Nat.lt_or_ge N.length most with hm | hm
    · right
      rw [mk_add hf hfd hm]
      refine ⟨[newNd N k], rfl, by simp, ?_, ?_, fun ⟨x, hx, hkx⟩ => ?_⟩
      · unfold Sq lvZ; simp [newNd, l0]
      · unfold kidZ; simp [newNd]
      · obtain ⟨nd, e1, e2, _, e4⟩ := hx.node hw
        exact absurd (e4.trans hkx) (find_none hfd x nd e2 e1)
    · left
      exact ⟨mk_full hf hfd hm, hm⟩
theorem pick_all (x : Nat) (r b : Bool) : pick (x, x, x, x) r b = x := by cases r <;> cases b <;> rfl
/-- Empty: an end. -/
theorem em_case {most : Nat} : ∀ (n : Nat) {N : List Nd} {x j L : Nat}, Wf N → N.length ≤ most → Em N j x → j + n ≤ 62 → HasEm N L → HasEm N j →
    (∃ E, emZ most n N x = (N ++ E, 0, 7) ∧ E.length ≤ (j + n) - max L j ∧ most ≤ (N ++ E).length ∧ Wf (N ++ E)) ∨ ∃ E, emZ most n N x = (N ++ E, (emZ most n N x).2.1, 0) ∧ E.length ≤ (j + n) - max L j ∧ Em (N ++ E) (j + n) (emZ most n N x).2.1 ∧ HasEm (N ++ E) (max L (j + n)) ∧ Wf (N ++ E)
  | 0, N, x, j, L, hw, _, he, _, hL, hj => by
    right
    refine ⟨[], by simp [emZ], by simp, by simpa [emZ] using he, ?_, by simpa using hw⟩
    simp only [List.append_nil, Nat.add_zero]
    intro i hi
    by_cases h : i ≤ L
    · exact hL i h
    · exact hj i (by omega)
  | n + 1, N, x, j, L, hw, hl, he, hjn, hL, hj => by
    have hfo : Fo N j (x, x, x, x) := fun r b => by rw [pick_all]; exact he.1
    obtain ⟨wf1, wf2, wf3⟩ := mk_wf (most := most) (x, x, x, x) hw hl
    rcases mk_case (most := most) hw (show j < 62 by omega) hfo with ⟨hm, hfull⟩ | ⟨E, hm, hE, hsq, hkid, hthere⟩
    · left
      refine ⟨[], ?_, by simp, by simpa using hfull, by simpa using hw⟩
      simp only [emZ, hm, List.append_nil]
      simp
    · generalize (mkZ N most (x, x, x, x)).2.1 = y at *
      rw [hm] at wf1 wf2 wf3
      have hey : Em (N ++ E) (j + 1) y := ⟨hsq, fun X Y => by
        show getZ (N ++ E) j (pick (kidZ (N ++ E) y) _ _) X Y = 0
        rw [hkid, pick_all, get_app hw E he.1]
        exact he.2 X Y⟩
      have hj1 : HasEm (N ++ E) (j + 1) := fun i hi => by
        rcases Nat.lt_or_ge j i with h | h
        · obtain rfl : i = j + 1 := by omega
          exact ⟨y, hey⟩
        · exact (hj.app hw E) i h
      have hE2 : j + 1 ≤ L → E = [] := fun hle => hthere (by
        obtain ⟨e, he2⟩ := hL (j + 1) hle
        refine ⟨e, he2.1, pick_ext fun r b => ?_⟩
        rw [pick_all]
        refine get_inj hw (he2.1.kid hw r b) he.1 fun X Y => ?_
        rw [he.2]
        obtain ⟨X', h1, h2⟩ := exb j X r
        obtain ⟨Y', h3, h4⟩ := exb j Y b
        have := he2.2 X' Y'
        simp only [getZ, h1, h3] at this
        rw [← get_mod, ← h2, ← h4, get_mod]
        exact this)
      have hstep : emZ most (n + 1) N x = emZ most n (N ++ E) y := by
        simp only [emZ, hm]
        simp
      rw [hstep]
      have hEb : E.length + ((j + 1 + n) - max L (j + 1)) ≤ (j + (n + 1)) - max L j := by
        by_cases h : j + 1 ≤ L
        · rw [hE2 h]; simp only [List.length_nil]; omega
        · omega
      rcases em_case n (j := j + 1) wf1 wf2 hey (by omega) (hL.app hw E) hj1 with ⟨F, h1, h2, h3, h4⟩ | ⟨F, h1, h2, h3, h4, h5⟩
      · left
        exact ⟨E ++ F, by rw [← List.append_assoc]; exact h1, by rw [List.length_append]; omega, by rw [← List.append_assoc]; exact h3, by rw [← List.append_assoc]; exact h4⟩
      · right
        refine ⟨E ++ F, by rw [← List.append_assoc]; exact h1, by rw [List.length_append]; omega, ?_, ?_, by rw [← List.append_assoc]; exact h5⟩
        · rw [← List.append_assoc, show j + (n + 1) = j + 1 + n by omega]; exact h3
        · rw [← List.append_assoc, show j + (n + 1) = j + 1 + n by omega]; exact h4
/-- Is the cell at a point alive, of the plane that has these four, of level n each? -/
def inS (n : Nat) (a : Int) : Bool := decide (-2 ^ n ≤ a) && decide (a < 2 ^ n)
theorem inS_iff {n : Nat} {a : Int} : inS n a = true ↔ -2 ^ n ≤ a ∧ a < 2 ^ n := by simp [inS]
def alK (N : List Nd) (n : Nat) (k : K4) (a b : Int) : Bool := inS n a && inS n b && (getZ N n (pick k (decide (0 ≤ a)) (decide (0 ≤ b))) a b == 1)
theorem inS_up {n : Nat} {a : Int} (h : inS n a = true) : inS (n + 1) a = true := by
  rw [inS_iff] at h ⊢; rw [pow_two2]; have := pow_pos2 n; omega
theorem inS_mono {n m : Nat} {a : Int} (hm : n ≤ m) (h : inS n a = true) : inS m a = true := by
  induction m with
  | zero => obtain rfl : n = 0 := by omega
            exact h
  | succ m ih =>
    rcases Nat.lt_or_ge m n with h' | h'
    · obtain rfl : n = m + 1 := by omega
      exact h
    · exact inS_up (ih h')
theorem qb_in {n : Nat} {a : Int} (h : inS n a = true) : qb n a = !decide (0 ≤ a) := by
  rw [inS_iff] at h
  by_cases h0 : 0 ≤ a
  · rw [qb_lo h0 h.2, decide_eq_true h0]; rfl
  · rw [qb_neg h.1 (by omega), decide_eq_false h0]; rfl
theorem qb_out {n : Nat} {a : Int} (h : inS n a = false) (h' : inS (n + 1) a = true) : qb n a = decide (0 ≤ a) := by
  have hn : ¬ (-2 ^ n ≤ a ∧ a < 2 ^ n) := fun hh => by rw [inS_iff.2 hh] at h; cases h
  rw [inS_iff] at h'
  by_cases h0 : 0 ≤ a
  · rw [decide_eq_true h0]; exact qb_hi (by have := pow_pos2 n; omega) h'.2
  · rw [decide_eq_false h0]; exact qb_far h'.1 (by have := pow_pos2 n; omega)
theorem alK_app {N : List Nd} (hw : Wf N) (E : List Nd) {n : Nat} {k : K4} (h : Fo N n k) (a b : Int) : alK (N ++ E) n k a b = alK N n k a b := by
  unfold alK; rw [get_app hw E (h _ _)]
/-- The way that Get goes. -/
theorem get_root {N : List Nd} {n x : Nat} {a b : Int} (ha : inS n a = true) (hb : inS n b = true) : getZ N (n + 1) x (a + 2 ^ n) (b + 2 ^ n) = getZ N n (pick (kidZ N x) (decide (0 ≤ a)) (decide (0 ≤ b))) a b := by
  show getZ N n (pick (kidZ N x) (qb n (a + 2 ^ n)) (qb n (b + 2 ^ n))) (a + 2 ^ n) (b + 2 ^ n) = _
  rw [qb_one, qb_one, qb_in ha, qb_in hb, Bool.not_not, Bool.not_not]
  have := get_add N n (pick (kidZ N x) (decide (0 ≤ a)) (decide (0 ≤ b))) a b 1 1
  rw [Int.one_mul] at this
  exact this
theorem al_root {N : List Nd} {n x : Nat} (a b : Int) : alK N n (kidZ N x) a b = (inS n a && inS n b && (getZ N (n + 1) x (a + 2 ^ n) (b + 2 ^ n) == 1)) := by
  unfold alK
  cases ha : inS n a with
  | false => rfl
  | true =>
    cases hb : inS n b with
    | false => rfl
    | true => rw [get_root ha hb]
/-- A square of four, one in a corner, the others without living cells. -/
theorem al_raise {N : List Nd} {n e : Nat} {k k' : K4} (he : ∀ X Y, getZ N n e X Y = 0)
    (hk : ∀ r b r' b', pick (kidZ N (pick k' r b)) r' b' = if r' = !r ∧ b' = !b then pick k r b else e) (a b : Int) : alK N (n + 1) k' a b = alK N n k a b := by
  unfold alK
  have hg : getZ N (n + 1) (pick k' (decide (0 ≤ a)) (decide (0 ≤ b))) a b = getZ N n (if qb n a = !decide (0 ≤ a) ∧ qb n b = !decide (0 ≤ b) then pick k (decide (0 ≤ a)) (decide (0 ≤ b)) else e) a b := by
    show getZ N n (pick (kidZ N (pick k' (decide (0 ≤ a)) (decide (0 ≤ b)))) (qb n a) (qb n b)) a b = _
    rw [hk]
  rw [hg]
  cases ha : inS n a with
  | true =>
    rw [inS_up ha, qb_in ha]
    cases hb : inS n b with
    | true => rw [inS_up hb, qb_in hb, if_pos ⟨rfl, rfl⟩]
    | false =>
      cases hb' : inS (n + 1) b with
      | false => rfl
      | true =>
        rw [qb_out hb hb', if_neg (by intro h; cases hd : decide (0 ≤ b) <;> rw [hd] at h <;> simp at h), he]
        rfl
  | false =>
    cases ha' : inS (n + 1) a with
    | false => rfl
    | true =>
      rw [qb_out ha ha', if_neg (by intro h; cases hd : decide (0 ≤ a) <;> rw [hd] at h <;> simp at h), he]
      cases inS (n + 1) b <;> rfl
/-- The four in the middle. -/
theorem al_middle {N : List Nd} {n : Nat} {k k' : K4} (hk : ∀ r b, pick k' r b = pick (kidZ N (pick k r b)) (!r) (!b)) (a b : Int) : alK N n k' a b = (inS n a && inS n b && alK N (n + 1) k a b) := by
  unfold alK
  cases ha : inS n a with
  | false => rfl
  | true =>
    cases hb : inS n b with
    | false => rfl
    | true =>
      rw [inS_up ha, inS_up hb, hk]
      simp only [Bool.and_self, Bool.true_and]
      show _ = (getZ N n (pick (kidZ N (pick k (decide (0 ≤ a)) (decide (0 ≤ b)))) (qb n a) (qb n b)) a b == 1)
      rw [qb_in ha, qb_in hb]
end Go.Proofs.Ytgciceogggldhaa
