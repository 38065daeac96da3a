-- P02
import Derived.Test.YtaapkngpnlnjeaaGreatDoorP01
section
namespace Go.Proofs.YtaapkngpnlnjeaaGreatDoor

/-- One of four: on the right? below? -/
def pick (k : K4) (r b : Bool) : Nat := if b then (if r then k.2.2.2 else k.2.2.1) else (if r then k.2.1 else k.1)
def kidZ (N : List Nd) (x : Nat) : K4 := match N[x]? with | some n => n.k | none => (0, 0, 0, 0)
/-- A bit of a number. -/
def qb (n : Nat) (X : Int) : Bool := decide (X / 2 ^ n % 2 = 1)
/-- The cell of a square of level n at a place. -/
def getZ (N : List Nd) : Nat → Nat → Int → Int → Nat
  | 0, x, _, _ => x
  | n + 1, x, X, Y => getZ N n (pick (kidZ N x) (qb n X) (qb n Y)) X Y
/-- A square of a level. -/
def Sq (N : List Nd) (n x : Nat) : Prop := lvZ N x = (n : Int)
/-- Four squares of a level. -/
def Fo (N : List Nd) (n : Nat) (k : K4) : Prop := ∀ r b, Sq N n (pick k r b)
theorem pow_pos2 (n : Nat) : (0 : Int) < 2 ^ n := Int.pow_pos (by decide)
theorem pow_two2 (n : Nat) : (2 : Int) ^ (n + 1) = 2 * 2 ^ n := by rw [Int.pow_succ]; omega
theorem qb_lo {n : Nat} {X : Int} (h0 : 0 ≤ X) (h1 : X < 2 ^ n) : qb n X = false := by
  unfold qb; rw [Int.ediv_eq_zero_of_lt h0 h1]; rfl
theorem qb_add (n : Nat) (X c : Int) : qb n (X + c * 2 ^ (n + 1)) = qb n X := by
  unfold qb
  have e : (X + c * 2 ^ (n + 1)) / 2 ^ n = X / 2 ^ n + c * 2 := by
    rw [pow_two2, show c * (2 * 2 ^ n) = (c * 2) * 2 ^ n by rw [Int.mul_assoc], Int.add_mul_ediv_right _ _ (by have := pow_pos2 n; omega)]
  rw [e]
  have : (X / 2 ^ n + c * 2) % 2 = X / 2 ^ n % 2 := by omega
  rw [this]
theorem qb_one (n : Nat) (X : Int) : qb n (X + 2 ^ n) = !qb n X := by
  unfold qb
  have e : (X + 2 ^ n) / 2 ^ n = X / 2 ^ n + 1 := by
    have := Int.add_mul_ediv_right X 1 (show (2 : Int) ^ n ≠ 0 by have := pow_pos2 n; omega)
    rw [Int.one_mul] at this; exact this
  rw [e]
  rcases Int.emod_two_eq (X / 2 ^ n) with h | h
  · rw [h, show (X / 2 ^ n + 1) % 2 = 1 by omega]; rfl
  · rw [h, show (X / 2 ^ n + 1) % 2 = 0 by omega]; rfl
theorem qb_hi {n : Nat} {X : Int} (h0 : 2 ^ n ≤ X) (h1 : X < 2 ^ (n + 1)) : qb n X = true := by
  have := qb_one n (X - 2 ^ n)
  rw [Int.sub_add_cancel, qb_lo (X := X - 2 ^ n) (by omega) (by rw [pow_two2] at h1; omega)] at this
  exact this
theorem qb_neg {n : Nat} {X : Int} (h0 : -2 ^ n ≤ X) (h1 : X < 0) : qb n X = true := by
  have := qb_one n X
  rw [qb_lo (X := X + 2 ^ n) (by omega) (by omega)] at this
  cases h : qb n X
  · rw [h] at this; cases this
  · rfl
theorem qb_far {n : Nat} {X : Int} (h0 : -2 ^ (n + 1) ≤ X) (h1 : X < -2 ^ n) : qb n X = false := by
  have := qb_one n X
  rw [qb_neg (X := X + 2 ^ n) (by rw [pow_two2] at h0; omega) (by omega)] at this
  cases h : qb n X
  · rfl
  · rw [h] at this; cases this
theorem get_add (N : List Nd) : ∀ (n x : Nat) (X Y c d : Int), getZ N n x (X + c * 2 ^ n) (Y + d * 2 ^ n) = getZ N n x X Y
  | 0, _, _, _, _, _ => rfl
  | n + 1, x, X, Y, c, d => by
    show getZ N n (pick (kidZ N x) (qb n (X + c * 2 ^ (n + 1))) (qb n (Y + d * 2 ^ (n + 1)))) (X + c * 2 ^ (n + 1)) (Y + d * 2 ^ (n + 1)) = getZ N n (pick (kidZ N x) (qb n X) (qb n Y)) X Y
    rw [qb_add, qb_add, show c * 2 ^ (n + 1) = (c * 2) * 2 ^ n by rw [pow_two2, Int.mul_assoc], show d * 2 ^ (n + 1) = (d * 2) * 2 ^ n by rw [pow_two2, Int.mul_assoc]]
    exact get_add N n _ X Y _ _
theorem get_mod (N : List Nd) (n x : Nat) (X Y : Int) : getZ N n x (X % 2 ^ n) (Y % 2 ^ n) = getZ N n x X Y := by
  have := get_add N n x (X % 2 ^ n) (Y % 2 ^ n) (X / 2 ^ n) (Y / 2 ^ n)
  have e1 : X % 2 ^ n + X / 2 ^ n * 2 ^ n = X := by rw [Int.mul_comm]; exact Int.emod_add_mul_ediv X _
  have e2 : Y % 2 ^ n + Y / 2 ^ n * 2 ^ n = Y := by rw [Int.mul_comm]; exact Int.emod_add_mul_ediv Y _
  rw [e1, e2] at this
  exact this.symm
theorem Sq.lt {N : List Nd} {n x : Nat} (h : Sq N n x) : x < N.length := lv_lt (by rw [h]; omega)
theorem Sq.app {N : List Nd} {n x : Nat} (E : List Nd) (h : Sq N n x) : Sq (N ++ E) n x := (lv_app E h.lt).trans h
theorem Sq.zero {N : List Nd} (hw : Wf N) {x : Nat} (h : Sq N 0 x) : x = 0 ∨ x = 1 := by
  have hl := h.lt
  unfold Sq at h
  rw [lv_of hl] at h
  have := (hw.lv_pos (List.getElem?_eq_getElem hl)).2
  by_cases h2 : 2 ≤ x
  · have := this h2; omega
  · omega
theorem sq_dead {N : List Nd} (hw : Wf N) : Sq N 0 0 := by unfold Sq lvZ; rw [hw.dead]
theorem sq_alive {N : List Nd} (hw : Wf N) : Sq N 0 1 := by unfold Sq lvZ; rw [hw.alive]
theorem Sq.node {N : List Nd} (hw : Wf N) {n x : Nat} (h : Sq N (n + 1) x) : ∃ nd, N[x]? = some nd ∧ 2 ≤ x ∧ nd.lv = n + 1 ∧ nd.k = kidZ N x := by
  have hl := h.lt
  have hx := List.getElem?_eq_getElem hl
  unfold Sq at h
  rw [lv_of hl] at h
  refine ⟨N[x], hx, (hw.lv_pos hx).1 (by omega), by omega, ?_⟩
  unfold kidZ; rw [hx]
theorem Sq.kid {N : List Nd} (hw : Wf N) {n x : Nat} (h : Sq N (n + 1) x) : Fo N n (kidZ N x) := by
  obtain ⟨nd, hx, h2, hl, hk⟩ := h.node hw
  obtain ⟨_, _, _, _, _, _, a, b, c, d, _⟩ := hw.up x nd h2 hx
  rw [← hk]
  intro r b'
  unfold Sq
  cases r <;> cases b' <;> simp only [pick, if_true, if_false, Bool.false_eq_true] <;> omega
theorem kid_app {N : List Nd} {x : Nat} (E : List Nd) (h : x < N.length) : kidZ (N ++ E) x = kidZ N x := by
  unfold kidZ; rw [List.getElem?_append_left h]
theorem Fo.app {N : List Nd} {n : Nat} {k : K4} (E : List Nd) (h : Fo N n k) : Fo (N ++ E) n k := fun r b => (h r b).app E
theorem get_app {N : List Nd} (hw : Wf N) (E : List Nd) : ∀ {n x : Nat}, Sq N n x → ∀ X Y, getZ (N ++ E) n x X Y = getZ N n x X Y
  | 0, _, _, _, _ => rfl
  | n + 1, x, h, X, Y => by
    show getZ (N ++ E) n (pick (kidZ (N ++ E) x) (qb n X) (qb n Y)) X Y = getZ N n (pick (kidZ N x) (qb n X) (qb n Y)) X Y
    rw [kid_app E h.lt]
    exact get_app hw E (h.kid hw _ _) X Y
theorem get_cell {N : List Nd} (hw : Wf N) : ∀ {n x : Nat}, Sq N n x → ∀ X Y, getZ N n x X Y = 0 ∨ getZ N n x X Y = 1
  | 0, _, h, _, _ => h.zero hw
  | _ + 1, _, h, X, Y => get_cell hw (h.kid hw _ _) X Y
theorem pick_ext {k k' : K4} (h : ∀ r b, pick k r b = pick k' r b) : k = k' := by
  obtain ⟨a, b, c, d⟩ := k
  obtain ⟨a', b', c', d'⟩ := k'
  have h0 := h false false
  have h1 := h true false
  have h2 := h false true
  have h3 := h true true
  simp only [pick, if_true, Bool.false_eq_true, if_false] at h0 h1 h2 h3
  rw [h0, h1, h2, h3]
theorem exb (n : Nat) (X : Int) (r : Bool) : ∃ X', qb n X' = r ∧ X' % 2 ^ n = X % 2 ^ n := by
  by_cases h : qb n X = r
  · exact ⟨X, h, rfl⟩
  · refine ⟨X + 2 ^ n, ?_, by simp⟩
    rw [qb_one]; cases r <;> cases hq : qb n X <;> simp_all
/-- Squares of one level with the same cells are one. -/
theorem get_inj {N : List Nd} (hw : Wf N) : ∀ {n x y : Nat}, Sq N n x → Sq N n y → (∀ X Y, getZ N n x X Y = getZ N n y X Y) → x = y
  | 0, x, y, _, _, h => h 0 0
  | n + 1, x, y, hx, hy, h => by
    obtain ⟨nx, ex, x2, _, kx⟩ := hx.node hw
    obtain ⟨ny, ey, y2, _, ky⟩ := hy.node hw
    refine hw.one x y nx ny x2 y2 ex ey ?_
    rw [kx, ky]
    refine pick_ext fun r b => get_inj hw (hx.kid hw r b) (hy.kid hw r b) fun X Y => ?_
    obtain ⟨X', h1, h2⟩ := exb n X r
    obtain ⟨Y', h3, h4⟩ := exb n Y b
    have := h X' Y'
    simp only [getZ, h1, h3] at this
    rw [← get_mod N n (pick (kidZ N x) r b), ← get_mod N n (pick (kidZ N y) r b), ← h2, ← h4, get_mod, get_mod]
    exact this
/-- A square without living cells. -/
def Em (N : List Nd) (n x : Nat) : Prop := Sq N n x ∧ ∀ X Y, getZ N n x X Y = 0
theorem Em.app {N : List Nd} (hw : Wf N) {n x : Nat} (E : List Nd) (h : Em N n x) : Em (N ++ E) n x := ⟨h.1.app E, fun X Y => (get_app hw E h.1 X Y).trans (h.2 X Y)⟩
/-- There are squares without living cells up to a level. -/
def HasEm (N : List Nd) (L : Nat) : Prop := ∀ j, j ≤ L → ∃ e, Em N j e
theorem HasEm.app {N : List Nd} (hw : Wf N) {L : Nat} (E : List Nd) (h : HasEm N L) : HasEm (N ++ E) L := fun j hj => by
  obtain ⟨e, he⟩ := h j hj
  exact ⟨e, he.app hw E⟩
theorem HasEm.mono {N : List Nd} {L M : Nat} (h : HasEm N L) (hM : M ≤ L) : HasEm N M := fun j hj => h j (by omega)
/-- Make of four squares of a level: an end, with room or without. -/
theorem mk_case {N : List Nd} {most n : Nat} {k : K4} (hw : Wf N) (hn : n < 62) (hk : Fo N n k) :
    (mkZ N most k = (N, 0, 7) ∧ most ≤ N.length) ∨ ∃ E, mkZ N most k = (N ++ E, (mkZ N most k).2.1, 0) ∧ E.length ≤ 1 ∧ Sq (N ++ E) (n + 1) (mkZ N most k).2.1 ∧ kidZ (N ++ E) (mkZ N most k).2.1 = k ∧ ((∃ x, Sq N (n + 1) x ∧ kidZ N x = k) → E = []) := by
  have h0 := hk false false
  have h1 := hk true false
  have h2 := hk false true
  have h3 := hk true true
  simp only [pick, if_true, Bool.false_eq_true, if_false] at h0 h1 h2 h3
  have l0 : lvZ N k.1 = n := h0
  have hf : FitZ N k := ⟨by rw [l0]; omega, by rw [l0]; omega, by rw [l0]; exact h1, by rw [l0]; exact h2, by rw [l0]; exact h3⟩
  cases hfd : findZ N k with
  | some i =>
    obtain ⟨hi, nd, hnd, hk⟩ := find_some hfd
    obtain ⟨p1, _, _, _, _, _, pl, _⟩ := hw.up i nd hi hnd
    rw [hk, l0] at pl
    right
    rw [mk_there hf hfd]
    refine ⟨[], by simp, by simp, ?_, ?_, fun _ => rfl⟩
    · unfold Sq lvZ; simp only [List.append_nil, hnd]; omega
    · unfold kidZ; simp only [List.append_nil, hnd]; exact hk
  | none =>
    rcases Nat.lt_or_ge N.length most with hm | hm
    · right
      rw [mk_add hf hfd hm]
      refine ⟨[newNd N k], rfl, by simp, ?_, ?_, fun ⟨x, hx, hkx⟩ => ?_⟩
      · unfold Sq lvZ; simp [newNd, l0]
      · unfold kidZ; simp [newNd]
      · obtain ⟨nd, e1, e2, _, e4⟩ := hx.node hw
        exact absurd (e4.trans hkx) (find_none hfd x nd e2 e1)
    · left
      exact ⟨mk_full hf hfd hm, hm⟩
theorem pick_all (x : Nat) (r b : Bool) : pick (x, x, x, x) r b = x := by cases r <;> cases b <;> rfl
/-- Empty: an end. -/
theorem em_case {most : Nat} : ∀ (n : Nat) {N : List Nd} {x j L : Nat}, Wf N → N.length ≤ most → Em N j x → j + n ≤ 62 → HasEm N L → HasEm N j →
    (∃ E, emZ most n N x = (N ++ E, 0, 7) ∧ E.length ≤ (j + n) - max L j ∧ most ≤ (N ++ E).length ∧ Wf (N ++ E)) ∨ ∃ E, emZ most n N x = (N ++ E, (emZ most n N x).2.1, 0) ∧ E.length ≤ (j + n) - max L j ∧ Em (N ++ E) (j + n) (emZ most n N x).2.1 ∧ HasEm (N ++ E) (max L (j + n)) ∧ Wf (N ++ E)
  | 0, N, x, j, L, hw, _, he, _, hL, hj => by
    right
    refine ⟨[], by simp [emZ], by simp, by simpa [emZ] using he, ?_, by simpa using hw⟩
    simp only [List.append_nil, Nat.add_zero]
    intro i hi
    by_cases h : i ≤ L
    · exact hL i h
    · exact hj i (by omega)
  | n + 1, N, x, j, L, hw, hl, he, hjn, hL, hj => by
    have hfo : Fo N j (x, x, x, x) := fun r b => by rw [pick_all]; exact he.1
    obtain ⟨wf1, wf2, wf3⟩ := mk_wf (most := most) (x, x, x, x) hw hl
    rcases mk_case (most := most) hw (show j < 62 by omega) hfo with ⟨hm, hfull⟩ | ⟨E, hm, hE, hsq, hkid, hthere⟩
    · left
      refine ⟨[], ?_, by simp, by simpa using hfull, by simpa using hw⟩
      simp only [emZ, hm, List.append_nil]
      simp
    · generalize (mkZ N most (x, x, x, x)).2.1 = y at *
      rw [hm] at wf1 wf2 wf3
      have hey : Em (N ++ E) (j + 1) y := ⟨hsq, fun X Y => by
        show getZ (N ++ E) j (pick (kidZ (N ++ E) y) _ _) X Y = 0
        rw [hkid, pick_all, get_app hw E he.1]
        exact he.2 X Y⟩
      have hj1 : HasEm (N ++ E) (j + 1) := fun i hi => by
        rcases Nat.lt_or_ge j i with h | h
        · obtain rfl : i = j + 1 := by omega
          exact ⟨y, hey⟩
        · exact (hj.app hw E) i h
      have hE2 : j + 1 ≤ L → E = [] := fun hle => hthere (by
        obtain ⟨e, he2⟩ := hL (j + 1) hle
        refine ⟨e, he2.1, pick_ext fun r b => ?_⟩
        rw [pick_all]
        refine get_inj hw (he2.1.kid hw r b) he.1 fun X Y => ?_
        rw [he.2]
        obtain ⟨X', h1, h2⟩ := exb j X r
        obtain ⟨Y', h3, h4⟩ := exb j Y b
        have := he2.2 X' Y'
        simp only [getZ, h1, h3] at this
        rw [← get_mod, ← h2, ← h4, get_mod]
        exact this)
      have hstep : emZ most (n + 1) N x = emZ most n (N ++ E) y := by
        simp only [emZ, hm]
        simp
      rw [hstep]
      have hEb : E.length + ((j + 1 + n) - max L (j + 1)) ≤ (j + (n + 1)) - max L j := by
        by_cases h : j + 1 ≤ L
        · rw [hE2 h]; simp only [List.length_nil]; omega
        · omega
      rcases em_case n (j := j + 1) wf1 wf2 hey (by omega) (hL.app hw E) hj1 with ⟨F, h1, h2, h3, h4⟩ | ⟨F, h1, h2, h3, h4, h5⟩
      · left
        exact ⟨E ++ F, by rw [← List.append_assoc]; exact h1, by rw [List.length_append]; omega, by rw [← List.append_assoc]; exact h3, by rw [← List.append_assoc]; exact h4⟩
      · right
        refine ⟨E ++ F, by rw [← List.append_assoc]; exact h1, by rw [List.length_append]; omega, ?_, ?_, by rw [← List.append_assoc]; exact h5⟩
        · rw [← List.append_assoc, show j + (n + 1) = j + 1 + n by omega]; exact h3
        · rw [← List.append_assoc, show j + (n + 1) = j + 1 + n by omega]; exact h4
/-- Is the cell at a point alive, of the plane that has these four, of level n each? -/
def inS (n : Nat) (a : Int) : Bool := decide (-2 ^ n ≤ a) && decide (a < 2 ^ n)
theorem inS_iff {n : Nat} {a : Int} : inS n a = true ↔ -2 ^ n ≤ a ∧ a < 2 ^ n := by simp [inS]
def alK (N : List Nd) (n : Nat) (k : K4) (a b : Int) : Bool := inS n a && inS n b && (getZ N n (pick k (decide (0 ≤ a)) (decide (0 ≤ b))) a b == 1)
theorem inS_up {n : Nat} {a : Int} (h : inS n a = true) : inS (n + 1) a = true := by
  rw [inS_iff] at h ⊢; rw [pow_two2]; have := pow_pos2 n; omega
theorem inS_mono {n m : Nat} {a : Int} (hm : n ≤ m) (h : inS n a = true) : inS m a = true := by
  induction m with
  | zero => obtain rfl : n = 0 := by omega
            exact h
  | succ m ih =>
    rcases Nat.lt_or_ge m n with h' | h'
    · obtain rfl : n = m + 1 := by omega
      exact h
    · exact inS_up (ih h')
theorem qb_in {n : Nat} {a : Int} (h : inS n a = true) : qb n a = !decide (0 ≤ a) := by
  rw [inS_iff] at h
  by_cases h0 : 0 ≤ a
  · rw [qb_lo h0 h.2, decide_eq_true h0]; rfl
  · rw [qb_neg h.1 (by omega), decide_eq_false h0]; rfl
theorem qb_out {n : Nat} {a : Int} (h : inS n a = false) (h' : inS (n + 1) a = true) : qb n a = decide (0 ≤ a) := by
  have hn : ¬ (-2 ^ n ≤ a ∧ a < 2 ^ n) := fun hh => by rw [inS_iff.2 hh] at h; cases h
  rw [inS_iff] at h'
  by_cases h0 : 0 ≤ a
  · rw [decide_eq_true h0]; exact qb_hi (by have := pow_pos2 n; omega) h'.2
  · rw [decide_eq_false h0]; exact qb_far h'.1 (by have := pow_pos2 n; omega)
theorem alK_app {N : List Nd} (hw : Wf N) (E : List Nd) {n : Nat} {k : K4} (h : Fo N n k) (a b : Int) : alK (N ++ E) n k a b = alK N n k a b := by
  unfold alK; rw [get_app hw E (h _ _)]
/-- The way that Get goes. -/
theorem get_root {N : List Nd} {n x : Nat} {a b : Int} (ha : inS n a = true) (hb : inS n b = true) : getZ N (n + 1) x (a + 2 ^ n) (b + 2 ^ n) = getZ N n (pick (kidZ N x) (decide (0 ≤ a)) (decide (0 ≤ b))) a b := by
  show getZ N n (pick (kidZ N x) (qb n (a + 2 ^ n)) (qb n (b + 2 ^ n))) (a + 2 ^ n) (b + 2 ^ n) = _
  rw [qb_one, qb_one, qb_in ha, qb_in hb, Bool.not_not, Bool.not_not]
  have := get_add N n (pick (kidZ N x) (decide (0 ≤ a)) (decide (0 ≤ b))) a b 1 1
  rw [Int.one_mul] at this
  exact this
theorem al_root {N : List Nd} {n x : Nat} (a b : Int) : alK N n (kidZ N x) a b = (inS n a && inS n b && (getZ N (n + 1) x (a + 2 ^ n) (b + 2 ^ n) == 1)) := by
  unfold alK
  cases ha : inS n a with
  | false => rfl
  | true =>
    cases hb : inS n b with
    | false => rfl
    | true => rw [get_root ha hb]
/-- A square of four, one in a corner, the others without living cells. -/
theorem al_raise {N : List Nd} {n e : Nat} {k k' : K4} (he : ∀ X Y, getZ N n e X Y = 0)
    (hk : ∀ r b r' b', pick (kidZ N (pick k' r b)) r' b' = if r' = !r ∧ b' = !b then pick k r b else e) (a b : Int) : alK N (n + 1) k' a b = alK N n k a b := by
  unfold alK
  have hg : getZ N (n + 1) (pick k' (decide (0 ≤ a)) (decide (0 ≤ b))) a b = getZ N n (if qb n a = !decide (0 ≤ a) ∧ qb n b = !decide (0 ≤ b) then pick k (decide (0 ≤ a)) (decide (0 ≤ b)) else e) a b := by
    show getZ N n (pick (kidZ N (pick k' (decide (0 ≤ a)) (decide (0 ≤ b)))) (qb n a) (qb n b)) a b = _
    rw [hk]
  rw [hg]
  cases ha : inS n a with
  | true =>
    rw [inS_up ha, qb_in ha]
    cases hb : inS n b with
    | true => rw [inS_up hb, qb_in hb, if_pos ⟨rfl, rfl⟩]
    | false =>
      cases hb' : inS (n + 1) b with
      | false => rfl
      | true =>
        rw [qb_out hb hb', if_neg (by intro h; cases hd : decide (0 ≤ b) <;> rw [hd] at h <;> simp at h), he]
        rfl
  | false =>
    cases ha' : inS (n + 1) a with
    | false => rfl
    | true =>
      rw [qb_out ha ha', if_neg (by intro h; cases hd : decide (0 ≤ a) <;> rw [hd] at h <;> simp at h), he]
      cases inS (n + 1) b <;> rfl
/-- The four in the middle. -/
theorem al_middle {N : List Nd} {n : Nat} {k k' : K4} (hk : ∀ r b, pick k' r b = pick (kidZ N (pick k r b)) (!r) (!b)) (a b : Int) : alK N n k' a b = (inS n a && inS n b && alK N (n + 1) k a b) := by
  unfold alK
  cases ha : inS n a with
  | false => rfl
  | true =>
    cases hb : inS n b with
    | false => rfl
    | true =>
      rw [inS_up ha, inS_up hb, hk]
      simp only [Bool.and_self, Bool.true_and]
      show _ = (getZ N n (pick (kidZ N (pick k (decide (0 ≤ a)) (decide (0 ≤ b)))) (qb n a) (qb n b)) a b == 1)
      rw [qb_in ha, qb_in hb]
end Go.Proofs.YtaapkngpnlnjeaaGreatDoor
end

section
namespace Go.Proofs.YtaapkngpnlnjeaaGreatDoor

def off (n : Nat) (r : Bool) : Int := if r then 2 ^ n else 0
def sh (dx dy : Int) (l : List (Int × Int)) : List (Int × Int) := l.map fun p => (p.1 + dx, p.2 + dy)
/-- The living cells of a square, from its corner on. -/
def cellsQ (N : List Nd) : Nat → Nat → List (Int × Int)
  | 0, x => if x = 1 then [(0, 0)] else []
  | n + 1, x => sh (off n false) (off n false) (cellsQ N n (pick (kidZ N x) false false)) ++ (sh (off n true) (off n false) (cellsQ N n (pick (kidZ N x) true false)) ++ (sh (off n false) (off n true) (cellsQ N n (pick (kidZ N x) false true)) ++ sh (off n true) (off n true) (cellsQ N n (pick (kidZ N x) true true))))
theorem mem_sh {dx dy X Y : Int} {l : List (Int × Int)} : (X, Y) ∈ sh dx dy l ↔ (X - dx, Y - dy) ∈ l := by
  unfold sh
  rw [List.mem_map]
  constructor
  · rintro ⟨⟨a, b⟩, h, e⟩
    simp only [Prod.mk.injEq] at e
    rw [show X - dx = a by omega, show Y - dy = b by omega]
    exact h
  · intro h
    exact ⟨_, h, by simp⟩
theorem rng_off (n : Nat) (r : Bool) (X : Int) : (0 ≤ X - off n r ∧ X - off n r < 2 ^ n) ↔ (0 ≤ X ∧ X < 2 ^ (n + 1) ∧ qb n X = r) := by
  have hp := pow_pos2 n
  have h2 := pow_two2 n
  cases r
  · simp only [off, Bool.false_eq_true, if_false]
    constructor
    · rintro ⟨h0, h1⟩
      exact ⟨by omega, by omega, qb_lo (by omega) (by omega)⟩
    · rintro ⟨h0, h1, h3⟩
      refine ⟨by omega, ?_⟩
      apply Classical.byContradiction
      intro hn
      rw [qb_hi (by omega) h1] at h3
      cases h3
  · simp only [off, if_true]
    constructor
    · rintro ⟨h0, h1⟩
      exact ⟨by omega, by omega, qb_hi (by omega) (by omega)⟩
    · rintro ⟨h0, h1, h3⟩
      refine ⟨?_, by omega⟩
      apply Classical.byContradiction
      intro hn
      rw [qb_lo h0 (by omega)] at h3
      cases h3
theorem get_off (N : List Nd) (n x : Nat) (r b : Bool) (X Y : Int) : getZ N n x (X - off n r) (Y - off n b) = getZ N n x X Y := by
  have e : ∀ (r : Bool) (X : Int), X - off n r = X + (if r then -1 else 0) * 2 ^ n := fun r X => by
    cases r
    · simp [off]
    · simp only [off, if_true]; omega
  rw [e, e]
  exact get_add N n x X Y _ _
theorem mem_part {N : List Nd} {n x : Nat} (ih : ∀ X Y, (X, Y) ∈ cellsQ N n x ↔ (0 ≤ X ∧ X < 2 ^ n) ∧ (0 ≤ Y ∧ Y < 2 ^ n) ∧ getZ N n x X Y = 1) (r b : Bool) (X Y : Int) :
    (X, Y) ∈ sh (off n r) (off n b) (cellsQ N n x) ↔ (0 ≤ X ∧ X < 2 ^ (n + 1) ∧ qb n X = r) ∧ (0 ≤ Y ∧ Y < 2 ^ (n + 1) ∧ qb n Y = b) ∧ getZ N n x X Y = 1 := by
  rw [mem_sh, ih, rng_off, rng_off, get_off]
theorem mem_cells (N : List Nd) : ∀ (n x : Nat) (X Y : Int), (X, Y) ∈ cellsQ N n x ↔ (0 ≤ X ∧ X < 2 ^ n) ∧ (0 ≤ Y ∧ Y < 2 ^ n) ∧ getZ N n x X Y = 1
  | 0, x, X, Y => by
    unfold cellsQ
    show _ ↔ _ ∧ _ ∧ x = 1
    by_cases hx : x = 1
    · rw [if_pos hx]
      simp only [List.mem_singleton, Prod.mk.injEq, Int.pow_zero]
      constructor
      · rintro ⟨h1, h2⟩; exact ⟨by omega, by omega, hx⟩
      · rintro ⟨h1, h2, _⟩; omega
    · rw [if_neg hx]
      simp [hx]
  | n + 1, x, X, Y => by
    have ih := fun y => mem_cells N n y
    have hg : getZ N (n + 1) x X Y = getZ N n (pick (kidZ N x) (qb n X) (qb n Y)) X Y := rfl
    rw [hg]
    unfold cellsQ
    rw [List.mem_append, List.mem_append, List.mem_append, mem_part (ih _), mem_part (ih _), mem_part (ih _), mem_part (ih _)]
    cases qb n X <;> cases qb n Y <;> simp <;> constructor <;> intro h <;> omega
theorem nodup_cells (N : List Nd) : ∀ (n x : Nat), (cellsQ N n x).Nodup
  | 0, x => by
    unfold cellsQ
    split <;> simp
  | n + 1, x => by
    have hs : ∀ r b, (sh (off n r) (off n b) (cellsQ N n (pick (kidZ N x) r b))).Nodup := fun r b => by
      refine List.Pairwise.map _ (fun p q h e => h ?_) (nodup_cells N n _)
      simp only [Prod.mk.injEq] at e
      exact Prod.ext (by omega) (by omega)
    have hm := fun r b X Y => mem_part (fun X Y => mem_cells N n (pick (kidZ N x) r b) X Y) r b X Y
    have hd : ∀ r b r' b', (r, b) ≠ (r', b') → ∀ p, p ∈ sh (off n r) (off n b) (cellsQ N n (pick (kidZ N x) r b)) → ∀ q, q ∈ sh (off n r') (off n b') (cellsQ N n (pick (kidZ N x) r' b')) → p ≠ q := by
      rintro r b r' b' hne ⟨X, Y⟩ hp ⟨X', Y'⟩ hq e
      simp only [Prod.mk.injEq] at e
      obtain ⟨rfl, rfl⟩ := e
      obtain ⟨⟨_, _, e1⟩, ⟨_, _, e2⟩, _⟩ := (hm r b X Y).1 hp
      obtain ⟨⟨_, _, e3⟩, ⟨_, _, e4⟩, _⟩ := (hm r' b' X Y).1 hq
      exact hne (by rw [← e1, ← e2, ← e3, ← e4])
    unfold cellsQ
    refine List.nodup_append.2 ⟨hs _ _, List.nodup_append.2 ⟨hs _ _, List.nodup_append.2 ⟨hs _ _, hs _ _, hd _ _ _ _ (by simp)⟩, ?_⟩, ?_⟩
    · intro p hp q hq
      rw [List.mem_append] at hq
      rcases hq with hq | hq
      · exact hd _ _ _ _ (by simp) p hp q hq
      · exact hd _ _ _ _ (by simp) p hp q hq
    · intro p hp q hq
      rw [List.mem_append, List.mem_append] at hq
      rcases hq with hq | hq | hq
      · exact hd _ _ _ _ (by simp) p hp q hq
      · exact hd _ _ _ _ (by simp) p hp q hq
      · exact hd _ _ _ _ (by simp) p hp q hq
theorem sat_min7 (a b : Nat) : sat (min a topN) (min b topN) = min (a + b) topN := by unfold sat; omega
theorem ct_cells {N : List Nd} (hw : Wf N) : ∀ {n x : Nat}, Sq N n x → ctZ N x = min (cellsQ N n x).length topN
  | 0, x, h => by
    unfold ctZ
    rcases h.zero hw with rfl | rfl
    · rw [hw.dead]; rfl
    · rw [hw.alive]; rfl
  | n + 1, x, h => by
    obtain ⟨nd, hx, hx2, hl, hk⟩ := h.node hw
    obtain ⟨_, _, _, _, _, _, _, _, _, _, hc⟩ := hw.up x nd hx2 hx
    have e : ctZ N x = nd.ct := by unfold ctZ; rw [hx]
    have hf := h.kid hw
    rw [← hk] at hf
    have h0 := ct_cells hw (hf false false)
    have h1 := ct_cells hw (hf true false)
    have h2 := ct_cells hw (hf false true)
    have h3 := ct_cells hw (hf true true)
    have e0 : ∀ a, sat 0 (min a topN) = min a topN := fun a => by unfold sat; omega
    rw [e, hc]
    unfold livZ cellsQ
    rw [← hk]
    simp only [pick, if_true, Bool.false_eq_true, if_false, sh, List.length_append, List.length_map] at h0 h1 h2 h3 ⊢
    rw [h0, h1, h2, h3, e0, sat_min7, sat_min7, sat_min7]
    omega
theorem ct_zero {N : List Nd} (hw : Wf N) {n x : Nat} (h : Sq N n x) : ctZ N x = 0 ↔ ∀ X Y, getZ N n x X Y = 0 := by
  rw [ct_cells hw h]
  constructor
  · intro h0 X Y
    have hl : (cellsQ N n x).length = 0 := by have : topN ≠ 0 := by decide
                                              omega
    rcases get_cell hw h X Y with e | e
    · exact e
    · exfalso
      have hm : (X % 2 ^ n, Y % 2 ^ n) ∈ cellsQ N n x := (mem_cells N n x _ _).2 ⟨⟨Int.emod_nonneg _ (by have := pow_pos2 n; omega), Int.emod_lt_of_pos _ (pow_pos2 n)⟩, ⟨Int.emod_nonneg _ (by have := pow_pos2 n; omega), Int.emod_lt_of_pos _ (pow_pos2 n)⟩, by rw [get_mod]; exact e⟩
      rw [List.length_eq_zero_iff.1 hl] at hm
      cases hm
  · intro h0
    have : cellsQ N n x = [] := by
      cases hc : cellsQ N n x with
      | nil => rfl
      | cons p l =>
        exfalso
        obtain ⟨X, Y⟩ := p
        have hm : (X, Y) ∈ cellsQ N n x := by rw [hc]; exact List.mem_cons_self
        have := ((mem_cells N n x X Y).1 hm).2.2
        rw [h0] at this
        cases this
    rw [this]; simp
/-- A plane's living cells in a list, each once: how many. -/
theorem ct_list {N : List Nd} (hw : Wf N) {n x : Nat} (h : Sq N (n + 1) x) {l : List (Int × Int)} (hd : l.Nodup) (hl : ∀ a b, (a, b) ∈ l ↔ alK N n (kidZ N x) a b = true) : ctZ N x = min l.length topN := by
  rw [ct_cells hw h]
  have hp : (cellsQ N (n + 1) x).Perm (sh (2 ^ n) (2 ^ n) l) := by
    refine (List.perm_ext_iff_of_nodup (nodup_cells N (n + 1) x) ?_).2 ?_
    · refine List.Pairwise.map _ (fun p q h e => h ?_) hd
      simp only [Prod.mk.injEq] at e
      exact Prod.ext (by omega) (by omega)
    · rintro ⟨X, Y⟩
      rw [mem_sh, hl, mem_cells, al_root]
      simp only [Bool.and_eq_true, inS_iff, beq_iff_eq, Int.sub_add_cancel, pow_two2]
      constructor
      · rintro ⟨h1, h2, h3⟩; exact ⟨⟨by omega, by omega⟩, h3⟩
      · rintro ⟨⟨h1, h2⟩, h3⟩; exact ⟨by omega, by omega, h3⟩
  rw [hp.length_eq]
  simp [sh]
/-- Planes of one level with the same cells have one square. -/
theorem root_inj {N : List Nd} (hw : Wf N) {n x y : Nat} (hx : Sq N (n + 1) x) (hy : Sq N (n + 1) y) (h : ∀ a b, alK N n (kidZ N x) a b = alK N n (kidZ N y) a b) : x = y := by
  refine get_inj hw hx hy fun X Y => ?_
  rw [← get_mod N (n + 1) x, ← get_mod N (n + 1) y]
  have h0 := Int.emod_nonneg X (show (2 : Int) ^ (n + 1) ≠ 0 by have := pow_pos2 (n + 1); omega)
  have h1 := Int.emod_lt_of_pos X (pow_pos2 (n + 1))
  have h2 := Int.emod_nonneg Y (show (2 : Int) ^ (n + 1) ≠ 0 by have := pow_pos2 (n + 1); omega)
  have h3 := Int.emod_lt_of_pos Y (pow_pos2 (n + 1))
  generalize X % 2 ^ (n + 1) = A at *
  generalize Y % 2 ^ (n + 1) = B at *
  have := h (A - 2 ^ n) (B - 2 ^ n)
  rw [al_root, al_root, inS_iff.2 (by rw [pow_two2] at h1; omega), inS_iff.2 (by rw [pow_two2] at h3; omega)] at this
  simp only [Bool.and_self, Bool.true_and, Int.sub_add_cancel] at this
  rcases get_cell hw hx A B with e | e <;> rcases get_cell hw hy A B with e' | e' <;> rw [e, e'] <;> rw [e, e'] at this <;> simp at this
/-- All living cells are in the middle: so many of the twelve outer squares have none. -/
theorem in_middle {N : List Nd} (hw : Wf N) {n : Nat} {k : K4} (hk : Fo N (n + 1) k) : (∀ r b r' b', (r' = !r ∧ b' = !b) ∨ ctZ N (pick (kidZ N (pick k r b)) r' b') = 0) ↔ ∀ a b, alK N (n + 1) k a b = true → inS n a = true ∧ inS n b = true := by
  constructor
  · intro h a b hab
    simp only [alK, Bool.and_eq_true, beq_iff_eq] at hab
    obtain ⟨⟨ha, hb⟩, hg⟩ := hab
    have hg' : getZ N n (pick (kidZ N (pick k (decide (0 ≤ a)) (decide (0 ≤ b)))) (qb n a) (qb n b)) a b = 1 := hg
    rcases h (decide (0 ≤ a)) (decide (0 ≤ b)) (qb n a) (qb n b) with ⟨h1, h2⟩ | h0
    · constructor
      · cases hi : inS n a with
        | true => rfl
        | false => rw [qb_out hi ha] at h1; cases hd : decide (0 ≤ a) <;> rw [hd] at h1 <;> cases h1
      · cases hi : inS n b with
        | true => rfl
        | false => rw [qb_out hi hb] at h2; cases hd : decide (0 ≤ b) <;> rw [hd] at h2 <;> cases h2
    · have := (ct_zero hw ((hk _ _).kid hw _ _)).1 h0 a b
      rw [this] at hg'
      cases hg'
  · intro h r b r' b'
    by_cases hm : r' = !r ∧ b' = !b
    · exact Or.inl hm
    · right
      refine (ct_zero hw ((hk r b).kid hw r' b')).2 fun X Y => ?_
      rcases get_cell hw ((hk r b).kid hw r' b') X Y with e | e
      · exact e
      · exfalso
        have hp := pow_pos2 n
        have h2 := pow_two2 n
        have key : ∀ (r r' : Bool) (X : Int), ∃ a : Int, inS (n + 1) a = true ∧ decide (0 ≤ a) = r ∧ qb n a = r' ∧ a % 2 ^ n = X % 2 ^ n ∧ (inS n a = true → r' = !r) := fun r r' X => by
          have m0 := Int.emod_nonneg X (show (2 : Int) ^ n ≠ 0 by omega)
          have m1 := Int.emod_lt_of_pos X hp
          have mm : X % 2 ^ n % 2 ^ n = X % 2 ^ n := Int.emod_emod _ _
          generalize X % 2 ^ n = A at *
          cases r <;> cases r'
          · refine ⟨A - 2 ^ (n + 1), inS_iff.2 (by omega), by simp; omega, qb_far (by omega) (by omega), ?_, fun hh => ?_⟩
            · rw [h2, show A - 2 * 2 ^ n = A + 2 ^ n * (-2) by omega, Int.add_mul_emod_self_left]; exact mm
            · rw [inS_iff] at hh; omega
          · refine ⟨A - 2 ^ n, inS_iff.2 (by omega), by simp; omega, qb_neg (by omega) (by omega), ?_, fun _ => rfl⟩
            rw [show A - 2 ^ n = A + 2 ^ n * (-1) by omega, Int.add_mul_emod_self_left]; exact mm
          · exact ⟨A, inS_iff.2 (by omega), by simp; omega, qb_lo m0 m1, mm, fun _ => rfl⟩
          · refine ⟨A + 2 ^ n, inS_iff.2 (by omega), by simp; omega, qb_hi (by omega) (by omega), ?_, fun hh => ?_⟩
            · rw [show A + 2 ^ n = A + 2 ^ n * 1 by omega, Int.add_mul_emod_self_left]; exact mm
            · rw [inS_iff] at hh; omega
        obtain ⟨a, a1, a2, a3, a4, a5⟩ := key r r' X
        obtain ⟨c, c1, c2, c3, c4, c5⟩ := key b b' Y
        have hal : alK N (n + 1) k a c = true := by
          unfold alK
          rw [a1, c1, a2, c2]
          show (true && true && (getZ N n (pick (kidZ N (pick k r b)) (qb n a) (qb n c)) a c == 1)) = true
          rw [a3, c3, ← get_mod, a4, c4, get_mod, e]
          rfl
        obtain ⟨i1, i2⟩ := h a c hal
        exact hm ⟨a5 i1, c5 i2⟩
end Go.Proofs.YtaapkngpnlnjeaaGreatDoor
end

section
namespace Go.Proofs.YtaapkngpnlnjeaaGreatDoor

def kAt (k : K4) : Nat → Nat
  | 0 => k.1
  | 1 => k.2.1
  | 2 => k.2.2.1
  | _ => k.2.2.2
def mk4 (f : Nat → Nat) : K4 := (f 0, f 1, f 2, f 3)
theorem kAt_mk4 (f : Nat → Nat) {i : Nat} (h : i < 4) : kAt (mk4 f) i = f i := by
  have : i = 0 ∨ i = 1 ∨ i = 2 ∨ i = 3 := by omega
  rcases this with rfl | rfl | rfl | rfl <;> rfl
theorem mk4_kAt (k : K4) : mk4 (kAt k) = k := rfl
theorem mk4_ext {f g : Nat → Nat} (h : ∀ i, i < 4 → f i = g i) : mk4 f = mk4 g := by
  unfold mk4; rw [h 0 (by omega), h 1 (by omega), h 2 (by omega), h 3 (by omega)]
/-- The place of one of four. -/
def pl (r b : Bool) : Nat := (if r then 1 else 0) + 2 * (if b then 1 else 0)
theorem pl_lt (r b : Bool) : pl r b < 4 := by cases r <;> cases b <;> decide
theorem pick_kAt (k : K4) (r b : Bool) : pick k r b = kAt k (pl r b) := by cases r <;> cases b <;> rfl
theorem pl_of {i : Nat} (h : i < 4) : ∃ r b, i = pl r b := by
  have : i = 0 ∨ i = 1 ∨ i = 2 ∨ i = 3 := by omega
  rcases this with rfl | rfl | rfl | rfl
  · exact ⟨false, false, rfl⟩
  · exact ⟨true, false, rfl⟩
  · exact ⟨false, true, rfl⟩
  · exact ⟨true, true, rfl⟩
theorem pl_across (r b : Bool) : 3 - pl r b = pl (!r) (!b) := by cases r <;> cases b <;> rfl
theorem pl_inj {r b r' b' : Bool} : pl r b = pl r' b' ↔ r = r' ∧ b = b' := by cases r <;> cases b <;> cases r' <;> cases b' <;> decide
theorem fo_iff {N : List Nd} {n : Nat} {k : K4} : Fo N n k ↔ ∀ i, i < 4 → Sq N n (kAt k i) := by
  constructor
  · intro h i hi
    obtain ⟨r, b, rfl⟩ := pl_of hi
    rw [← pick_kAt]; exact h r b
  · intro h r b
    rw [pick_kAt]; exact h _ (pl_lt r b)
/-- Four, one at a place. -/
def corn (e x at_ : Nat) : K4 := mk4 fun i => if i = at_ then x else e
theorem corn_fo {N : List Nd} {n e x at_ : Nat} (he : Sq N n e) (hx : Sq N n x) : Fo N n (corn e x at_) := fo_iff.2 fun i hi => by
  unfold corn; rw [kAt_mk4 _ hi]; split
  · exact hx
  · exact he
theorem raise_all {N : List Nd} {n e : Nat} {k : K4} {f : Nat → Nat} (he : ∀ X Y, getZ N n e X Y = 0) (hk : ∀ i, i < 4 → kidZ N (f i) = corn e (kAt k i) (3 - i)) (a b : Int) : alK N (n + 1) (mk4 f) a b = alK N n k a b := by
  refine al_raise (e := e) he (fun r b r' b' => ?_) a b
  rw [pick_kAt (mk4 f), kAt_mk4 _ (pl_lt _ _), hk _ (pl_lt _ _), pick_kAt, pick_kAt k]
  unfold corn
  rw [kAt_mk4 _ (pl_lt _ _), pl_across]
  simp only [pl_inj]
/-- The four in the middle. -/
def midF (N : List Nd) (k : K4) (i : Nat) : Nat := kAt (kidZ N (kAt k i)) (3 - i)
def midK (N : List Nd) (k : K4) : K4 := mk4 (midF N k)
theorem mid_pick (N : List Nd) (k : K4) (r b : Bool) : pick (midK N k) r b = pick (kidZ N (pick k r b)) (!r) (!b) := by
  rw [pick_kAt, pick_kAt, pick_kAt k]
  unfold midK midF
  rw [kAt_mk4 _ (pl_lt _ _), pl_across]
theorem mid_fo {N : List Nd} (hw : Wf N) {n : Nat} {k : K4} (h : Fo N (n + 1) k) : Fo N n (midK N k) := fun r b => by
  rw [mid_pick]; exact (h r b).kid hw _ _
/-- Are all living cells in the middle? -/
def InMid (N : List Nd) (k : K4) : Prop := ∀ i, i < 4 → ∀ j, j < 4 → j = 3 - i ∨ ctZ N (kAt (kidZ N (kAt k i)) j) = 0
theorem inMid_iff {N : List Nd} (hw : Wf N) {n : Nat} {k : K4} (hk : Fo N (n + 1) k) : InMid N k ↔ ∀ a b, alK N (n + 1) k a b = true → inS n a = true ∧ inS n b = true := by
  rw [← in_middle hw hk]
  constructor
  · intro h r b r' b'
    have := h (pl r b) (pl_lt _ _) (pl r' b') (pl_lt _ _)
    rw [pl_across, pl_inj, ← pick_kAt k, ← pick_kAt] at this
    exact this
  · intro h i hi j hj
    obtain ⟨r, b, rfl⟩ := pl_of hi
    obtain ⟨r', b', rfl⟩ := pl_of hj
    have := h r b r' b'
    rw [pl_across, pl_inj, ← pick_kAt k, ← pick_kAt]
    exact this
/-- Another cell of a square. -/
def Chg (N : List Nd) (n x : Nat) (N' : List Nd) (x' : Nat) (X Y : Int) (c : Nat) : Prop := ∀ A B, getZ N' n x' A B = if A % 2 ^ n = X % 2 ^ n ∧ B % 2 ^ n = Y % 2 ^ n then c else getZ N n x A B
theorem mod_bit (n : Nat) (A X : Int) : (A % 2 ^ (n + 1) = X % 2 ^ (n + 1)) ↔ (A % 2 ^ n = X % 2 ^ n ∧ qb n A = qb n X) := by
  have hp := pow_pos2 n
  have key : ∀ A : Int, A % 2 ^ (n + 1) = A % 2 ^ n + (if qb n A then 2 ^ n else 0) := fun A => by
    have e1 : A / 2 ^ n % 2 = if qb n A then 1 else 0 := by
      unfold qb
      rcases Int.emod_two_eq (A / 2 ^ n) with h | h <;> rw [h] <;> simp
    have d1 := Int.emod_add_mul_ediv A (2 ^ n)
    have d2 := Int.emod_add_mul_ediv (A / 2 ^ n) 2
    have m0 := Int.emod_nonneg A (show (2 : Int) ^ n ≠ 0 by omega)
    have m1 := Int.emod_lt_of_pos A hp
    have h2 := pow_two2 n
    have e2 : A = (A % 2 ^ n + (if qb n A then 2 ^ n else 0)) + 2 ^ (n + 1) * (A / 2 ^ n / 2) := by
      rw [h2, Int.mul_comm 2 (2 ^ n), Int.mul_assoc]
      cases hq : qb n A <;> rw [hq] at e1 <;> simp only [if_true, Bool.false_eq_true, if_false] at e1 ⊢
      · rw [show 2 * (A / 2 ^ n / 2) = A / 2 ^ n by omega]; omega
      · have : 2 ^ n * (2 * (A / 2 ^ n / 2)) = 2 ^ n * (A / 2 ^ n) - 2 ^ n := by
          rw [show 2 * (A / 2 ^ n / 2) = A / 2 ^ n - 1 by omega, Int.mul_sub, Int.mul_one]
        omega
    have e3 : (0 : Int) ≤ A % 2 ^ n + (if qb n A then 2 ^ n else 0) := by split <;> omega
    have e4 : A % 2 ^ n + (if qb n A then 2 ^ n else 0) < 2 ^ (n + 1) := by split <;> omega
    generalize A % 2 ^ n + (if qb n A then 2 ^ n else 0) = R at *
    rw [e2, Int.add_mul_emod_self_left]
    exact Int.emod_eq_of_lt e3 e4
  have a0 := Int.emod_nonneg A (show (2 : Int) ^ n ≠ 0 by omega)
  have a1 := Int.emod_lt_of_pos A hp
  have x0 := Int.emod_nonneg X (show (2 : Int) ^ n ≠ 0 by omega)
  have x1 := Int.emod_lt_of_pos X hp
  rw [key A, key X]
  cases qb n A <;> cases qb n X <;> simp <;> omega
theorem chg_zero (N : List Nd) (x : Nat) (N' : List Nd) (X Y : Int) (c : Nat) : Chg N 0 x N' c X Y c := fun A B => by
  show c = _
  rw [if_pos (by simp [Int.emod_one])]
theorem chg_step {N N1 N2 : List Nd} {n x y x' : Nat} {X Y : Int} {c : Nat} (h : Chg N n (pick (kidZ N x) (qb n X) (qb n Y)) N1 y X Y c)
    (hk : ∀ r b, pick (kidZ N2 x') r b = if r = qb n X ∧ b = qb n Y then y else pick (kidZ N x) r b) (hy : ∀ A B, getZ N2 n y A B = getZ N1 n y A B) (ho : ∀ r b A B, getZ N2 n (pick (kidZ N x) r b) A B = getZ N n (pick (kidZ N x) r b) A B) : Chg N (n + 1) x N2 x' X Y c := fun A B => by
  show getZ N2 n (pick (kidZ N2 x') (qb n A) (qb n B)) A B = if _ then c else getZ N n (pick (kidZ N x) (qb n A) (qb n B)) A B
  rw [hk]
  simp only [mod_bit]
  by_cases hb : qb n A = qb n X ∧ qb n B = qb n Y
  · rw [if_pos hb, hy, h A B, hb.1, hb.2]
    simp
  · rw [if_neg hb, if_neg (fun hh => hb ⟨hh.1.2, hh.2.2⟩), ho]
/-- A plane with another cell. -/
theorem al_chg {N N' : List Nd} {n x x' : Nat} {a b : Int} {c : Nat} (h : Chg N (n + 1) x N' x' (a + 2 ^ n) (b + 2 ^ n) c) (ha : inS n a = true) (hb : inS n b = true) (p q : Int) :
    alK N' n (kidZ N' x') p q = if p = a ∧ q = b then c == 1 else alK N n (kidZ N x) p q := by
  rw [al_root, al_root, h]
  have hr : ∀ {a : Int}, inS n a = true → (a + 2 ^ n) % 2 ^ (n + 1) = a + 2 ^ n := fun {a} ha => by
    rw [inS_iff] at ha
    exact Int.emod_eq_of_lt (by omega) (by rw [pow_two2]; omega)
  rw [hr ha, hr hb]
  by_cases hpq : p = a ∧ q = b
  · obtain ⟨rfl, rfl⟩ := hpq
    rw [hr ha, hr hb, ha, hb]
    simp
  · rw [if_neg hpq]
    cases hp : inS n p with
    | false => rfl
    | true =>
      cases hq : inS n q with
      | false => rfl
      | true =>
        rw [hr hp, hr hq, if_neg (fun hh => hpq ⟨by omega, by omega⟩)]
end Go.Proofs.YtaapkngpnlnjeaaGreatDoor
end
