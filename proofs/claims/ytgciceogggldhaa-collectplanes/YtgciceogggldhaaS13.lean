/- Squares that are needed, and a store of these alone: plain mathematics, no program. -/
import Derived.Test.YtgciceogggldhaaS7
namespace Go.Proofs.Ytgciceogggldhaa

/-- Is it needed? -/
def nd13 (F : List Bool) (x : Nat) : Bool := F[x]?.getD false
/-- How many that are needed come before. -/
def rk13 (F : List Bool) : Nat → Nat
  | 0 => 0
  | x + 1 => rk13 F x + (if nd13 F x then 1 else 0)
/-- Those that are needed, rising. -/
def ndL (F : List Bool) (n : Nat) : List Nat := (List.range n).filter (nd13 F)
def rkK (F : List Bool) (k : K4) : K4 := (rk13 F k.1, rk13 F k.2.1, rk13 F k.2.2.1, rk13 F k.2.2.2)
/-- A square, by the new numbers. -/
def cz13 (N : List Nd) (F : List Bool) (x : Nat) : Nd := match N[x]? with | some n => ⟨rkK F n.k, n.lv, n.ct⟩ | none => ⟨(0, 0, 0, 0), 0, 0⟩
/-- The squares that are left. -/
def cmpN (N : List Nd) (F : List Bool) : List Nd := (ndL F N.length).map (cz13 N F)
def mk4L (b : List Bool) (k : K4) : List Bool := (((b.set k.1 true).set k.2.1 true).set k.2.2.1 true).set k.2.2.2 true
/-- A square's four are needed, if it is. -/
def stN (N : List Nd) (i : Nat) (b : List Bool) : List Bool :=
  if nd13 b i then (match N[i]? with | some n => if 1 ≤ n.lv then mk4L b n.k else b | none => b) else b
/-- Going down. -/
def dnN (N : List Nd) : Nat → List Bool → List Bool
  | 0, b => b
  | i + 1, b => dnN N i (stN N i b)
/-- Roots are needed. -/
def rtB (b : List Bool) (l : List Nat) : List Bool := l.foldl (fun b x => b.set x true) b
def b00 (n : Nat) : List Bool := true :: true :: List.replicate (n - 2) false
def nedF (N : List Nd) (l : List Nat) : List Bool := dnN N N.length (rtB (b00 N.length) l)
/-- What holds of which are needed. -/
structure Cl13 (N : List Nd) (F : List Bool) : Prop where
  len : F.length = N.length
  d : nd13 F 0 = true
  a : nd13 F 1 = true
  k : ∀ x n, 2 ≤ x → N[x]? = some n → nd13 F x = true → nd13 F n.k.1 = true ∧ nd13 F n.k.2.1 = true ∧ nd13 F n.k.2.2.1 = true ∧ nd13 F n.k.2.2.2 = true
theorem nd_lt {F : List Bool} {x : Nat} (h : nd13 F x = true) : x < F.length := by
  unfold nd13 at h
  cases hx : F[x]? with
  | none => rw [hx] at h; cases h
  | some n => exact (List.getElem?_eq_some_iff.1 hx).1
theorem nd_get {F : List Bool} {x : Nat} (h : x < F.length) : F[x]? = some (nd13 F x) := by
  unfold nd13; rw [List.getElem?_eq_getElem h]; rfl
theorem nd_set (b : List Bool) (k x : Nat) : nd13 (b.set k true) x = (nd13 b x || (decide (k = x) && decide (x < b.length))) := by
  unfold nd13
  rw [List.getElem?_set]
  by_cases h : k = x
  · subst h
    by_cases h2 : k < b.length
    · simp [h2]
    · simp [h2]
  · simp [h]
theorem nd_set_mono {b : List Bool} {x : Nat} (k : Nat) (h : nd13 b x = true) : nd13 (b.set k true) x = true := by rw [nd_set, h]; rfl
theorem nd_set_same {b : List Bool} {k : Nat} (h : k < b.length) : nd13 (b.set k true) k = true := by rw [nd_set]; simp [h]
theorem nd_set_ne {b : List Bool} {k x : Nat} (h : k ≠ x) : nd13 (b.set k true) x = nd13 b x := by rw [nd_set]; simp [h]
theorem ndL_succ (F : List Bool) (n : Nat) : ndL F (n + 1) = ndL F n ++ (if nd13 F n then [n] else []) := by
  unfold ndL
  rw [List.range_succ, List.filter_append]
  congr 1
  cases h : nd13 F n <;> simp [h]
theorem ndL_len (F : List Bool) : ∀ n, (ndL F n).length = rk13 F n
  | 0 => rfl
  | n + 1 => by
    rw [ndL_succ, List.length_append, ndL_len F n]
    show _ = rk13 F n + _
    cases nd13 F n <;> rfl
theorem rk_mono (F : List Bool) {x : Nat} : ∀ {y : Nat}, x ≤ y → rk13 F x ≤ rk13 F y
  | 0, h => by obtain rfl : x = 0 := by omega
               exact Nat.le_refl _
  | y + 1, h => by
    show _ ≤ rk13 F y + _
    rcases Nat.lt_or_ge x (y + 1) with h1 | h1
    · have := rk_mono F (y := y) (by omega : x ≤ y); omega
    · obtain rfl : x = y + 1 := by omega
      exact Nat.le_refl _
theorem rk_lt {F : List Bool} {x y : Nat} (h : nd13 F x = true) (hy : x < y) : rk13 F x < rk13 F y := by
  have h1 : rk13 F (x + 1) = rk13 F x + 1 := by show rk13 F x + _ = _; rw [h]; rfl
  have := rk_mono F (show x + 1 ≤ y from hy)
  omega
theorem rk_le (F : List Bool) : ∀ x, rk13 F x ≤ x
  | 0 => Nat.le_refl _
  | x + 1 => by
    have := rk_le F x
    show rk13 F x + _ ≤ _
    split <;> omega
theorem rk_inj {F : List Bool} {x y : Nat} (hx : nd13 F x = true) (hy : nd13 F y = true) (h : rk13 F x = rk13 F y) : x = y := by
  rcases Nat.lt_trichotomy x y with h1 | h1 | h1
  · have := rk_lt hx h1; omega
  · exact h1
  · have := rk_lt hy h1; omega
theorem ndL_at {F : List Bool} {x : Nat} (h : nd13 F x = true) : ∀ {n : Nat}, x < n → (ndL F n)[rk13 F x]? = some x
  | 0, hn => by omega
  | n + 1, hn => by
    rw [ndL_succ]
    rcases Nat.lt_or_ge x n with h1 | h1
    · rw [List.getElem?_append_left (by rw [ndL_len]; exact rk_lt h h1)]
      exact ndL_at h h1
    · obtain rfl : x = n := by omega
      rw [List.getElem?_append_right (by rw [ndL_len]; exact Nat.le_refl _), ndL_len, h]
      simp
theorem ndL_of {F : List Bool} : ∀ {n j x : Nat}, (ndL F n)[j]? = some x → nd13 F x = true ∧ x < n ∧ rk13 F x = j
  | 0, j, x, h => by simp [ndL] at h
  | n + 1, j, x, h => by
    rw [ndL_succ] at h
    rcases Nat.lt_or_ge j (rk13 F n) with h1 | h1
    · rw [List.getElem?_append_left (by rw [ndL_len]; exact h1)] at h
      obtain ⟨a, b, c⟩ := ndL_of h
      exact ⟨a, by omega, c⟩
    · rw [List.getElem?_append_right (by rw [ndL_len]; exact h1), ndL_len] at h
      cases hn : nd13 F n with
      | false => rw [hn] at h; simp at h
      | true =>
        rw [hn] at h
        simp only [if_true] at h
        have hj : j - rk13 F n < 1 := by simpa using (List.getElem?_eq_some_iff.1 h).1
        have e : j - rk13 F n = 0 := by omega
        rw [e] at h
        obtain rfl : n = x := by simpa using h
        exact ⟨hn, by omega, by omega⟩
theorem ndL_mem {F : List Bool} {n x : Nat} : x ∈ ndL F n ↔ x < n ∧ nd13 F x = true := by simp [ndL, List.mem_filter]
theorem ndL_nodup (F : List Bool) (n : Nat) : (ndL F n).Nodup := List.nodup_range.filter _
section
variable {N : List Nd} {F : List Bool}
theorem Cl13.rk0 (_h : Cl13 N F) : rk13 F 0 = 0 := rfl
theorem Cl13.rk1 (h : Cl13 N F) : rk13 F 1 = 1 := by show 0 + _ = 1; rw [h.d]; rfl
theorem Cl13.rk2 (h : Cl13 N F) : rk13 F 2 = 2 := by show rk13 F 1 + _ = 2; rw [h.a, h.rk1]; rfl
theorem Cl13.two (h : Cl13 N F) {x : Nat} (hx : 2 ≤ x) : 2 ≤ rk13 F x := by have := rk_mono F hx; rw [h.rk2] at this; exact this
theorem Cl13.small (h : Cl13 N F) {x : Nat} (hx : x < 2) : rk13 F x = x := by
  have : x = 0 ∨ x = 1 := by omega
  rcases this with rfl | rfl
  · rfl
  · exact h.rk1
theorem cmp_len (N : List Nd) (F : List Bool) : (cmpN N F).length = rk13 F N.length := by unfold cmpN; rw [List.length_map, ndL_len]
theorem cmp_at {x : Nat} (h : nd13 F x = true) (hx : x < N.length) : (cmpN N F)[rk13 F x]? = some (cz13 N F x) := by
  unfold cmpN; rw [List.getElem?_map, ndL_at h hx]; rfl
theorem take_at {x j : Nat} (h : nd13 F x = true) (hx : x < N.length) (hj : rk13 F x < j) : ((cmpN N F).take j)[rk13 F x]? = some (cz13 N F x) := by
  rw [List.getElem?_take_of_lt hj]; exact cmp_at h hx
theorem cz_of {x : Nat} {n : Nd} (h : N[x]? = some n) : cz13 N F x = ⟨rkK F n.k, n.lv, n.ct⟩ := by unfold cz13; rw [h]
theorem lv_cmp {x j : Nat} (h : nd13 F x = true) (hx : x < N.length) (hj : rk13 F x < j) : lvZ ((cmpN N F).take j) (rk13 F x) = lvZ N x := by
  unfold lvZ; rw [take_at h hx hj, List.getElem?_eq_getElem hx, cz_of (List.getElem?_eq_getElem hx)]
theorem ct_cmp {x j : Nat} (h : nd13 F x = true) (hx : x < N.length) (hj : rk13 F x < j) : ctZ ((cmpN N F).take j) (rk13 F x) = ctZ N x := by
  unfold ctZ; rw [take_at h hx hj, List.getElem?_eq_getElem hx, cz_of (List.getElem?_eq_getElem hx)]
theorem cmp_all (N : List Nd) (F : List Bool) : (cmpN N F).take (cmpN N F).length = cmpN N F := List.take_length
theorem lv_all {x : Nat} (h : nd13 F x = true) (hx : x < N.length) : lvZ (cmpN N F) (rk13 F x) = lvZ N x := by
  have := lv_cmp (j := (cmpN N F).length) h hx (by rw [cmp_len]; exact rk_lt h hx)
  rwa [cmp_all] at this
theorem ct_all {x : Nat} (h : nd13 F x = true) (hx : x < N.length) : ctZ (cmpN N F) (rk13 F x) = ctZ N x := by
  have := ct_cmp (j := (cmpN N F).length) h hx (by rw [cmp_len]; exact rk_lt h hx)
  rwa [cmp_all] at this
theorem cmp_two (hc : Cl13 N F) (hw : Wf N) : (cmpN N F).take 2 = N0 := by
  have h2 := hw.two
  have l2 : 2 ≤ (cmpN N F).length := by rw [cmp_len]; exact hc.two h2
  refine List.ext_getElem? fun i => ?_
  rcases Nat.lt_or_ge i 2 with hi | hi
  · rw [List.getElem?_take_of_lt hi]
    have : i = 0 ∨ i = 1 := by omega
    rcases this with rfl | rfl
    · have := cmp_at (F := F) hc.d (show 0 < N.length by omega)
      rw [hc.rk0, cz_of hw.dead] at this
      rw [this]; rfl
    · have := cmp_at (F := F) hc.a (show 1 < N.length by omega)
      rw [hc.rk1, cz_of hw.alive] at this
      rw [this]; rfl
  · rw [List.getElem?_eq_none (by rw [List.length_take]; omega), List.getElem?_eq_none (by exact hi)]
/-- One more. -/
theorem cmp_step (hc : Cl13 N F) (hw : Wf N) {j x : Nat} {n : Nd} (hj : (ndL F N.length)[j]? = some x) (hx : 2 ≤ x) (hn : N[x]? = some n) :
    FitZ ((cmpN N F).take j) (rkK F n.k) ∧ findZ ((cmpN N F).take j) (rkK F n.k) = none ∧ (cmpN N F).take (j + 1) = (cmpN N F).take j ++ [newNd ((cmpN N F).take j) (rkK F n.k)] ∧ ((cmpN N F).take j).length = j ∧ 2 ≤ j ∧ j = rk13 F x := by
  obtain ⟨h1, h2, rfl⟩ := ndL_of hj
  obtain ⟨a1, a2, k1, k2, k3, k4, v1, v2, v3, v4, hct⟩ := hw.up x n hx hn
  obtain ⟨n1, n2, n3, n4⟩ := hc.k x n hx hn h1
  have g1 := rk_lt n1 k1
  have g2 := rk_lt n2 k2
  have g3 := rk_lt n3 k3
  have g4 := rk_lt n4 k4
  have hl : ((cmpN N F).take (rk13 F x)).length = rk13 F x := by
    rw [List.length_take, cmp_len]
    have := rk_lt h1 h2
    omega
  have e1 := lv_cmp (N := N) n1 (by omega) g1
  have e2 := lv_cmp (N := N) n2 (by omega) g2
  have e3 := lv_cmp (N := N) n3 (by omega) g3
  have e4 := lv_cmp (N := N) n4 (by omega) g4
  have d1 := ct_cmp (N := N) n1 (by omega) g1
  have d2 := ct_cmp (N := N) n2 (by omega) g2
  have d3 := ct_cmp (N := N) n3 (by omega) g3
  have d4 := ct_cmp (N := N) n4 (by omega) g4
  refine ⟨?_, ?_, ?_, hl, hc.two hx, rfl⟩
  · unfold FitZ rkK
    simp only [e1, e2, e3, e4]
    omega
  · cases hf : findZ ((cmpN N F).take (rk13 F x)) (rkK F n.k) with
    | none => rfl
    | some i =>
      exfalso
      obtain ⟨hi, m, hm, hk⟩ := find_some hf
      have hil : i < rk13 F x := by have := (List.getElem?_eq_some_iff.1 hm).1; omega
      rw [List.getElem?_take_of_lt hil] at hm
      unfold cmpN at hm
      rw [List.getElem?_map] at hm
      cases hy : (ndL F N.length)[i]? with
      | none => rw [hy] at hm; cases hm
      | some y =>
        rw [hy] at hm
        obtain ⟨b1, b2, rfl⟩ := ndL_of hy
        have hy2 : 2 ≤ y := by
          rcases Nat.lt_or_ge y 2 with h | h
          · rw [hc.small h] at hi; omega
          · exact h
        have hny := List.getElem?_eq_getElem b2
        simp only [Option.map_some, Option.some.injEq] at hm
        rw [cz_of hny] at hm
        subst hm
        obtain ⟨q1, q2, q3, q4⟩ := hc.k y _ hy2 hny b1
        simp only [rkK, Prod.mk.injEq] at hk
        obtain ⟨z1, z2, z3, z4⟩ := hk
        have ek : N[y].k = n.k := by
          have w1 := rk_inj q1 n1 z1
          have w2 := rk_inj q2 n2 z2
          have w3 := rk_inj q3 n3 z3
          have w4 := rk_inj q4 n4 z4
          exact Prod.ext w1 (Prod.ext w2 (Prod.ext w3 w4))
        obtain rfl := hw.one y x _ _ hy2 hx hny hn ek
        omega
  · rw [List.take_add_one, cmp_at h1 h2]
    congr 1
    simp only [Option.toList_some, List.cons.injEq, and_true]
    rw [cz_of hn]
    unfold newNd livZ
    simp only [rkK, e1, d1, d2, d3, d4, v1]
    congr 1
    · omega
/-- The numbers of the four, in the new store, are there. -/
theorem Cl13.kid (hc : Cl13 N F) (hw : Wf N) {n x : Nat} (h : Sq N (n + 1) x) (hx : nd13 F x = true) (r b : Bool) : nd13 F (pick (kidZ N x) r b) = true := by
  obtain ⟨nd, e, h2, _, hk⟩ := h.node hw
  obtain ⟨q1, q2, q3, q4⟩ := hc.k x nd h2 e hx
  rw [← hk]
  cases r <;> cases b
  · exact q1
  · exact q3
  · exact q2
  · exact q4
theorem kid_cmp {x : Nat} (h : nd13 F x = true) (hx : x < N.length) : kidZ (cmpN N F) (rk13 F x) = rkK F (kidZ N x) := by
  unfold kidZ
  rw [cmp_at h hx, List.getElem?_eq_getElem hx, cz_of (List.getElem?_eq_getElem hx)]
theorem pick_rk (k : K4) (r b : Bool) : pick (rkK F k) r b = rk13 F (pick k r b) := by cases r <;> cases b <;> rfl
theorem get_cmp (hc : Cl13 N F) (hw : Wf N) : ∀ {n x : Nat}, Sq N n x → nd13 F x = true → ∀ X Y, getZ (cmpN N F) n (rk13 F x) X Y = getZ N n x X Y
  | 0, x, h, hx, _, _ => by
    show rk13 F x = x
    exact hc.small (by rcases h.zero hw with e | e <;> omega)
  | n + 1, x, h, hx, X, Y => by
    show getZ (cmpN N F) n (pick (kidZ (cmpN N F) (rk13 F x)) (qb n X) (qb n Y)) X Y = getZ N n (pick (kidZ N x) (qb n X) (qb n Y)) X Y
    rw [kid_cmp hx h.lt, pick_rk]
    exact get_cmp hc hw (h.kid hw _ _) (hc.kid hw h hx _ _) X Y
theorem Sq.cmp {n x : Nat} (h : Sq N n x) (hx : nd13 F x = true) : Sq (cmpN N F) n (rk13 F x) := (lv_all hx h.lt).trans h
theorem al_cmp (hc : Cl13 N F) (hw : Wf N) {n x : Nat} (h : Sq N (n + 1) x) (hx : nd13 F x = true) (a b : Int) : alK (cmpN N F) n (kidZ (cmpN N F) (rk13 F x)) a b = alK N n (kidZ N x) a b := by
  unfold alK
  rw [kid_cmp hx h.lt, pick_rk, get_cmp hc hw (h.kid hw _ _) (hc.kid hw h hx _ _)]
end
theorem mk4_len (b : List Bool) (k : K4) : (mk4L b k).length = b.length := by simp [mk4L]
theorem mk4_mono {b : List Bool} {x : Nat} (k : K4) (h : nd13 b x = true) : nd13 (mk4L b k) x = true := nd_set_mono _ (nd_set_mono _ (nd_set_mono _ (nd_set_mono _ h)))
theorem mk4_ne {b : List Bool} {k : K4} {x : Nat} (h : k.1 ≠ x ∧ k.2.1 ≠ x ∧ k.2.2.1 ≠ x ∧ k.2.2.2 ≠ x) : nd13 (mk4L b k) x = nd13 b x := by
  unfold mk4L; rw [nd_set_ne h.2.2.2, nd_set_ne h.2.2.1, nd_set_ne h.2.1, nd_set_ne h.1]
theorem mk4_in {b : List Bool} {k : K4} (h : k.1 < b.length ∧ k.2.1 < b.length ∧ k.2.2.1 < b.length ∧ k.2.2.2 < b.length) : nd13 (mk4L b k) k.1 = true ∧ nd13 (mk4L b k) k.2.1 = true ∧ nd13 (mk4L b k) k.2.2.1 = true ∧ nd13 (mk4L b k) k.2.2.2 = true :=
  ⟨nd_set_mono _ (nd_set_mono _ (nd_set_mono _ (nd_set_same h.1))), nd_set_mono _ (nd_set_mono _ (nd_set_same (by simpa using h.2.1))), nd_set_mono _ (nd_set_same (by simpa using h.2.2.1)), nd_set_same (by simpa using h.2.2.2)⟩
theorem st_len (N : List Nd) (i : Nat) (b : List Bool) : (stN N i b).length = b.length := by
  unfold stN; split
  · split
    · split
      · exact mk4_len _ _
      · rfl
    · rfl
  · rfl
theorem st_mono {N : List Nd} {b : List Bool} {x : Nat} (i : Nat) (h : nd13 b x = true) : nd13 (stN N i b) x = true := by
  unfold stN; split
  · split
    · split
      · exact mk4_mono _ h
      · exact h
    · exact h
  · exact h
theorem st_low {N : List Nd} (hw : Wf N) (b : List Bool) {i : Nat} (hi : i < 2) : stN N i b = b := by
  have : i = 0 ∨ i = 1 := by omega
  unfold stN
  rcases this with rfl | rfl
  · rw [hw.dead]; simp
  · rw [hw.alive]; simp
theorem st_keep {N : List Nd} (hw : Wf N) (b : List Bool) {i x : Nat} (h : i ≤ x) : nd13 (stN N i b) x = nd13 b x := by
  by_cases hi : 2 ≤ i
  · unfold stN; split
    · split
      · rename_i n hn
        split
        · obtain ⟨_, _, k1, k2, k3, k4, _⟩ := hw.up i n hi hn
          exact mk4_ne ⟨by omega, by omega, by omega, by omega⟩
        · rfl
      · rfl
    · rfl
  · rw [st_low hw b (by omega)]
theorem dn_len (N : List Nd) : ∀ (i : Nat) (b : List Bool), (dnN N i b).length = b.length
  | 0, _ => rfl
  | i + 1, b => (dn_len N i _).trans (st_len N i b)
theorem dn_mono {N : List Nd} {x : Nat} : ∀ (i : Nat) {b : List Bool}, nd13 b x = true → nd13 (dnN N i b) x = true
  | 0, _, h => h
  | i + 1, _, h => dn_mono i (st_mono i h)
theorem dn_keep {N : List Nd} (hw : Wf N) {x : Nat} : ∀ (i : Nat) (b : List Bool), i ≤ x + 1 → nd13 (dnN N i b) x = nd13 b x
  | 0, _, _ => rfl
  | i + 1, b, h => by
    show nd13 (dnN N i (stN N i b)) x = _
    rw [dn_keep hw i _ (by omega), st_keep hw b (by omega)]
theorem dn_closed {N : List Nd} (hw : Wf N) : ∀ (i : Nat) (b : List Bool), b.length = N.length → ∀ x n, x < i → 2 ≤ x → N[x]? = some n → nd13 (dnN N i b) x = true →
    nd13 (dnN N i b) n.k.1 = true ∧ nd13 (dnN N i b) n.k.2.1 = true ∧ nd13 (dnN N i b) n.k.2.2.1 = true ∧ nd13 (dnN N i b) n.k.2.2.2 = true
  | 0, _, _, x, _, h, _, _, _ => by omega
  | i + 1, b, hb, x, n, hx, h2, hn, ht => by
    rcases Nat.lt_or_ge x i with h | h
    · exact dn_closed hw i _ ((st_len N i b).trans hb) x n h h2 hn ht
    · obtain rfl : x = i := by omega
      rw [dn_keep hw _ _ (Nat.le_refl _)] at ht
      have hs : stN N x b = mk4L b n.k := by
        unfold stN
        rw [ht, hn]
        have := (hw.up x n h2 hn).1
        simp [this]
      show nd13 (dnN N x (stN N x b)) n.k.1 = true ∧ nd13 (dnN N x (stN N x b)) n.k.2.1 = true ∧ nd13 (dnN N x (stN N x b)) n.k.2.2.1 = true ∧ nd13 (dnN N x (stN N x b)) n.k.2.2.2 = true
      rw [hs]
      have hl := hw.k_lt hn
      rw [← hb] at hl
      obtain ⟨m1, m2, m3, m4⟩ := mk4_in hl
      exact ⟨dn_mono x m1, dn_mono x m2, dn_mono x m3, dn_mono x m4⟩
theorem rtB_len : ∀ (l : List Nat) (b : List Bool), (rtB b l).length = b.length
  | [], _ => rfl
  | x :: l, b => (rtB_len l _).trans (by simp)
theorem rtB_mono {y : Nat} : ∀ (l : List Nat) {b : List Bool}, nd13 b y = true → nd13 (rtB b l) y = true
  | [], _, h => h
  | x :: l, _, h => rtB_mono l (nd_set_mono x h)
theorem rtB_mem {y : Nat} : ∀ {l : List Nat} {b : List Bool}, y ∈ l → y < b.length → nd13 (rtB b l) y = true
  | [], _, h, _ => by cases h
  | x :: l, b, h, hl => by
    rcases List.mem_cons.1 h with rfl | h
    · exact rtB_mono l (nd_set_same hl)
    · exact rtB_mem (l := l) h (by simpa using hl)
theorem b00_len {n : Nat} (h : 2 ≤ n) : (b00 n).length = n := by simp [b00]; omega
theorem ned_cl {N : List Nd} (hw : Wf N) (l : List Nat) : Cl13 N (nedF N l) := by
  have hb : (rtB (b00 N.length) l).length = N.length := (rtB_len l _).trans (b00_len hw.two)
  refine ⟨(dn_len N _ _).trans hb, dn_mono _ (rtB_mono l rfl), dn_mono _ (rtB_mono l rfl), fun x n h2 hn hx => ?_⟩
  exact dn_closed hw _ _ hb x n (List.getElem?_eq_some_iff.1 hn).1 h2 hn hx
theorem ned_root {N : List Nd} (hw : Wf N) {l : List Nat} {x : Nat} (h : x ∈ l) (hx : x < N.length) : nd13 (nedF N l) x = true :=
  dn_mono _ (rtB_mem h (by rw [b00_len hw.two]; exact hx))
/-- Going down, to the end: behind the cells nothing is marked. -/
theorem dn_two {N : List Nd} (hw : Wf N) (b : List Bool) : dnN N 2 b = b := by
  show stN N 0 (stN N 1 b) = b
  rw [st_low hw _ (by omega), st_low hw _ (by omega)]
/-- What is gathered, going down, behind so many. -/
def dl13 (F : List Bool) (n : Nat) : Nat → List Nat
  | 0 => []
  | k + 1 => dl13 F n k ++ (if nd13 F (n - 1 - k) then [n - 1 - k] else [])
theorem dl_top (F : List Bool) (n : Nat) : ∀ k, dl13 F (n + 1) (k + 1) = (if nd13 F n then [n] else []) ++ dl13 F n k
  | 0 => by
    show [] ++ _ = _ ++ []
    rw [List.nil_append, List.append_nil]; rfl
  | k + 1 => by
    show dl13 F (n + 1) (k + 1) ++ _ = _ ++ (dl13 F n k ++ _)
    rw [dl_top F n k, List.append_assoc, show n + 1 - 1 - (k + 1) = n - 1 - k by omega]
theorem dl_all (F : List Bool) : ∀ n, dl13 F n n = (ndL F n).reverse
  | 0 => rfl
  | n + 1 => by
    rw [dl_top, dl_all F n, ndL_succ, List.reverse_append]
    cases nd13 F n <;> rfl
theorem dl_len (F : List Bool) (n : Nat) : ∀ k, (dl13 F n k).length ≤ k
  | 0 => Nat.le_refl _
  | k + 1 => by
    have := dl_len F n k
    show (dl13 F n k ++ _).length ≤ _
    rw [List.length_append]
    split <;> simp <;> omega
end Go.Proofs.Ytgciceogggldhaa
