/- Squares and their cells: plain mathematics, no program. -/
import Derived.Test.YtjndfdhjipfijaaS6
namespace Go.Proofs.Ytjndfdhjipfijaa

/-- Square x of level n has these cells. -/
def Has (N : List Nd) : Nat → Nat → List Bool → Prop
  | 0, x, bs => (x = 0 ∧ bs = [false]) ∨ (x = 1 ∧ bs = [true])
  | n + 1, x, bs => ∃ nd b0 b1 b2 b3, N[x]? = some nd ∧ 2 ≤ x ∧ nd.lv = n + 1 ∧ Has N n nd.k.1 b0 ∧ Has N n nd.k.2.1 b1 ∧ Has N n nd.k.2.2.1 b2 ∧ Has N n nd.k.2.2.2 b3 ∧ bs = b0 ++ (b1 ++ (b2 ++ b3))
theorem Has.app {N : List Nd} (E : List Nd) (h2 : 2 ≤ N.length) : ∀ {n x : Nat} {bs : List Bool}, Has N n x bs → Has (N ++ E) n x bs
  | 0, _, _, h => h
  | n + 1, x, bs, h => by
    obtain ⟨nd, b0, b1, b2, b3, hx, hx2, hl, h0, h1, h2', h3, hb⟩ := h
    exact ⟨nd, b0, b1, b2, b3, by rw [List.getElem?_append_left (List.getElem?_eq_some_iff.1 hx).1]; exact hx, hx2, hl, h0.app E h2, h1.app E h2, h2'.app E h2, h3.app E h2, hb⟩
theorem Has.len {N : List Nd} : ∀ {n x : Nat} {bs : List Bool}, Has N n x bs → bs.length = 4 ^ n
  | 0, _, _, h => by rcases h with ⟨_, rfl⟩ | ⟨_, rfl⟩ <;> rfl
  | n + 1, x, bs, h => by
    obtain ⟨nd, b0, b1, b2, b3, _, _, _, h0, h1, h2, h3, rfl⟩ := h
    simp only [List.length_append, h0.len, h1.len, h2.len, h3.len]
    rw [Nat.pow_succ]; omega
theorem Has.only {N : List Nd} : ∀ {n x : Nat} {bs cs : List Bool}, Has N n x bs → Has N n x cs → bs = cs
  | 0, _, _, _, h, h' => by
    rcases h with ⟨e, rfl⟩ | ⟨e, rfl⟩ <;> rcases h' with ⟨e', rfl⟩ | ⟨e', rfl⟩ <;> first | rfl | omega
  | n + 1, x, bs, cs, h, h' => by
    obtain ⟨nd, b0, b1, b2, b3, hx, _, _, h0, h1, h2, h3, rfl⟩ := h
    obtain ⟨nd', c0, c1, c2, c3, hx', _, _, g0, g1, g2, g3, rfl⟩ := h'
    rw [hx] at hx'
    obtain rfl := Option.some.inj hx'
    rw [h0.only g0, h1.only g1, h2.only g2, h3.only g3]
theorem Has.inj {N : List Nd} (hw : Wf N) : ∀ {n x y : Nat} {bs : List Bool}, Has N n x bs → Has N n y bs → x = y
  | 0, _, _, _, h, h' => by
    rcases h with ⟨rfl, rfl⟩ | ⟨rfl, rfl⟩ <;> rcases h' with ⟨e', hb⟩ | ⟨e', hb⟩
    · exact e'.symm
    · simp at hb
    · simp at hb
    · exact e'.symm
  | n + 1, x, y, bs, h, h' => by
    obtain ⟨nd, b0, b1, b2, b3, hx, hx2, _, h0, h1, h2, h3, rfl⟩ := h
    obtain ⟨nd', c0, c1, c2, c3, hy, hy2, _, g0, g1, g2, g3, hb⟩ := h'
    obtain ⟨e0, hb⟩ := List.append_inj hb (h0.len.trans g0.len.symm)
    obtain ⟨e1, hb⟩ := List.append_inj hb (h1.len.trans g1.len.symm)
    obtain ⟨e2, e3⟩ := List.append_inj hb (h2.len.trans g2.len.symm)
    subst e0 e1 e2 e3
    refine hw.one x y nd nd' hx2 hy2 hx hy ?_
    exact Prod.ext (h0.inj hw g0) (Prod.ext (h1.inj hw g1) (Prod.ext (h2.inj hw g2) (h3.inj hw g3)))
theorem Has.lv {N : List Nd} (hw : Wf N) {n x : Nat} {bs : List Bool} (h : Has N n x bs) : lvZ N x = n := by
  cases n with
  | zero =>
    unfold lvZ
    rcases h with ⟨rfl, _⟩ | ⟨rfl, _⟩
    · rw [hw.dead]
    · rw [hw.alive]
  | succ n =>
    obtain ⟨nd, _, _, _, _, hx, _, hl, _⟩ := h
    unfold lvZ
    rw [hx]
    simp only [hl]
theorem sat_min (a b : Nat) : sat (min a topN) (min b topN) = min (a + b) topN := by unfold sat; omega
theorem Has.ct {N : List Nd} (hw : Wf N) : ∀ {n x : Nat} {bs : List Bool}, Has N n x bs → ctZ N x = min (bs.count true) topN
  | 0, _, _, h => by
    unfold ctZ
    rcases h with ⟨rfl, rfl⟩ | ⟨rfl, rfl⟩
    · rw [hw.dead]; rfl
    · rw [hw.alive]; rfl
  | n + 1, x, bs, h => by
    obtain ⟨nd, b0, b1, b2, b3, hx, hx2, hl, h0, h1, h2, h3, rfl⟩ := h
    obtain ⟨_, _, _, _, _, _, _, _, _, _, hc⟩ := hw.up x nd hx2 hx
    have e : ctZ N x = nd.ct := by unfold ctZ; rw [hx]
    have e0 : sat 0 (min (b0.count true) topN) = min (b0.count true) topN := by unfold sat; omega
    rw [e, hc]
    unfold livZ
    rw [h0.ct hw, h1.ct hw, h2.ct hw, h3.ct hw, e0, sat_min, sat_min, sat_min]
    simp only [List.count_append]
    omega
/-- Make of four squares of one level: their cells together. -/
theorem mk_has {N : List Nd} {most n : Nat} {k : K4} {b0 b1 b2 b3 : List Bool} (hw : Wf N) (hn : n < 62) (hl : N.length < most) (h0 : Has N n k.1 b0) (h1 : Has N n k.2.1 b1) (h2 : Has N n k.2.2.1 b2) (h3 : Has N n k.2.2.2 b3) :
    (mkZ N most k).2.2 = 0 ∧ Has (mkZ N most k).1 (n + 1) (mkZ N most k).2.1 (b0 ++ (b1 ++ (b2 ++ b3))) ∧ ∃ E, (mkZ N most k).1 = N ++ E ∧ E.length ≤ 1 := by
  have l0 := h0.lv hw
  have hf : FitZ N k := ⟨by rw [l0]; omega, by rw [l0]; omega, by rw [l0, h1.lv hw], by rw [l0, h2.lv hw], by rw [l0, h3.lv hw]⟩
  cases hfd : findZ N k with
  | some i =>
    rw [mk_there hf hfd]
    obtain ⟨hi, nd, hnd, hk⟩ := find_some hfd
    obtain ⟨p1, _, _, _, _, _, pl, _⟩ := hw.up i nd hi hnd
    rw [hk, l0] at pl
    refine ⟨rfl, ⟨nd, b0, b1, b2, b3, hnd, hi, by omega, ?_, ?_, ?_, ?_, rfl⟩, [], by simp, by simp⟩
    · rw [hk]; exact h0
    · rw [hk]; exact h1
    · rw [hk]; exact h2
    · rw [hk]; exact h3
  | none =>
    rw [mk_add hf hfd hl]
    refine ⟨rfl, ⟨newNd N k, b0, b1, b2, b3, by simp, hw.two, ?_, h0.app _ hw.two, h1.app _ hw.two, h2.app _ hw.two, h3.app _ hw.two, rfl⟩, [newNd N k], rfl, by simp⟩
    simp only [newNd, l0]
    omega
/-- The bits of a number, the lowest first. -/
def bits (c : Nat) : List Bool := (List.range 64).map fun i => c.testBit i
theorem bits_inj {c d : Nat} (hc : c < 2 ^ 64) (hd : d < 2 ^ 64) (h : bits c = bits d) : c = d := by
  apply Nat.eq_of_testBit_eq
  intro i
  rcases Nat.lt_or_ge i 64 with hi | hi
  · have := congrArg (fun l => l[i]?) h
    simpa [bits, hi] using this
  · rw [Nat.testBit_lt_two_pow (Nat.lt_of_lt_of_le hc (Nat.pow_le_pow_right (by omega) hi)), Nat.testBit_lt_two_pow (Nat.lt_of_lt_of_le hd (Nat.pow_le_pow_right (by omega) hi))]
/-- Squares in a row, each of level n, with their cells. -/
def HasL (N : List Nd) (n : Nat) (xs : List Nat) (bs : List (List Bool)) : Prop := xs.length = bs.length ∧ ∀ (i : Nat) x b, xs[i]? = some x → bs[i]? = some b → Has N n x b
theorem HasL.app {N : List Nd} (E : List Nd) (h2 : 2 ≤ N.length) {n : Nat} {xs : List Nat} {bs : List (List Bool)} (h : HasL N n xs bs) : HasL (N ++ E) n xs bs := ⟨h.1, fun i x b hx hb => (h.2 i x b hx hb).app E h2⟩
theorem HasL.nil (N : List Nd) (n : Nat) : HasL N n [] [] := ⟨rfl, fun i x b hx => by simp at hx⟩
theorem HasL.snoc {N : List Nd} {n : Nat} {xs : List Nat} {bs : List (List Bool)} (h : HasL N n xs bs) {x : Nat} {b : List Bool} (hx : Has N n x b) : HasL N n (xs ++ [x]) (bs ++ [b]) := by
  refine ⟨by simp [h.1], fun i y c hy hc => ?_⟩
  rcases Nat.lt_or_ge i xs.length with hi | hi
  · rw [List.getElem?_append_left hi] at hy
    rw [List.getElem?_append_left (by rw [← h.1]; exact hi)] at hc
    exact h.2 i y c hy hc
  · have hi2 : i < xs.length + 1 := by have := (List.getElem?_eq_some_iff.1 hy).1; simpa using this
    obtain rfl : i = xs.length := by omega
    rw [List.getElem?_append_right (Nat.le_refl _)] at hy
    rw [h.1, List.getElem?_append_right (Nat.le_refl _)] at hc
    simp at hy hc
    subst hy hc
    exact hx
theorem HasL.at {N : List Nd} {n : Nat} {xs : List Nat} {bs : List (List Bool)} (h : HasL N n xs bs) {i x : Nat} (hx : xs[i]? = some x) : ∃ b, bs[i]? = some b ∧ Has N n x b := by
  have hi : i < bs.length := by rw [← h.1]; exact (List.getElem?_eq_some_iff.1 hx).1
  exact ⟨bs[i], List.getElem?_eq_getElem hi, h.2 i x _ hx (List.getElem?_eq_getElem hi)⟩
theorem take_four {bs : List (List Bool)} {i : Nat} {b0 b1 b2 b3 : List Bool} (h0 : bs[i]? = some b0) (h1 : bs[i + 1]? = some b1) (h2 : bs[i + 2]? = some b2) (h3 : bs[i + 3]? = some b3) : (bs.take (i + 4)).flatten = (bs.take i).flatten ++ (b0 ++ (b1 ++ (b2 ++ b3))) := by
  rw [show i + 4 = i + 3 + 1 by omega, List.take_add_one, h3, show i + 3 = i + 2 + 1 by omega, List.take_add_one, h2, show i + 2 = i + 1 + 1 by omega, List.take_add_one, h1, List.take_add_one, h0]
  simp
def idOf (b : Bool) : Nat := if b then 1 else 0
theorem has_bits (N : List Nd) (c : Nat) : HasL N 0 ((bits c).map idOf) ((bits c).map fun b => [b]) := by
  refine ⟨by simp, fun i x b hx hb => ?_⟩
  rw [List.getElem?_map] at hx hb
  cases hc : (bits c)[i]? with
  | none => rw [hc] at hx; simp at hx
  | some v =>
    rw [hc] at hx hb
    simp at hx hb
    subst hx hb
    cases v
    · exact Or.inl ⟨rfl, rfl⟩
    · exact Or.inr ⟨rfl, rfl⟩
theorem flat_bits (c : Nat) : ((bits c).map fun b => [b]).flatten = bits c := by
  generalize bits c = l
  induction l with
  | nil => rfl
  | cons x r ih => simp only [List.map_cons, List.flatten_cons, ih]; rfl
end Go.Proofs.Ytjndfdhjipfijaa
