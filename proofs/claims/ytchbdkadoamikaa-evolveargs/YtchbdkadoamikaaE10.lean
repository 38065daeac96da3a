/- Planes, generations later: plain mathematics, no program. -/
import Derived.Test.YtchbdkadoamikaaS8
import Derived.Test.YtchbdkadoamikaaS7c
import Derived.Test.YtchbdkadoamikaaB9
namespace Go.Proofs.Ytchbdkadoamikaa
open Go.RowKit

abbrev Plane := Int → Int → Nat
/-- How many of the eight around a place are alive. -/
def nbF (F : Plane) (a b : Int) : Nat := F (a - 1) (b - 1) + F a (b - 1) + F (a + 1) (b - 1) + F (a - 1) b + F (a + 1) b + F (a - 1) (b + 1) + F a (b + 1) + F (a + 1) (b + 1)
/-- One generation later. -/
def lf (F : Plane) : Plane := fun a b => if ruleB (decide (F a b = 1)) (nbF F a b : Int) then 1 else 0
def gens : Nat → Plane → Plane
  | 0, F => F
  | k + 1, F => gens k (lf F)
/-- A plane seen from a place. -/
def shF (F : Plane) (c d : Int) : Plane := fun X Y => F (X + c) (Y + d)
theorem shF_zero (F : Plane) : shF F 0 0 = F := by funext X Y; unfold shF; rw [Int.add_zero, Int.add_zero]
theorem shF_shF (F : Plane) (a b c d : Int) : shF (shF F a b) c d = shF F (a + c) (b + d) := by
  funext X Y; unfold shF
  rw [show X + c + a = X + (a + c) by omega, show Y + d + b = Y + (b + d) by omega]
theorem lf_sh (F : Plane) (c d : Int) : lf (shF F c d) = shF (lf F) c d := by
  funext X Y
  have e : nbF (shF F c d) X Y = nbF F (X + c) (Y + d) := by
    unfold nbF shF
    rw [show X - 1 + c = X + c - 1 by omega, show X + 1 + c = X + c + 1 by omega, show Y - 1 + d = Y + d - 1 by omega, show Y + 1 + d = Y + d + 1 by omega]
  unfold lf
  rw [e]
  rfl
theorem gens_sh : ∀ (k : Nat) (F : Plane) (c d : Int), gens k (shF F c d) = shF (gens k F) c d
  | 0, _, _, _ => rfl
  | k + 1, F, c, d => by
    show gens k (lf (shF F c d)) = _
    rw [lf_sh, gens_sh k]; rfl
theorem gens_add : ∀ (i j : Nat) (F : Plane), gens (i + j) F = gens j (gens i F)
  | 0, j, F => by rw [Nat.zero_add]; rfl
  | i + 1, j, F => by
    rw [show i + 1 + j = (i + j) + 1 by omega]
    show gens (i + j) (lf F) = gens j (gens i (lf F))
    exact gens_add i j (lf F)
/-- What comes of a place hangs on those that are near. -/
theorem lf_loc {F G : Plane} {a b : Int} (h : ∀ X Y, a - 1 ≤ X ∧ X ≤ a + 1 → b - 1 ≤ Y ∧ Y ≤ b + 1 → F X Y = G X Y) : lf F a b = lf G a b := by
  unfold lf nbF
  rw [h a b (by omega) (by omega), h (a - 1) (b - 1) (by omega) (by omega), h a (b - 1) (by omega) (by omega), h (a + 1) (b - 1) (by omega) (by omega), h (a - 1) b (by omega) (by omega), h (a + 1) b (by omega) (by omega),
    h (a - 1) (b + 1) (by omega) (by omega), h a (b + 1) (by omega) (by omega), h (a + 1) (b + 1) (by omega) (by omega)]
theorem gens_loc : ∀ (k : Nat) {F G : Plane} {a b : Int}, (∀ X Y, a - k ≤ X ∧ X ≤ a + k → b - k ≤ Y ∧ Y ≤ b + k → F X Y = G X Y) → gens k F a b = gens k G a b
  | 0, F, G, a, b, h => h a b (by omega) (by omega)
  | k + 1, F, G, a, b, h => gens_loc k (F := lf F) (G := lf G) fun X Y hX hY => lf_loc fun x y hx hy => h x y (by omega) (by omega)
theorem pow_nat (k : Nat) : ((2 ^ k : Nat) : Int) = (2 : Int) ^ k := by rw [Int.natCast_pow]; rfl
theorem pow_mono {i j : Nat} (h : i ≤ j) : (2 : Int) ^ i ≤ 2 ^ j := by
  have := Nat.pow_le_pow_right (n := 2) (by decide) h
  have e1 := pow_nat i
  have e2 := pow_nat j
  omega
/-- A square's successor: the square in its middle, 2^p generations later. -/
structure Sc (N : List Nd) (m x p z : Nat) : Prop where
  sq : Sq N (m + 2) x
  pm : p ≤ m
  out : ∀ F, Con N (m + 2) x F → Con N (m + 1) z (shF (gens (2 ^ p) F) (2 ^ m) (2 ^ m))
/-- One plane tells it for all. -/
theorem Sc.of {N : List Nd} {m x p z : Nat} {F : Plane} (hp : p ≤ m) (hx : Con N (m + 2) x F) (hz : Con N (m + 1) z (shF (gens (2 ^ p) F) (2 ^ m) (2 ^ m))) : Sc N m x p z := by
  refine ⟨hx.1, hp, fun G hG => hz.of fun X Y hX hY => ?_⟩
  unfold shF
  refine gens_loc _ fun a b ha hb => ?_
  have h1 := pow_nat p
  have h2 := pow_mono hp
  have h3 := pow_two2 m
  have h4 : (2 : Int) ^ (m + 2) = 2 * 2 ^ (m + 1) := pow_two2 (m + 1)
  have e1 := hx.2 a b (by omega) (by omega)
  have e2 := hG.2 a b (by omega) (by omega)
  rw [← e1, e2]
theorem Con.unapp {N : List Nd} (hw : Wf N) {n x : Nat} {f : Plane} {E : List Nd} (hs : Sq N n x) (h : Con (N ++ E) n x f) : Con N n x f := ⟨hs, fun X Y hX hY => by rw [← get_app hw E hs]; exact h.2 X Y hX hY⟩
theorem Con.self {N : List Nd} {n x : Nat} (h : Sq N n x) : Con N n x (getZ N n x) := ⟨h, fun _ _ _ _ => rfl⟩
theorem Sc.app {N : List Nd} (hw : Wf N) (E : List Nd) {m x p z : Nat} (h : Sc N m x p z) : Sc (N ++ E) m x p z :=
  ⟨h.sq.app E, h.pm, fun F hF => (h.out F (hF.unapp hw h.sq)).app hw E⟩
theorem Sc.zq {N : List Nd} {m x p z : Nat} (h : Sc N m x p z) : Sq N (m + 1) z := (h.out _ (Con.self h.sq)).1
/-- There is one alone. -/
theorem Sc.uniq {N : List Nd} (hw : Wf N) {m m' x p z z' : Nat} (h : Sc N m x p z) (h' : Sc N m' x p z') : z = z' := by
  have e : m = m' := by
    have h1 : lvZ N x = ((m + 2 : Nat) : Int) := h.sq
    have h2 : lvZ N x = ((m' + 2 : Nat) : Int) := h'.sq
    omega
  subst e
  exact Con.inj hw (h.out _ (Con.self h.sq)) (h'.out _ (Con.self h.sq))
/-- A square's parts. -/
theorem con_q {N : List Nd} (hw : Wf N) {n x : Nat} {F : Plane} (h : Con N (n + 1) x F) (c d : Bool) : Con N n (pick (kidZ N x) c d) (shF F (off n c) (off n d)) := by
  refine ⟨h.1.kid hw c d, fun X Y hX hY => ?_⟩
  have hp := pow_two2 n
  have o1 := off_rng n c
  have o2 := off_rng n d
  have := h.2 (X + off n c) (Y + off n d) (by omega) (by omega)
  rw [show shF F (off n c) (off n d) X Y = F (X + off n c) (Y + off n d) from rfl, ← this]
  show _ = getZ N n (pick (kidZ N x) (qb n (X + off n c)) (qb n (Y + off n d))) (X + off n c) (Y + off n d)
  have e : ∀ (r : Bool) (Z : Int), 0 ≤ Z ∧ Z < 2 ^ n → qb n (Z + off n r) = r := fun r Z hZ => by
    cases r
    · simp only [off, Bool.false_eq_true, if_false, Int.add_zero]; exact qb_lo hZ.1 hZ.2
    · simp only [off, if_true]; rw [qb_one, qb_lo hZ.1 hZ.2]; rfl
  rw [e c X hX, e d Y hY]
  have := get_off N n (pick (kidZ N x) c d) c d (X + off n c) (Y + off n d)
  rw [Int.add_sub_cancel, Int.add_sub_cancel] at this
  exact this
theorem con_make2 {N : List Nd} {n x : Nat} {F : Plane} {c d : Int} {k : K4} (h : Sq N (n + 1) x) (hk : kidZ N x = k) (hc : ∀ r b, Con N n (pick k r b) (shF F (c + off n r) (d + off n b))) : Con N (n + 1) x (shF F c d) := by
  refine con_make h fun r b => ?_
  rw [hk]
  refine (hc r b).of fun X Y _ _ => ?_
  show F (X + (c + off n r)) (Y + (d + off n b)) = F (X + off n r + c) (Y + off n b + d)
  rw [show X + (c + off n r) = X + off n r + c by omega, show Y + (d + off n b) = Y + off n b + d by omega]
/-- The middle of four. -/
theorem con_mid {N : List Nd} (hw : Wf N) {n : Nat} {F : Plane} {c d : Int} {k : K4} (hk : ∀ r b, Con N (n + 1) (pick k r b) (shF F (c + off (n + 1) r) (d + off (n + 1) b))) (r b : Bool) :
    Con N n (pick (midK N k) r b) (shF F (c + 2 ^ n + off n r) (d + 2 ^ n + off n b)) := by
  rw [mid_pick]
  have := con_q hw (hk r b) (!r) (!b)
  rw [shF_shF] at this
  have e : ∀ (c : Int) (r : Bool), c + off (n + 1) r + off n (!r) = c + 2 ^ n + off n r := fun c r => by
    have := pow_two2 n
    cases r <;> simp [off] <;> omega
  rw [e, e] at this
  exact this
end Go.Proofs.Ytchbdkadoamikaa
