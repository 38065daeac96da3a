/- The four in the middle of a square of level 2, one generation later: mathematics. -/
import Derived.Test.YtchbdkadoamikaaE10b
import Derived.Test.YtchbdkadoamikaaBe9
namespace Go.Proofs.Ytchbdkadoamikaa
open Go.RowKit

theorem get16_k {N : List Nd} {x : Nat} (a b : Int) : getZ N 2 x a b = kAt (kidZ N (kAt (kidZ N x) (pl (qb 1 a) (qb 1 b)))) (pl (qb 0 a) (qb 0 b)) := by
  rw [← pick_kAt, ← pick_kAt]; rfl
theorem get16_c {N : List Nd} (hw : Wf N) {x f : Nat} (hx : Sq N 2 x) (hf : Rd N x f) {i j : Nat} (hi : i < 4) (hj : j < 4) : kAt (kidZ N (kAt (kidZ N x) i)) j = plL (cells16 f) ((2 * (i % 2) + j % 2 : Nat) : Int) ((2 * (i / 2) + j / 2 : Nat) : Int) := by
  have h1 := hf.2 i j hi hj
  have hm := mem16 (f := f) (i := inQ i j) (by unfold inQ; omega)
  rw [show inQ i j % 4 = 2 * (i % 2) + j % 2 by unfold inQ; omega, show inQ i j / 4 = 2 * (i / 2) + j / 2 by unfold inQ; omega, h1] at hm
  unfold c2 at hm
  have hz := (fo_iff.1 ((fo_iff.1 (hx.kid hw) i hi).kid hw) j hj).zero hw
  unfold plL
  rw [decide_eq_true_eq] at hm
  by_cases e : kAt (kidZ N (kAt (kidZ N x) i)) j = 1
  · rw [if_pos (hm.2 e), e]
  · rw [if_neg (fun h => e (hm.1 h))]
    exact hz.resolve_right e
theorem get16 {N : List Nd} (hw : Wf N) {x f : Nat} (hx : Sq N 2 x) (hf : Rd N x f) {a b : Int} (ha : 0 ≤ a ∧ a < 4) (hb : 0 ≤ b ∧ b < 4) : getZ N 2 x a b = plL (cells16 f) a b := by
  rw [get16_k]
  have ha' : a = 0 ∨ a = 1 ∨ a = 2 ∨ a = 3 := by omega
  have hb' : b = 0 ∨ b = 1 ∨ b = 2 ∨ b = 3 := by omega
  rw [get16_c hw hx hf (pl_lt _ _) (pl_lt _ _)]
  rcases ha' with rfl | rfl | rfl | rfl <;> rcases hb' with rfl | rfl | rfl | rfl <;> rfl
theorem sc_zero {N E : List Nd} (hw : Wf N) {x f r : Nat} (hx : Sq N 2 x) (hf : Rd N x f) (hr : Sq (N ++ E) 1 r) (hk : kidZ (N ++ E) r = nK f) (hw' : Wf (N ++ E)) : Sc (N ++ E) 0 x 0 r := by
  refine Sc.of (Nat.le_refl _) ((Con.self hx).app hw E) (con_make hr fun c d => ?_)
  have hq := (hr.kid hw') c d
  refine ⟨hq, fun X Y hX hY => ?_⟩
  have e0 : (2 : Int) ^ 0 = 1 := rfl
  rw [e0] at hX hY
  obtain rfl : X = 0 := by omega
  obtain rfl : Y = 0 := by omega
  show pick (kidZ (N ++ E) r) c d = lf (getZ N 2 x) (0 + off 0 c + 2 ^ 0) (0 + off 0 d + 2 ^ 0)
  rw [hk, pick_kAt]
  unfold nK
  rw [kAt_mk4 _ (pl_lt c d), ← inn16 f (pl_lt c d)]
  rw [show (((1 + pl c d % 2 : Nat)) : Int) = 0 + off 0 c + 2 ^ 0 by cases c <;> cases d <;> rfl, show (((1 + pl c d / 2 : Nat)) : Int) = 0 + off 0 d + 2 ^ 0 by cases c <;> cases d <;> rfl]
  rw [← life_plL (nodup16 f)]
  refine (lf_loc fun a b ha hb => ?_).symm
  have o1 : 0 ≤ off 0 c ∧ off 0 c ≤ 1 := by cases c <;> simp [off]
  have o2 : 0 ≤ off 0 d ∧ off 0 d ≤ 1 := by cases d <;> simp [off]
  exact get16 hw hx hf (by omega) (by omega)
end Go.Proofs.Ytchbdkadoamikaa
