/- The rule on a list of cells, and on a plane: plain mathematics, no program. -/
import Derived.Test.YtchbdkadoamikaaE10
namespace Go.Proofs.Ytchbdkadoamikaa
open Go.RowKit

/-- A list's plane. -/
def plL (l : List (Int × Int)) : Plane := fun X Y => if (X, Y) ∈ l then 1 else 0
def hit (c : Int × Int) (X Y : Int) : Nat := if X = c.1 ∧ Y = c.2 then 1 else 0
theorem plL_cons {c : Int × Int} {l : List (Int × Int)} (h : c ∉ l) (X Y : Int) : plL (c :: l) X Y = plL l X Y + hit c X Y := by
  unfold plL hit
  obtain ⟨a, b⟩ := c
  simp only [List.mem_cons, Prod.mk.injEq]
  by_cases e : X = a ∧ Y = b
  · obtain ⟨rfl, rfl⟩ := e
    simp [h]
  · simp [e]
theorem hit_near (c : Int × Int) (a b : Int) : nbF (hit c) a b = if adjB (a, b) c then 1 else 0 := by
  obtain ⟨x, y⟩ := c
  unfold nbF hit adjB
  simp only [Prod.mk.injEq, Bool.and_eq_true, Bool.not_eq_true', decide_eq_false_iff_not, decide_eq_true_eq]
  by_cases hx : x = a - 1 ∨ x = a ∨ x = a + 1
  · by_cases hy : y = b - 1 ∨ y = b ∨ y = b + 1
    · rcases hx with rfl | rfl | rfl <;> rcases hy with rfl | rfl | rfl <;> grind
    · grind
  · grind
theorem nbF_add (F G : Plane) (a b : Int) : nbF (fun X Y => F X Y + G X Y) a b = nbF F a b + nbF G a b := by unfold nbF; dsimp only; omega
theorem near_plL : ∀ {l : List (Int × Int)}, l.Nodup → ∀ a b, nbF (plL l) a b = nearL l (a, b)
  | [], _, a, b => by simp [nbF, plL, nearL]
  | c :: r, h, a, b => by
    obtain ⟨h1, h2⟩ := List.nodup_cons.1 h
    have e : plL (c :: r) = fun X Y => plL r X Y + hit c X Y := by funext X Y; exact plL_cons h1 X Y
    rw [e, nbF_add, near_plL h2, hit_near]
    unfold nearL
    rw [List.countP_cons]
/-- The rule on a list is the rule on its plane. -/
theorem life_plL {l : List (Int × Int)} (h : l.Nodup) (a b : Int) : lf (plL l) a b = if lifeL l (a, b) then 1 else 0 := by
  unfold lf lifeL
  rw [near_plL h]
  congr 2
  congr 1
  rw [Bool.eq_iff_iff, decide_eq_true_eq, decide_eq_true_eq]
  unfold plL
  split <;> simp_all
theorem plL_next {l L : List (Int × Int)} (h : l.Nodup) (hL : ∀ p, p ∈ L ↔ lifeL l p = true) : plL L = lf (plL l) := by
  funext X Y
  rw [life_plL h]
  unfold plL
  simp only [hL]
end Go.Proofs.Ytchbdkadoamikaa
