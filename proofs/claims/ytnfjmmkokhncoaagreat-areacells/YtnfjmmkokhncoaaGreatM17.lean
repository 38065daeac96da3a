-- M17
import Derived.Test.YtnfjmmkokhncoaaGreatM15
import Derived.Test.YtnfjmmkokhncoaaGreatM16
section
namespace Go.Proofs.YtnfjmmkokhncoaaGreat
open Go.RowKit Go.Maps
set_option maxRecDepth 100000

theorem onP_in {a : Int} (h : onP a = true) : inS 61 a = true := by
  unfold onP at h
  simp only [Bool.and_eq_true, decide_eq_true_eq] at h
  rw [inS_iff, show (2 : Int) ^ 61 = 2305843009213693952 by decide]
  omega
/-- How far a plane goes up to have a point. -/
def Far (n d : Nat) (a b : Int) : Prop := n + d ≤ 61 ∧ (inS (n + d) a && inS (n + d) b) = true ∧ ∀ i, i < d → (inS (n + i) a && inS (n + i) b) = false
theorem far_ex (n : Nat) (hn : n ≤ 61) (a b : Int) (h : (onP a && onP b) = true) : ∃ d, Far n d a b := by
  rw [Bool.and_eq_true] at h
  have hp : ∃ d, n + d ≤ 61 ∧ (inS (n + d) a && inS (n + d) b) = true := ⟨61 - n, by omega, by rw [show n + (61 - n) = 61 by omega, onP_in h.1, onP_in h.2]; rfl⟩
  obtain ⟨d, hd⟩ := hp
  induction d using Nat.strongRecOn with
  | _ d ih =>
    by_cases hm : ∀ i, i < d → (inS (n + i) a && inS (n + i) b) = false
    · exact ⟨d, hd.1, hd.2, hm⟩
    · obtain ⟨i, hi⟩ := Classical.not_forall.1 hm
      obtain ⟨hi1, hi2⟩ := Classical.not_imp.1 hi
      exact ih i hi1 ⟨by omega, by cases hh : (inS (n + i) a && inS (n + i) b) with | true => rfl | false => exact absurd hh hi2⟩
end Go.Proofs.YtnfjmmkokhncoaaGreat
end

section
namespace Go.Proofs.YtnfjmmkokhncoaaGreat
open Go.RowKit Go.Maps
set_option maxRecDepth 100000

end Go.Proofs.YtnfjmmkokhncoaaGreat
end

section

end

section
namespace Go.Proofs.YtnfjmmkokhncoaaGreat
open Go.RowKit Go.Maps
set_option maxRecDepth 100000

theorem Nx.bel {w w' : World} {sb tb most g g' c B : Nat} {N N' : List Nd} (h : Nx sb tb most w g N c w' g' N') (h1 : B ≤ sb) (h2 : B ≤ g) (h3 : B ≤ tb) (h4 : B ≤ w.heap.size) : Below B w w' ∧ B ≤ g' := by
  refine ⟨h.frm.below (fun b hb => ?_) h4, ?_⟩
  · simp only [List.mem_cons, List.not_mem_nil, or_false] at hb
    omega
  · rcases h.gin with e | e <;> omega
theorem Nx.len {w w' : World} {sb tb most g g' c : Nat} {N N' : List Nd} (h : Nx sb tb most w g N c w' g' N') : N'.length ≤ N.length + c := by
  obtain ⟨E, rfl, hE⟩ := h.ext
  rw [List.length_append]; omega
theorem em_al {N : List Nd} {n x : Nat} (h : Em N (n + 1) x) (a b : Int) : alK N n (kidZ N x) a b = false := by
  rw [al_root, h.2]
  cases inS n a <;> cases inS n b <;> rfl
theorem Nx.al {w w' : World} {sb tb most g g' c n x : Nat} {N N' : List Nd} (h : Nx sb tb most w g N c w' g' N') (hw : Wf N) (hx : Sq N (n + 1) x) (a b : Int) : alK N' n (kidZ N' x) a b = alK N n (kidZ N x) a b := by
  obtain ⟨E, rfl, _⟩ := h.ext
  rw [kid_app E hx.lt, alK_app hw E (hx.kid hw)]
theorem far_eg : Far 2 2 5 (-9) := by
  refine ⟨by decide, by decide, fun i hi => ?_⟩
  have : i = 0 ∨ i = 1 := by omega
  rcases this with rfl | rfl <;> decide
end Go.Proofs.YtnfjmmkokhncoaaGreat
end

section
namespace Go.Proofs.YtnfjmmkokhncoaaGreat
open Go.RowKit Go.Maps
set_option maxRecDepth 100000

theorem grown_other {w w' : World} {b c : Nat} {o : Obj} (h : w.grownBy w' (some b)) (hc : w.heap[c]? = some o) (hne : c ≠ b) : w'.heap[c]? = some o := by
  rw [h.block c (Array.getElem?_eq_some_iff.1 hc).1 (by simpa using hne)]; exact hc
theorem grown_bel {w w' : World} {b B : Nat} {W : World} (h : w.grownBy w' (some b)) (hb : Below B W w) (hW : B ≤ W.heap.size) (hB : B ≤ b) : Below B W w' :=
  hb.grown h (by have := hb.size; omega) (fun k hk => by cases hk; exact hB)
end Go.Proofs.YtnfjmmkokhncoaaGreat
end
