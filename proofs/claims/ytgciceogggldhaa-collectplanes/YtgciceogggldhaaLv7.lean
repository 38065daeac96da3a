/- The laws' example of layer 7. -/
import Derived.Test.YtgciceogggldhaaQx
namespace Go.Proofs.Ytgciceogggldhaa
open Go.RowKit Go.Maps
set_option maxRecDepth 100000

theorem Nx.bel {w w' : World} {sb tb most g g' c B : Nat} {N N' : List Nd} (h : Nx sb tb most w g N c w' g' N') (h1 : B ≤ sb) (h2 : B ≤ g) (h3 : B ≤ tb) (h4 : B ≤ w.heap.size) : Below B w w' ∧ B ≤ g' := by
  refine ⟨h.frm.below (fun b hb => ?_) h4, ?_⟩
  · simp only [List.mem_cons, List.not_mem_nil, or_false] at hb
    omega
  · rcases h.gin with e | e <;> omega
theorem Nx.len {w w' : World} {sb tb most g g' c : Nat} {N N' : List Nd} (h : Nx sb tb most w g N c w' g' N') : N'.length ≤ N.length + c := by
  obtain ⟨E, rfl, hE⟩ := h.ext
  rw [List.length_append]; omega
theorem em_al {N : List Nd} {n x : Nat} (h : Em N (n + 1) x) (a b : Int) : alK N n (kidZ N x) a b = false := by
  rw [al_root, h.2]
  cases inS n a <;> cases inS n b <;> rfl
theorem Nx.al {w w' : World} {sb tb most g g' c n x : Nat} {N N' : List Nd} (h : Nx sb tb most w g N c w' g' N') (hw : Wf N) (hx : Sq N (n + 1) x) (a b : Int) : alK N' n (kidZ N' x) a b = alK N n (kidZ N x) a b := by
  obtain ⟨E, rfl, _⟩ := h.ext
  rw [kid_app E hx.lt, alK_app hw E (hx.kid hw)]
theorem far_eg : Far 2 2 5 (-9) := by
  refine ⟨by decide, by decide, fun i hi => ?_⟩
  have : i = 0 ∨ i = 1 := by omega
  rcases this with rfl | rfl <;> decide
end Go.Proofs.Ytgciceogggldhaa
