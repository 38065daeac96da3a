/- Package base: square, Square: contracts. -/
import Derived.Test.YtchbdkadoamikaaBb
namespace Go.Proofs.Ytchbdkadoamikaa
open Go.RowKit Go.Maps
set_option maxRecDepth 100000

theorem two_out9 {e : Ending} {A : Nat → Prop} {B : Prop} (h : (∃ r : Nat, e = .returned (.tuple #[.int .u32 (r : Int), .nilIface]) ∧ A r) ∨ (e = .returned (.tuple #[.int .u32 0, .iface 56 (.int .i64 7)]) ∧ B)) :
    ∃ (r : Nat) (ev : Value), e = .returned (.tuple #[.int .u32 (r : Int), ev]) ∧ ((ev = .nilIface ∧ A r) ∨ (ev = .iface 56 (.int .i64 7) ∧ r = 0 ∧ B)) := by
  rcases h with ⟨r, rfl, h⟩ | ⟨rfl, h⟩
  · exact ⟨r, _, rfl, Or.inl ⟨rfl, h⟩⟩
  · exact ⟨0, _, rfl, Or.inr ⟨rfl, rfl, h⟩⟩
/-- A square of level 2 has these cells. -/
def Fr (N : List Nd) (x f : Nat) : Prop := Sq N 2 x ∧ ∀ i, i < 4 → kidZ N (kAt (kidZ N x) i) = qK f i
theorem qK_fo {N : List Nd} (hw : Wf N) (f i : Nat) : Fo N 0 (qK f i) := by
  refine fo_iff.2 fun j hj => ?_
  unfold qK
  rw [kAt_mk4 _ hj]
  split
  · exact sq_alive hw
  · exact sq_dead hw
theorem Fr.app {N : List Nd} (hw : Wf N) {x f : Nat} (E : List Nd) (h : Fr N x f) : Fr (N ++ E) x f := by
  refine ⟨h.1.app E, fun i hi => ?_⟩
  rw [kid_app E h.1.lt, kid_app E (fo_iff.1 (h.1.kid hw) i hi).lt]
  exact h.2 i hi
end Go.Proofs.Ytchbdkadoamikaa
