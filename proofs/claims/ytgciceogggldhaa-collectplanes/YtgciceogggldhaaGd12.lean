/- Package roots: a map of the call's own: struck keys, how many; roots by handle. -/
import Derived.Test.YtgciceogggldhaaGm
import Derived.WalkKit
import Derived.WalkLawsBesides
import Derived.Lib.Hide
import Derived.Deep.LoopGhost
import Derived.Deep.QuietTactic
import Derived.Deep.AppendLies
import Derived.Laws.BytesArg
import Derived.OwnWalk
import Derived.Deep.DeepCutAuto
import Derived.Deep.CutRange
import Derived.Deep.CutBlock
import Derived.BigQuiet
import Derived.BigRegion
import Derived.Deep.RegionWith
namespace Go.Proofs.Ytgciceogggldhaa
open Go.RowKit Go.Maps
set_option maxRecDepth 100000

theorem GMap.del {k e t : TypeId} {α : Type} {K : Mk k e t α} [DecidableEq α] {w : World} {b : Nat} {m : α → Option Value} (h : GMap K w b m) (a : α) (ha : K.ok a) (ty : TypeId) :
    ∃ w', (Builtin.delete_ #[t, k] ty #[.map (some b), K.kv a]).run Try.prog w = .ok (.tuple #[]) w' ∧ GMap K w' b (fun x => if x = a then none else m x) ∧ w.grownBy w' (some b) := by
  obtain ⟨D, ks, ho, hs, hnd, hok, hmem, hval⟩ := h
  obtain ⟨w', r1, r2, r3⟩ := ho.drop K.keyed K.ht (K.hkey a ha) ty
  have hsz := Maps.size_del (k := K.kl a) (ho.tidy K.keyed)
  refine ⟨w', r1, ⟨D.del (K.kl a), ks.filter (fun x => !decide (x = a)), owns_exact r2, ?_, hnd.filter _, fun x hx => hok x (List.mem_filter.1 hx).1, fun x => ?_, fun x hx => ?_⟩, r3.grown⟩
  · by_cases hm : a ∈ ks
    · obtain ⟨u, hu⟩ := Option.isSome_iff_exists.1 ((hmem a).1 hm)
      rw [((hval a ha).1 u hu).1, if_pos rfl] at hsz
      have hp : ks.Perm (a :: ks.filter (fun x => !decide (x = a))) := by
        rw [List.perm_ext_iff_of_nodup hnd (List.nodup_cons.2 ⟨by simp, hnd.filter _⟩)]
        intro x
        simp only [List.mem_cons, List.mem_filter, Bool.not_eq_true', decide_eq_false_iff_not]
        by_cases hx : x = a
        · simp [hx, hm]
        · simp [hx]
      have := hp.length_eq
      simp only [List.length_cons] at this
      omega
    · have hn : m a = none := by
        cases hma : m a with
        | none => rfl
        | some u => exact absurd ((hmem a).2 (by rw [hma]; rfl)) hm
      rw [(hval a ha).2 hn] at hsz
      have : ks.filter (fun x => !decide (x = a)) = ks := List.filter_eq_self.2 fun y hy => by
        simp
        rintro rfl
        exact hm hy
      rw [this]
      simp at hsz
      omega
  · simp only [List.mem_filter, Bool.not_eq_true', decide_eq_false_iff_not, hmem]
    by_cases hx : x = a
    · simp [hx]
    · simp [hx]
  · by_cases hxa : x = a
    · subst hxa
      simp only [if_true]
      exact ⟨fun u hu => by simp at hu, fun _ => Maps.has_del_same⟩
    · simp only [if_neg hxa]
      have hne : K.kl x ≠ K.kl a := fun hh => hxa (K.inj _ _ hx ha hh)
      refine ⟨fun u hu => ?_, fun hn => ?_⟩
      · obtain ⟨h1, h2⟩ := (hval x hx).1 u hu
        exact ⟨by rw [Maps.has_del_other hne]; exact h1, fun z => by rw [Maps.atKey_del_other hne]; exact h2 z⟩
      · rw [Maps.has_del_other hne]; exact (hval x hx).2 hn
theorem GMap.len_ {k e t : TypeId} {α : Type} {K : Mk k e t α} {w : World} {b : Nat} {m : α → Option Value} (h : GMap K w b m) (ks : List α) (hn : ks.Nodup) (hk : ∀ a, a ∈ ks ↔ (m a).isSome = true) (ty : TypeId) :
    (Builtin.len_ #[t] ty #[.map (some b)]).run Try.prog w = .ok (.int .i64 (ks.length : Int)) w := by
  obtain ⟨D, ks', ho, hs, hnd, hok, hmem, hval⟩ := h
  rw [ho.len K.ht ty, hs]
  have hp : ks'.Perm ks := by
    rw [List.perm_ext_iff_of_nodup hnd hn]
    intro a
    rw [hmem, hk]
  rw [hp.length_eq]

/-- A root: a square, and how many times it is taken. -/
structure Rt12 where
  x : Nat
  n : Nat
def rtV (r : Rt12) : Value := .agg #[.int .u32 (r.x : Int), .int .i64 (r.n : Int)]
def HaOk (h : Int) : Prop := -1000000 ≤ h ∧ h ≤ 1000000
theorem haOk_wf {h : Int} (hh : HaOk h) : (Lit.int .i64 h).wf = true := by
  obtain ⟨a, b⟩ := hh
  simp [Lit.wf, IntKind.min, IntKind.max, IntKind.bits, IntKind.signed]; omega
end Go.Proofs.Ytgciceogggldhaa
