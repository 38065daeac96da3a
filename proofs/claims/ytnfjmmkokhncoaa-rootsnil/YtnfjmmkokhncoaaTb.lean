/- A map[store.Kids]store.ID of the call's own: the store's table. -/
import Derived.Test.YtnfjmmkokhncoaaS6
import Derived.Maps.OwnSet
import Derived.DeepKeys4
import Derived.RowKit
import Derived.Below
import Derived.Deep.Draws
namespace Go.Proofs.Ytnfjmmkokhncoaa
open Go.RowKit Go.Maps
set_option maxRecDepth 100000

theorem Try.laidOutT : laidOutB Try.prog = true := by kernel_rfl
theorem Try.zeroID (w : World) : (zeroValue 30).run Try.prog w = .ok (.int .u32 0) w := by kernel_rfl
/-- Four numbers, as a value. -/
def kv (k : K4) : Value := .agg #[.int .u32 (k.1 : Int), .int .u32 (k.2.1 : Int), .int .u32 (k.2.2.1 : Int), .int .u32 (k.2.2.2 : Int)]
/-- Numbers that a uint32 holds. -/
def InK (k : K4) : Prop := k.1 < 4294967296 ∧ k.2.1 < 4294967296 ∧ k.2.2.1 < 4294967296 ∧ k.2.2.2 < 4294967296
theorem Try.cellsID : Try.prog.cellsOf 30 = 1 := by kernel_rfl
theorem u32_wf {x : Nat} (h : x < 4294967296) : (Lit.int .u32 (x : Int)).wf = true := by
  simp [Lit.wf, IntKind.min, IntKind.max, IntKind.bits, IntKind.signed]; omega
theorem lits_id (d : Nat) (x : Int) (h : (Lit.int .u32 x).wf = true) : Try.prog.keyLits (d + 1) 30 [.int .u32 x] = some [.int .u32 x] := by
  unfold Program.keyLits
  rw [Try.underlying30]
  simp only [h, and_self, if_true]
theorem id_wf {i : Nat} (h : i < 4294967296) : plainElem (H := Unit) Try.prog 30 (.int .u32 (i : Int)) = some (.lit (.int .u32 (i : Int)), []) := plainElem_int Try.underlying30 (u32_wf h)
/-- 's.table[k] = x' of a new square. -/
theorem find_app {N : List Nd} {k : K4} {i : Nat} (n : Nd) (h : findZ N k = some i) : findZ (N ++ [n]) k = some i := by
  obtain ⟨h2, m, hm, hk⟩ := find_some h
  have hl : 2 ≤ N.length := by have := (List.getElem?_eq_some_iff.1 hm).1; omega
  unfold findZ at h ⊢
  rw [List.drop_append_of_le_length hl]
  generalize N.drop 2 = l at h
  generalize 2 = s at h
  revert s
  induction l with
  | nil => intro s h; simp [idx] at h
  | cons x r ih =>
    intro s h
    simp only [List.cons_append, idx] at h ⊢
    split
    · rename_i hx; rw [if_pos hx] at h; exact h
    · rename_i hx; rw [if_neg hx] at h; exact ih _ h
theorem find_new {N : List Nd} {k : K4} (hl : 2 ≤ N.length) (n : Nd) (h : findZ N k = none) : findZ (N ++ [n]) k = if n.k = k then some N.length else none := by
  unfold findZ at h ⊢
  rw [List.drop_append_of_le_length hl]
  have e : N.length = 2 + (N.drop 2).length := by simp; omega
  rw [e]
  generalize N.drop 2 = l at h
  generalize 2 = s at h ⊢
  revert s
  induction l with
  | nil => intro s h; simp [idx]
  | cons x r ih =>
    intro s h
    simp only [idx, List.cons_append] at h ⊢
    split at h
    · cases h
    · rename_i hx
      rw [if_neg hx, ih _ h]
      simp only [List.length_cons]
      congr 2; omega
end Go.Proofs.Ytnfjmmkokhncoaa
