/- Layer 5, the document's answer: parts: a contract. -/
import Derived.Test.YtjndfdhjipfijaaGreatDoorRt
import Derived.Test.YtjndfdhjipfijaaGreatDoorRw
import Derived.OwnWalk
import Derived.Deep.AppendLies
namespace Go.Proofs.YtjndfdhjipfijaaGreatDoor
open Go.RowKit Go.Extern.Stop Go.Stop Go.Extern

theorem partsL_snoc (b c : UInt8) : ∀ (l : List UInt8), ∃ pre las, partsL b l = pre ++ [las] ∧ partsL b (l ++ [c]) = (if c = b then pre ++ [las, []] else pre ++ [las ++ [c]]) ∧ las.length ≤ l.length ∧ pre.length ≤ l.length
  | [] => ⟨[], [], rfl, by simp only [List.nil_append, partsL], by simp, by simp⟩
  | d :: l => by
    obtain ⟨pre, las, h1, h2, h3, h4⟩ := partsL_snoc b c l
    simp only [List.cons_append, partsL]
    by_cases hd : d = b
    · rw [if_pos hd, if_pos hd, h1, h2]
      refine ⟨[] :: pre, las, rfl, ?_, by simp; omega, by simp; omega⟩
      by_cases hc : c = b
      · rw [if_pos hc, if_pos hc]; rfl
      · rw [if_neg hc, if_neg hc]; rfl
    · rw [if_neg hd, if_neg hd, h1, h2]
      cases pre with
      | nil =>
        refine ⟨[], d :: las, rfl, ?_, by simp; omega, by simp⟩
        by_cases hc : c = b
        · rw [if_pos hc, if_pos hc]; rfl
        · rw [if_neg hc, if_neg hc]; rfl
      | cons p ps =>
        refine ⟨(d :: p) :: ps, las, rfl, ?_, by simp; omega, by simp at h4 ⊢; omega⟩
        by_cases hc : c = b
        · rw [if_pos hc, if_pos hc]; rfl
        · rw [if_neg hc, if_neg hc]; rfl

theorem Tryz.infoStr : (Tryz.prog.info? 9).map (fun i => (i.zero, i.size, i.bytes)) = some (some (.string ⟨#[]⟩), 1, 16) := by kernel_rfl
/-- Strings, by their bytes. -/
def strsV (ss : List (List UInt8)) : List Value := ss.map fun l => .string ⟨l.toArray⟩
/-- A row of strings of the call's own. -/
def OwnS (w : World) (B : Nat) (v : Value) (ss : List (List UInt8)) : Prop := w.ownsRow B 9 1 v ss.length (strsV ss)

end Go.Proofs.YtjndfdhjipfijaaGreatDoor
