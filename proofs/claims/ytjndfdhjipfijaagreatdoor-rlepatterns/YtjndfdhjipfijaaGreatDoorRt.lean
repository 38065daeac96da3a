/- Layer 5, the document's answer: trim: a contract. -/
import Derived.Test.YtjndfdhjipfijaaGreatDoorRr
namespace Go.Proofs.YtjndfdhjipfijaaGreatDoor
open Go.RowKit Go.Extern.Stop Go.Stop Go.Extern

theorem cut_mk (l : List UInt8) (i j : Nat) : (⟨l.toArray⟩ : ByteArray).extract i j = ⟨((l.drop i).take (j - i)).toArray⟩ := by
  apply ByteArray.ext
  rw [ByteArray.data_extract]
  simp
theorem cut_tail (l : List UInt8) (h : 1 ≤ l.length) (w : World) :
    (Instr.slice 9 (.string ⟨l.toArray⟩) (some (.int .i64 1)) none none).run Tryz.prog w = .ok (.string ⟨l.tail.toArray⟩) w := by
  rw [run_slice_string_l w 9 _ Tryz.underlying9 .i64 1 (by omega) (by rw [mk_size]; omega), cut_mk, mk_size]
  congr 3
  simp
  exact List.take_of_length_le (by simp)
theorem cut_last (l : List UInt8) (k : Nat) (h : k ≤ l.length) (w : World) :
    (Instr.slice 9 (.string ⟨l.toArray⟩) none (some (.int .i64 (k : Int))) none).run Tryz.prog w = .ok (.string ⟨(l.take k).toArray⟩) w := by
  rw [run_slice_string_h w 9 _ Tryz.underlying9 .i64 _ (by omega) (by rw [mk_size]; omega), cut_mk]
  congr 3
theorem drop_blank (r : List UInt8) (h : r[0]? = some 32) : r.dropWhile (· == 32) = r.tail.dropWhile (· == 32) := by
  cases r with
  | nil => simp at h
  | cons c r =>
    simp only [List.getElem?_cons_zero, Option.some.injEq] at h
    rw [List.dropWhile_cons, if_pos (by simp [h])]; rfl
theorem drop_other (r : List UInt8) (c : UInt8) (h : r[0]? = some c) (hc : c ≠ 32) : r.dropWhile (· == 32) = r := by
  cases r with
  | nil => rfl
  | cons d r =>
    simp only [List.getElem?_cons_zero, Option.some.injEq] at h
    rw [List.dropWhile_cons, if_neg (by simp [h, hc])]
/-- Without blanks at the end. -/
def trimR (r : List UInt8) : List UInt8 := (r.reverse.dropWhile (· == 32)).reverse
theorem trimR_last (r : List UInt8) (c : UInt8) (h : r[r.length - 1]? = some c) : trimR r = if c = 32 then trimR (r.take (r.length - 1)) else r := by
  obtain ⟨hj, rfl⟩ := List.getElem?_eq_some_iff.1 h
  have hr : r = r.take (r.length - 1) ++ [r[r.length - 1]] := by
    have := List.take_append_getElem (l := r) (i := r.length - 1) hj
    rw [show r.length - 1 + 1 = r.length by omega, List.take_length] at this
    exact this.symm
  generalize r[r.length - 1] = c at *
  generalize r.take (r.length - 1) = q at *
  subst hr
  unfold trimR
  rw [List.reverse_append, List.reverse_singleton, List.singleton_append, List.dropWhile_cons]
  by_cases hc : c = 32
  · rw [if_pos (by simp [hc]), if_pos hc]
  · rw [if_neg (by simp [hc]), if_neg hc]; simp

end Go.Proofs.YtjndfdhjipfijaaGreatDoor
