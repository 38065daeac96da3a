/- Layer 5, the document's answer: run, line, side, trim: contracts. -/
import Derived.Test.YtjndfdhjipfijaaGreatDoorDig0
import Derived.Test.YtjndfdhjipfijaaGreatDoorRl4
import Derived.Deep.LoopGhost
namespace Go.Proofs.YtjndfdhjipfijaaGreatDoor
open Go.RowKit Go.Extern.Stop Go.Stop Go.Extern

/-! Strings by their bytes -/
theorem mk_size (l : List UInt8) : (⟨l.toArray⟩ : ByteArray).size = l.length := by simp [ByteArray.size]
theorem str_at {l : List UInt8} {j : Nat} {c : UInt8} (h : l[j]? = some c) (w : World) :
    (Instr.index 9 (.string ⟨l.toArray⟩) (.int .i64 (j : Int))).run Tryz.prog w = .ok (.int .u8 (c.toNat : Int)) w := by
  obtain ⟨hj, rfl⟩ := List.getElem?_eq_some_iff.1 h
  rw [run_index_string _ _ _ _ _ Tryz.underlying9, dif_pos ⟨by omega, by rw [mk_size]; omega⟩]
  rfl
theorem str_empty (l : List UInt8) : (⟨l.toArray⟩ : ByteArray).toList.isEmpty = decide (l = []) := by
  rw [ByteArray.toList_mk]; cases l <;> rfl
theorem u8_is (c d : UInt8) : ((c.toNat : Int) == (d.toNat : Int)) = decide (c = d) := by
  by_cases h : c = d
  · subst h; simp
  · rw [decide_eq_false h, beq_eq_false_iff_ne]
    intro e
    exact h (UInt8.toNat_inj.1 (by omega))

set_option maxRecDepth 100000 in
set_option maxHeartbeats 400000 in
theorem rrun (k : Nat) (tag : List UInt8) (w : World) (hk : k ≤ 1000000000) (ht : tag.length ≤ 1000) :
    Calls Tryz.prog 33 #[.int .i64 (k : Int), .string ⟨tag.toArray⟩] w fun e w' => e = .returned (.string ⟨(if k < 1 then [] else if k = 1 then tag else Lib.decDigits k ++ tag).toArray⟩) ∧ w = w' := by
  by_cases h1 : k < 1
  · have hz : decide ((k : Int) < 1) = true := by simp; omega
    have HE := Lib.hid h1
    clear h1
    go_enter Tryz.func33, Tryz.ntmps33
    go_wp2_with fail
    go_ret
    exact ⟨rfl, rfl⟩
  · have hz : decide ((k : Int) < 1) = false := by simp; omega
    by_cases h2 : k = 1
    · subst h2
      go_enter Tryz.func33, Tryz.ntmps33
      go_wp2_with fail
      go_ret
      exact ⟨str_eq (a := tag) (by simp), rfl⟩
    · have hq : ((k : Int) == 1) = false := by rw [beq_eq_false_iff_ne]; omega
      have HE := Lib.hid h1
      have HF := Lib.hid h2
      have hl := dec_len k (by omega)
      clear h1 h2
      go_enter Tryz.func33, Tryz.ntmps33
      go_wp2_with fail
      refine (digits_nat k k _ (Nat.le_refl _) (by omega)).mono ?_
      rintro e w' ⟨rfl, rfl⟩
      go_wp2_with fail
      go_ret
      refine ⟨?_, rfl⟩
      rw [← cat_mk]; rfl

/-- The place behind a line; -1: it has no end. -/
def lineZ (l : List UInt8) (j : Nat) : Int := match cutL 10 (l.drop j) with
  | none => -1
  | some q => (j : Int) + q.1.length + 1
theorem lineZ_end (l : List UInt8) (j : Nat) (h : l.length ≤ j) : lineZ l j = -1 := by
  unfold lineZ; rw [List.drop_eq_nil_of_le h]; rfl
theorem lineZ_at {l : List UInt8} {j : Nat} {c : UInt8} (h : l[j]? = some c) : lineZ l j = if c = 10 then (j : Int) + 1 else lineZ l (j + 1) := by
  obtain ⟨hj, rfl⟩ := List.getElem?_eq_some_iff.1 h
  unfold lineZ
  rw [List.drop_eq_getElem_cons hj]
  simp only [cutL]
  by_cases hc : l[j] = 10
  · rw [if_pos hc, if_pos hc]; simp
  · rw [if_neg hc, if_neg hc]
    cases cutL 10 (l.drop (j + 1)) with
    | none => rfl
    | some q => simp; omega

/-! side -/
/-- What side answers: the number; -1: it isn't. -/
def sideZ (l : List UInt8) : Int := match sideL l with
  | none => -1
  | some n => (n : Int)
/-- A byte that side refuses at a place. -/
def badAt (j : Nat) (c : UInt8) : Bool := decide (c.toNat < 48) || decide (57 < c.toNat) || decide (3 < j)
theorem valL_take {l : List UInt8} {j : Nat} {c : UInt8} (h : l[j]? = some c) : valL (l.take (j + 1)) = 10 * valL (l.take j) + (c.toNat - 48) := by
  rw [List.take_add_one, h]
  unfold valL
  rw [List.foldl_append]
  rfl
theorem isDig_iff (c : UInt8) : isDig c = true ↔ 48 ≤ c.toNat ∧ c.toNat ≤ 57 := by simp [isDig]
theorem side_bad {l : List UInt8} {j : Nat} {c : UInt8} (h : l[j]? = some c) (hb : c.toNat < 48 ∨ 57 < c.toNat ∨ 3 < j) : sideZ l = -1 := by
  obtain ⟨hj, hc⟩ := List.getElem?_eq_some_iff.1 h
  unfold sideZ sideL
  rw [if_pos]
  by_cases h3 : 3 < j
  · exact Or.inr (Or.inl (by omega))
  · refine Or.inr (Or.inr (Or.inl ?_))
    rw [List.all_eq_false]
    refine ⟨c, List.mem_of_getElem? h, fun k => ?_⟩
    have := (isDig_iff c).1 k
    omega
theorem side_end {l : List UInt8} (h4 : l.length ≤ 4) (hd : l.all isDig = true) : sideZ l = if l = [] ∨ 1024 < valL l then -1 else (valL l : Int) := by
  unfold sideZ sideL
  by_cases h : l = [] ∨ 1024 < valL l
  · rw [if_pos h, if_pos (by rcases h with h | h; exact Or.inl (by rw [h]; rfl); exact Or.inr (Or.inr (Or.inr h)))]
  · rw [if_neg h, if_neg (by
      rintro (k | k | k | k)
      · exact h (Or.inl (List.isEmpty_iff.1 k))
      · omega
      · rw [hd] at k; cases k
      · exact h (Or.inr k))]
theorem all_take {l : List UInt8} {j : Nat} {c : UInt8} (h : l[j]? = some c) (ha : (l.take j).all isDig = true) (hc : isDig c = true) : (l.take (j + 1)).all isDig = true := by
  rw [List.take_add_one, h, List.all_append, ha]
  simp [hc]
theorem pow_few (j : Nat) (h : j ≤ 3) : 10 ^ j ≤ 1000 := by
  match j, h with
  | 0, _ | 1, _ | 2, _ | 3, _ => decide

end Go.Proofs.YtjndfdhjipfijaaGreatDoor
