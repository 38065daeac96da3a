/- Cells of later generations: where they are, and how many: plain mathematics, no program. -/
import Derived.Test.YtaapkngpnlnjeaaGreatDoorP12
namespace Go.Proofs.YtaapkngpnlnjeaaGreatDoor
open Go.RowKit

/-- A living cell is within k of one that lived k generations before. -/
theorem gens_from : ∀ (k : Nat) {F : Plane}, (∀ p q, F p q ≤ 1) → ∀ {p q : Int}, gens k F p q = 1 → ∃ X Y, (p - k ≤ X ∧ X ≤ p + k) ∧ (q - k ≤ Y ∧ Y ≤ q + k) ∧ F X Y = 1
  | 0, F, _, p, q, h => ⟨p, q, by omega, by omega, h⟩
  | k + 1, F, hb, p, q, h => by
    obtain ⟨a, b, h1, h2, h3⟩ := gens_from k (F := lf F) (fun p q => lf_bin F p q) h
    apply Classical.byContradiction
    intro hn
    have : lf F a b = 0 := lf_dead fun X Y hX hY => by
      have h4 := hb X Y
      by_cases h5 : F X Y = 1
      · exact absurd ⟨X, Y, by omega, by omega, h5⟩ hn
      · omega
    omega
/-- The places within j of one. -/
def box11 (j : Nat) (c : Int × Int) : List (Int × Int) := (List.range (2 * j + 1)).flatMap fun (a : Nat) => (List.range (2 * j + 1)).map fun (b : Nat) => (c.1 - (j : Int) + (a : Int), c.2 - (j : Int) + (b : Int))
theorem box11_len (j : Nat) (c : Int × Int) : (box11 j c).length = (2 * j + 1) * (2 * j + 1) := by
  unfold box11
  generalize 2 * j + 1 = m
  have : ∀ (l : List Nat), (l.flatMap fun (a : Nat) => (List.range m).map fun (b : Nat) => (c.1 - (j : Int) + (a : Int), c.2 - (j : Int) + (b : Int))).length = l.length * m := by
    intro l
    induction l with
    | nil => simp
    | cons x r ih => rw [List.flatMap_cons, List.length_append, ih, List.length_map, List.length_range, List.length_cons, Nat.succ_mul]; omega
  rw [this, List.length_range]
theorem mem_box11 {j : Nat} {c p : Int × Int} (h1 : c.1 - j ≤ p.1 ∧ p.1 ≤ c.1 + j) (h2 : c.2 - j ≤ p.2 ∧ p.2 ≤ c.2 + j) : p ∈ box11 j c := by
  unfold box11
  rw [List.mem_flatMap]
  refine ⟨(p.1 - (c.1 - j)).toNat, List.mem_range.2 (by omega), ?_⟩
  rw [List.mem_map]
  refine ⟨(p.2 - (c.2 - j)).toNat, List.mem_range.2 (by omega), ?_⟩
  ext <;> simp only <;> omega
theorem nd_len11 : ∀ {l k : List (Int × Int)}, l.Nodup → (∀ c, c ∈ l → c ∈ k) → l.length ≤ k.length
  | [], _, _, _ => Nat.zero_le _
  | c :: r, k, hd, h => by
    obtain ⟨h1, h2⟩ := List.nodup_cons.1 hd
    have hk := h c (List.mem_cons_self ..)
    have := nd_len11 (l := r) (k := k.erase c) h2 (fun x hx => (List.mem_erase_of_ne (by rintro rfl; exact h1 hx)).2 (h x (List.mem_cons_of_mem _ hx)))
    rw [List.length_erase_of_mem hk] at this
    have h3 := List.length_pos_of_mem hk
    rw [List.length_cons]
    omega
/-- The rows of cells of the law's loop: a row of the cells that live j generations later. -/
def Gn11 (l : List (Int × Int)) (j : Nat) (L : List (Int × Int)) : Prop := L.Nodup ∧ ∀ p q, plL L p q = gens j (plL l) p q
theorem Gn11.zero {l : List (Int × Int)} (h : l.Nodup) : Gn11 l 0 l := ⟨h, fun _ _ => rfl⟩
theorem gens_snoc : ∀ (k : Nat) (F : Plane), gens (k + 1) F = lf (gens k F)
  | 0, _ => rfl
  | k + 1, F => gens_snoc k (lf F)
theorem Gn11.next {l L M : List (Int × Int)} {j : Nat} (h : Gn11 l j L) (hd : M.Nodup) (hm : ∀ p, p ∈ M ↔ lifeL L p = true) : Gn11 l (j + 1) M := by
  refine ⟨hd, fun p q => ?_⟩
  have e : plL L = gens j (plL l) := by funext p q; exact h.2 p q
  rw [gens_snoc, ← e, life_plL h.1]
  unfold plL
  by_cases hp : (p, q) ∈ M
  · rw [if_pos hp, if_pos ((hm _).1 hp)]
  · rw [if_neg hp, if_neg (fun hh => hp ((hm _).2 hh))]
theorem Gn11.mem {l L : List (Int × Int)} {j : Nat} (h : Gn11 l j L) (p q : Int) : decide (gens j (plL l) p q = 1) = decide ((p, q) ∈ L) := by
  rw [← h.2 p q]
  unfold plL
  by_cases hp : (p, q) ∈ L <;> simp [hp]
theorem Gn11.from {l L : List (Int × Int)} {j : Nat} (h : Gn11 l j L) {p : Int × Int} (hp : p ∈ L) : ∃ c ∈ l, (c.1 - j ≤ p.1 ∧ p.1 ≤ c.1 + j) ∧ c.2 - j ≤ p.2 ∧ p.2 ≤ c.2 + j := by
  have h1 : gens j (plL l) p.1 p.2 = 1 := by rw [← h.2]; unfold plL; rw [if_pos hp]
  obtain ⟨X, Y, h2, h3, h4⟩ := gens_from j (plL_bin l) h1
  unfold plL at h4
  split at h4
  · rename_i hm
    exact ⟨(X, Y), hm, ⟨by show X - _ ≤ _; omega, by show _ ≤ X + _; omega⟩, by show Y - _ ≤ _; omega, by show _ ≤ Y + _; omega⟩
  · cases h4
theorem Gn11.len {l L : List (Int × Int)} {j : Nat} (h : Gn11 l j L) (hj : j ≤ 9) (hl : l.length ≤ 40) : L.length ≤ 14440 := by
  have h1 : L.length ≤ (l.flatMap (box11 j)).length := nd_len11 h.1 fun p hp => by
    obtain ⟨c, hc, h2, h3⟩ := h.from hp
    exact List.mem_flatMap.2 ⟨c, hc, mem_box11 h2 h3⟩
  have h2 : ∀ (l : List (Int × Int)), (l.flatMap (box11 j)).length = l.length * ((2 * j + 1) * (2 * j + 1)) := by
    intro l
    have hb := box11_len j
    generalize (2 * j + 1) * (2 * j + 1) = m at *
    induction l with
    | nil => simp
    | cons x r ih => rw [List.flatMap_cons, List.length_append, ih, hb, List.length_cons, Nat.succ_mul]; omega
  rw [h2] at h1
  have h3 : (2 * j + 1) * (2 * j + 1) ≤ 19 * 19 := Nat.mul_le_mul (by omega) (by omega)
  have h4 := Nat.mul_le_mul hl h3
  omega
end Go.Proofs.YtaapkngpnlnjeaaGreatDoor
