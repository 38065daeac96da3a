/- Plain: points, sorted and each once. -/
import Derived.Test.YtnfjmmkokhncoaaGreatM23
namespace Go.Proofs.YtnfjmmkokhncoaaGreat
open Go.RowKit Go.Shelf Go.Sort

def lexZ (x y : Int × Int) : Prop := x.2 < y.2 ∨ (x.2 = y.2 ∧ x.1 < y.1)
theorem lt_lex (x y : Int × Int) : ltOf cfZ x y = true ↔ lexZ x y := by rw [ltZ]; simp [lexZ]
theorem le_lex (x y : Int × Int) : leZ x y = true ↔ ¬ lexZ y x := by
  unfold leZ
  rw [← lt_lex]
  cases ltOf cfZ y x <;> simp
theorem sortZ_sorted (zs : List (Int × Int)) : (sortZ zs).Pairwise fun x y => ¬ lexZ y x := by
  have h := List.pairwise_mergeSort (le := leZ) (fun a b c h1 h2 => by
    rw [le_lex] at *; unfold lexZ at *; omega) (fun a b => by
    simp only [Bool.or_eq_true, le_lex]; unfold lexZ; omega) zs
  exact h.imp (fun h => (le_lex _ _).1 h)
theorem sortZ_mem (zs : List (Int × Int)) (x : Int × Int) : x ∈ sortZ zs ↔ x ∈ zs := (List.mergeSort_perm zs leZ).mem_iff
theorem cmpS_mem (n : Nat) : ∀ (l : List (Int × Int)), l.length ≤ n → ∀ x, x ∈ cmpS l ↔ x ∈ l := by
  induction n with
  | zero => intro l h x; rw [List.eq_nil_of_length_eq_zero (Nat.le_zero.1 h)]; exact Iff.rfl
  | succ n ih =>
    intro l h x
    rcases list_snoc l with rfl | ⟨i, y, rfl⟩
    · exact Iff.rfl
    · rw [List.length_append] at h
      have hi := ih i (by simp at h; omega)
      rw [cmpS_snoc]
      split
      · rename_i hy
        rw [hi x]
        constructor
        · intro h; exact List.mem_append_left _ h
        · intro h
          rcases List.mem_append.1 h with h | h
          · exact h
          · rw [List.mem_singleton.1 h]; exact (hi y).1 (List.mem_of_getLast? hy)
      · rw [List.mem_append, List.mem_append, hi x]
theorem cmpS_strict (n : Nat) : ∀ (l : List (Int × Int)), l.length ≤ n → (l.Pairwise fun x y => ¬ lexZ y x) → (cmpS l).Pairwise lexZ := by
  induction n with
  | zero => intro l h _; rw [List.eq_nil_of_length_eq_zero (Nat.le_zero.1 h)]; exact List.Pairwise.nil
  | succ n ih =>
    intro l h hs
    rcases list_snoc l with rfl | ⟨i, y, rfl⟩
    · exact List.Pairwise.nil
    · rw [List.length_append] at h
      have hil : i.length ≤ n := by simp at h; omega
      rw [List.pairwise_append] at hs
      have hc := ih i hil hs.1
      rw [cmpS_snoc]
      split
      · exact hc
      · rename_i hy
        rw [List.pairwise_append]
        refine ⟨hc, List.pairwise_singleton _ _, fun a ha b hb => ?_⟩
        rw [List.mem_singleton.1 hb]
        have h1 : ¬ lexZ y a := hs.2.2 a ((cmpS_mem n i hil a).1 ha) y (by simp)
        have hne : a ≠ y := by
          rintro rfl
          rcases list_snoc (cmpS i) with he | ⟨q, z, he⟩
          · rw [he] at ha; cases ha
          · rw [he, List.getLast?_concat] at hy
            rw [he] at ha hc
            have hz : ¬ lexZ a z := hs.2.2 z ((cmpS_mem n i hil z).1 (by rw [he]; simp)) a (by simp)
            rcases List.mem_append.1 ha with ha | ha
            · rw [List.pairwise_append] at hc
              exact hz (hc.2.2 a ha z (by simp))
            · exact hy (by rw [List.mem_singleton.1 ha])
        have : a.1 ≠ y.1 ∨ a.2 ≠ y.2 := by
          by_cases e1 : a.1 = y.1
          · exact Or.inr (fun e2 => hne (Prod.ext e1 e2))
          · exact Or.inl e1
        unfold lexZ at *
        omega
theorem nodup_le {α : Type} [DecidableEq α] : ∀ (a b : List α), a.Nodup → (∀ x, x ∈ a → x ∈ b) → a.length ≤ b.length
  | [], b, _, _ => Nat.zero_le _
  | x :: a, b, h, hs => by
    rw [List.nodup_cons] at h
    have h1 := nodup_le a (b.erase x) h.2 (fun y hy => (List.mem_erase_of_ne (fun e => h.1 (by rw [← e]; exact hy))).2 (hs y (by simp [hy])))
    have h2 := List.length_erase_of_mem (hs x (by simp))
    have h3 : 0 < b.length := List.length_pos_of_mem (hs x (by simp))
    simp only [List.length_cons]
    omega
theorem strict_nodup {l : List (Int × Int)} (h : l.Pairwise lexZ) : l.Nodup := by
  refine List.Pairwise.imp (fun {a b} hab => ?_) h
  rintro rfl
  unfold lexZ at hab
  omega

/-- A pattern's cells: points less a beginning, by rows, each once. -/
def cellsZ (zs : List (Int × Int)) (lo : Int × Int) : List (Int × Int) := cmpS (sortZ (zs.map fun c => (c.1 - lo.1, c.2 - lo.2)))
def cellsN (zs : List (Int × Int)) (lo : Int × Int) : List (Nat × Nat) := (cellsZ zs lo).map fun c => (c.1.toNat, c.2.toNat)
theorem cellsZ_mem (zs : List (Int × Int)) (lo c : Int × Int) : c ∈ cellsZ zs lo ↔ (lo.1 + c.1, lo.2 + c.2) ∈ zs := by
  unfold cellsZ
  rw [cmpS_mem _ _ (Nat.le_refl _), sortZ_mem, List.mem_map]
  constructor
  · rintro ⟨a, ha, rfl⟩
    have : (lo.1 + (a.1 - lo.1), lo.2 + (a.2 - lo.2)) = a := Prod.ext (by simp; omega) (by simp; omega)
    rw [this]; exact ha
  · intro h
    exact ⟨_, h, Prod.ext (by simp; omega) (by simp; omega)⟩
theorem cellsZ_strict (zs : List (Int × Int)) (lo : Int × Int) : (cellsZ zs lo).Pairwise lexZ := cmpS_strict _ _ (Nat.le_refl _) (sortZ_sorted _)
theorem cellsZ_len (zs : List (Int × Int)) (lo : Int × Int) : (cellsZ zs lo).length ≤ zs.length := by
  have := cmpS_len _ (sortZ (zs.map fun c => (c.1 - lo.1, c.2 - lo.2))) (Nat.le_refl _)
  unfold cellsZ
  simpa [sortZ] using this
/-- How many there are: as many as any list has that has each point once. -/
theorem cellsZ_count (zs ks : List (Int × Int)) (lo : Int × Int) (hn : ks.Nodup) (hm : ∀ x, x ∈ ks ↔ x ∈ zs) : (cellsZ zs lo).length = ks.length := by
  have e : ((cellsZ zs lo).map fun c => (lo.1 + c.1, lo.2 + c.2)).length = ks.length := by
    have hnd : ((cellsZ zs lo).map fun c => (lo.1 + c.1, lo.2 + c.2)).Nodup := by
      unfold List.Nodup
      rw [List.pairwise_map]
      refine List.Pairwise.imp (fun {a b} hab => ?_) (strict_nodup (cellsZ_strict zs lo))
      intro h
      simp only [Prod.mk.injEq] at h
      exact hab (Prod.ext (by omega) (by omega))
    have hmem : ∀ x, x ∈ ((cellsZ zs lo).map fun c => (lo.1 + c.1, lo.2 + c.2)) ↔ x ∈ ks := by
      intro x
      rw [List.mem_map, hm x]
      constructor
      · rintro ⟨a, ha, rfl⟩; exact (cellsZ_mem zs lo a).1 ha
      · intro h
        refine ⟨(x.1 - lo.1, x.2 - lo.2), (cellsZ_mem zs lo _).2 ?_, Prod.ext (by simp; omega) (by simp; omega)⟩
        have : (lo.1 + (x.1 - lo.1), lo.2 + (x.2 - lo.2)) = x := Prod.ext (by simp; omega) (by simp; omega)
        rw [this]; exact h
    exact Nat.le_antisymm (nodup_le _ _ hnd (fun x h => (hmem x).1 h)) (nodup_le _ _ hn (fun x h => (hmem x).2 h))
  simpa using e
theorem cellsN_zc (zs : List (Int × Int)) (lo : Int × Int) (hlo : ∀ c ∈ zs, lo.1 ≤ c.1 ∧ lo.2 ≤ c.2) : (cellsN zs lo).map zc = cellsZ zs lo := by
  unfold cellsN
  rw [List.map_map]
  have : ∀ c ∈ cellsZ zs lo, (zc ∘ fun c : Int × Int => (c.1.toNat, c.2.toNat)) c = c := by
    intro c hc
    obtain ⟨h1, h2⟩ := hlo _ ((cellsZ_mem zs lo c).1 hc)
    exact Prod.ext (by simp [zc]; omega) (by simp [zc]; omega)
  rw [List.map_congr_left this, List.map_id']
theorem ok_of_strict (W H : Nat) : ∀ (l : List (Int × Int)) (x y : Nat), l.Pairwise lexZ → (∀ c ∈ l, 0 ≤ c.1 ∧ c.1 < W ∧ 0 ≤ c.2 ∧ c.2 < H) → (∀ c ∈ l, (y : Int) < c.2 ∨ (c.2 = y ∧ (x : Int) ≤ c.1)) → okFrom W H x y (l.map fun c => (c.1.toNat, c.2.toNat))
  | [], _, _, _, _, _ => trivial
  | c :: r, x, y, hs, hb, hf => by
    rw [List.pairwise_cons] at hs
    have h1 := hb c (by simp)
    have h2 := hf c (by simp)
    refine ⟨?_, ?_, ?_, ok_of_strict W H r _ _ hs.2 (fun d hd => hb d (by simp [hd])) (fun d hd => ?_)⟩
    · simp only []; omega
    · simp only []; omega
    · simp only []; omega
    · have h3 := hs.1 d hd
      have h4 := hb d (by simp [hd])
      unfold lexZ at h3
      simp only []
      omega
end Go.Proofs.YtnfjmmkokhncoaaGreat
