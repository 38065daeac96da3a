/- Planes and their living cells, call by call: what each leaves. -/
import Derived.Test.YtfkjfkjhipieaaaSm7
namespace Go.Proofs.Ytfkjfkjhipieaaa
open Go.RowKit Go.Maps
set_option maxRecDepth 100000

/-- A plane of level n + 1 that has just these cells. -/
structure Bd (M : List Nd) (n x : Nat) (l : List (Int × Int)) : Prop where
  sq : Sq M (n + 1) x
  two : 2 ≤ n
  em : HasEm M (n - 1)
  nd : l.Nodup
  on : ∀ c, c ∈ l → (onP c.1 && onP c.2) = true
  al : ∀ p q, alK M n (kidZ M x) p q = decide ((p, q) ∈ l)
theorem Bd.nx {w w' : World} {sb tb most g g' c n x : Nat} {M M' : List Nd} {l : List (Int × Int)} (h : Bd M n x l) (hw : Wf M) (hn : Nx sb tb most w g M c w' g' M') : Bd M' n x l := by
  refine ⟨hn.sq h.sq, h.two, ?_, h.nd, h.on, fun p q => by rw [hn.al hw h.sq]; exact h.al p q⟩
  obtain ⟨E, rfl, _⟩ := hn.ext
  exact h.em.app hw E
/-- Cells that came in a row, in blocks beside a store's. -/
def Rw7 (w : World) (sb g tb : Nat) (a : Option Addr) (l : List (Int × Int)) : Prop := Ro w a l ∧ ∀ bk off, a = some ⟨bk, off, none⟩ → bk ≠ sb ∧ bk ≠ g ∧ bk ≠ tb ∧ bk < w.heap.size
theorem cell_blk {w w' : World} {b i : Nat} (h : w'.heap[b]? = w.heap[b]?) : w'.cell? ⟨b, i, none⟩ = w.cell? ⟨b, i, none⟩ := by simp only [World.cell?, h]
theorem Rw7.nx {w w' : World} {sb tb most g g' c : Nat} {M M' : List Nd} {a : Option Addr} {l : List (Int × Int)} (h : Rw7 w sb g tb a l) (hn : Nx sb tb most w g M c w' g' M') : Rw7 w' sb g' tb a l := by
  have hk : ∀ bk off, a = some ⟨bk, off, none⟩ → w'.heap[bk]? = w.heap[bk]? := fun bk off e => by
    obtain ⟨h1, h2, h3, h4⟩ := h.2 bk off e
    exact hn.frm.block bk h4 (by simp [h1, h2, h3])
  refine ⟨fun j c hc => ?_, fun bk off e => ?_⟩
  · obtain ⟨bk, e, h1, h2⟩ := h.1 j c hc
    exact ⟨bk, e, by rw [cell_blk (hk bk 0 e)]; exact h1, by rw [cell_blk (hk bk 0 e)]; exact h2⟩
  · obtain ⟨h1, h2, h3, h4⟩ := h.2 bk off e
    refine ⟨h1, ?_, h3, Nat.lt_of_lt_of_le h4 hn.frm.size⟩
    rcases hn.gin with e' | e'
    · rw [e']; exact h2
    · omega
theorem Rw7.later {w w' : World} {sb g tb : Nat} {a : Option Addr} {l : List (Int × Int)} (h : Rw7 w sb g tb a l) (hb : Below w.heap.size w w') : Rw7 w' sb g tb a l :=
  ⟨h.1.later hb, fun bk off e => by obtain ⟨h1, h2, h3, h4⟩ := h.2 bk off e; exact ⟨h1, h2, h3, Nat.lt_of_lt_of_le h4 hb.size⟩⟩
theorem Rw7.other {w : World} {sb g tb b i : Nat} {a : Option Addr} {l : List (Int × Int)} (h : Rw7 w sb g tb a l) (hb : ∀ off, a ≠ some ⟨b, off, none⟩) (v : Value) : Rw7 (w.setCell ⟨b, i, none⟩ v) sb g tb a l := by
  refine ⟨fun j c hc => ?_, fun bk off e => by obtain ⟨h1, h2, h3, h4⟩ := h.2 bk off e; exact ⟨h1, h2, h3, by simpa using h4⟩⟩
  obtain ⟨bk, e, h1, h2⟩ := h.1 j c hc
  have hne : bk ≠ b := fun e' => hb 0 (by rw [e, e'])
  exact ⟨bk, e, by rw [cell_blk (Below.heap_setCell _ _ _ _ hne)]; exact h1, by rw [cell_blk (Below.heap_setCell _ _ _ _ hne)]; exact h2⟩
theorem Rw7.nil (w : World) (sb g tb : Nat) : Rw7 w sb g tb none [] := ⟨Ro.nil _ _, fun bk off e => by cases e⟩
/-- The level that the document says. -/
theorem lev_ex (n : Nat) (hn : n ≤ 61) (l : List (Int × Int)) : ∃ L, n ≤ L ∧ L ≤ 61 ∧ (L = 61 ∨ fitB L l = true) ∧ ∀ i, n ≤ i → i < L → fitB i l = false := by
  have hp : ∃ L, n ≤ L ∧ L ≤ 61 ∧ (L = 61 ∨ fitB L l = true) := ⟨61, hn, Nat.le_refl _, Or.inl rfl⟩
  obtain ⟨L, hL⟩ := hp
  induction L using Nat.strongRecOn with
  | _ L ih =>
    by_cases hm : ∀ i, n ≤ i → i < L → fitB i l = false
    · exact ⟨L, hL.1, hL.2.1, hL.2.2, hm⟩
    · obtain ⟨i, hi⟩ := Classical.not_forall.1 hm
      obtain ⟨hi1, hi2⟩ := Classical.not_imp.1 hi
      obtain ⟨hi3, hi4⟩ := Classical.not_imp.1 hi2
      exact ih i hi3 ⟨hi1, by omega, Or.inr (by cases hh : fitB i l with | true => rfl | false => exact absurd hh hi4)⟩
theorem fit_one (n : Nat) (a b : Int) : fitB n [(a, b)] = (inS n a && inS n b) := by simp [fitB]
theorem far_of {n L : Nat} {a b : Int} (h0 : n ≤ L) (h1 : L ≤ 61) (h2 : L = 61 ∨ fitB L [(a, b)] = true) (h3 : ∀ i, n ≤ i → i < L → fitB i [(a, b)] = false) (hab : (onP a && onP b) = true) : Far n (L - n) a b := by
  refine ⟨by omega, ?_, fun i hi => ?_⟩
  · rw [show n + (L - n) = L by omega]
    rcases h2 with rfl | h2
    · rw [Bool.and_eq_true] at hab; rw [onP_in hab.1, onP_in hab.2]; rfl
    · rw [fit_one] at h2; exact h2
  · have := h3 (n + i) (by omega) (by omega)
    rw [fit_one] at this; exact this
theorem Bd.n61 {M : List Nd} {n x : Nat} {l : List (Int × Int)} (h : Bd M n x l) (hw : Wf M) : n ≤ 61 := by have := h.sq.le62 hw; omega
theorem setL_nodup {l : List (Int × Int)} (h : l.Nodup) (p : Int × Int) (alive : Bool) : (setL l p alive).Nodup := by
  unfold setL
  rw [List.nodup_append]
  refine ⟨h.filter _, by cases alive <;> simp, fun a ha b hb => ?_⟩
  cases alive
  · simp at hb
  · simp at hb ha
    rintro rfl
    exact ha.2 hb
theorem setL_mem {l : List (Int × Int)} {p c : Int × Int} {alive : Bool} : c ∈ setL l p alive ↔ (if c = p then alive = true else c ∈ l) := by
  unfold setL
  rw [List.mem_append, List.mem_filter]
  by_cases e : c = p
  · subst e
    cases alive <;> simp
  · rw [if_neg e]
    cases alive <;> simp [e]
theorem setL_len {l : List (Int × Int)} (p : Int × Int) (alive : Bool) : (setL l p alive).length ≤ l.length + 1 := by
  unfold setL
  rw [List.length_append]
  have := List.length_filter_le (fun c => !decide (c = p)) l
  cases alive <;> simp <;> omega
/-- What a call leaves. -/
theorem Bd.set {M M' : List Nd} {n x : Nat} {l : List (Int × Int)} (h : Bd M n x l) {a b : Int} {alive : Bool} {d t : Nat} (hab : (onP a && onP b) = true) (hsq : Sq M' (n + d + 1) t) (hal : ∀ p q, alK M' (n + d) (kidZ M' t) p q = if p = a ∧ q = b then alive else alK M n (kidZ M x) p q) (hem : HasEm M' (n - 1 + d)) : Bd M' (n + d) t (setL l (a, b) alive) := by
  refine ⟨hsq, by have := h.two; omega, hem.mono (by omega), setL_nodup h.nd _ _, fun c hc => ?_, fun p q => ?_⟩
  · rw [setL_mem] at hc
    split at hc
    · rename_i e; rw [e]; exact hab
    · exact h.on c hc
  · rw [hal, h.al]
    by_cases e : p = a ∧ q = b
    · rw [if_pos e, Bool.eq_iff_iff]
      simp only [decide_eq_true_eq, setL_mem, if_pos (show (p, q) = (a, b) by rw [e.1, e.2])]
    · rw [if_neg e, Bool.eq_iff_iff]
      simp only [decide_eq_true_eq, setL_mem, if_neg (show ¬ (p, q) = (a, b) by intro hh; simp at hh; exact e hh)]
theorem Bd.up {M M' : List Nd} {n x : Nat} {l : List (Int × Int)} (h : Bd M n x l) {m t L : Nat} (hm : 2 ≤ m) (hL : m - 1 ≤ L) (hsq : Sq M' (m + 1) t) (hal : ∀ p q, alK M' m (kidZ M' t) p q = alK M n (kidZ M x) p q) (hem : HasEm M' L) : Bd M' m t l :=
  ⟨hsq, hm, hem.mono hL, h.nd, h.on, fun p q => by rw [hal]; exact h.al p q⟩
theorem Bd.fits {M : List Nd} {n x : Nat} {l : List (Int × Int)} (h : Bd M n x l) : fitB n l = true := by
  unfold fitB
  rw [List.all_eq_true]
  intro c hc
  have := h.al c.1 c.2
  rw [decide_eq_true hc] at this
  unfold alK at this
  simp only [Bool.and_eq_true] at this ⊢
  exact this.1
theorem trim_lev {M : List Nd} {n x m : Nat} {l : List (Int × Int)} (h : Bd M n x l) (hm : m = 2 ∨ ∃ a b, alK M n (kidZ M x) a b = true ∧ ¬ (inS (m - 1) a = true ∧ inS (m - 1) b = true)) : ∀ i, 2 ≤ i → i < m → fitB i l = false := by
  intro i h2 hi
  rcases hm with rfl | ⟨a, b, hab, hno⟩
  · omega
  · rw [h.al] at hab
    have hin : (a, b) ∈ l := of_decide_eq_true hab
    cases hf : fitB i l with
    | false => rfl
    | true =>
      exfalso
      unfold fitB at hf
      rw [List.all_eq_true] at hf
      have := hf (a, b) hin
      simp only [Bool.and_eq_true] at this
      exact hno ⟨inS_mono (by omega) this.1, inS_mono (by omega) this.2⟩
end Go.Proofs.Ytfkjfkjhipieaaa
