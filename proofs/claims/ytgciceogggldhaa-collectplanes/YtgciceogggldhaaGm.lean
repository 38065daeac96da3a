/- A map of the call's own whose keys are drawn from a finite stock, whatever its elements are: as a function. -/
import Derived.Test.YtgciceogggldhaaTb
namespace Go.Proofs.Ytgciceogggldhaa
open Go.RowKit Go.Maps

/-- A map's types, and its keys. -/
structure Mk (k e t : TypeId) (α : Type) where
  keyed : Keyed Try.prog k
  ht : Try.prog.underlying t = some (.map k e)
  kv : α → Value
  ok : α → Prop
  kl : α → Lit
  hkey : ∀ a, ok a → keyOf Try.prog k (kv a) = some (kl a)
  inj : ∀ a b, ok a → ok b → kl a = kl b → a = b
  zero : Value
  hz : ∀ w, (zeroValue e).run Try.prog w = .ok zero w
  few : ∀ ks : List α, ks.Nodup → (∀ a ∈ ks, ok a) → ks.length < maxLen
/-- An element, as it is. -/
def heldR (v : Value) : Option (DataW Value × List MemPlace) := some (.held v, [])
theorem owns_exact {w : World} {k : TypeId} {R : Value → Option (DataW Value × List MemPlace)} {b n : Nat} {D : DataW Value} (h : w.ownsMap Try.prog k R b n D) : w.ownsMap Try.prog k R b (Maps.size D) D := by
  obtain ⟨es, clock, hb, F, _, rfl⟩ := h
  exact ⟨es, clock, hb, F, by simp [Maps.size, length_sorted], rfl⟩
/-- Block b holds a map that is this function. -/
def GMap {k e t : TypeId} {α : Type} (K : Mk k e t α) (w : World) (b : Nat) (m : α → Option Value) : Prop :=
  ∃ (D : DataW Value) (ks : List α), w.ownsMap Try.prog k heldR b (Maps.size D) D ∧ Maps.size D = ks.length ∧ ks.Nodup ∧ (∀ a ∈ ks, K.ok a) ∧ (∀ a, a ∈ ks ↔ (m a).isSome = true) ∧
    ∀ a, K.ok a → (∀ v, m a = some v → Maps.has D (K.kl a) = true ∧ ∀ z, D.atKey (K.kl a) z = .held v) ∧ (m a = none → Maps.has D (K.kl a) = false)
section
variable {k e t : TypeId} {α : Type} {K : Mk k e t α}
theorem GMap.lt {w : World} {b : Nat} {m : α → Option Value} (h : GMap K w b m) : b < w.heap.size := by
  obtain ⟨D, ks, h, _⟩ := h
  exact h.lt
theorem GMap.blk {w w' : World} {b : Nat} {m : α → Option Value} (h : GMap K w b m) (hb : w'.heap[b]? = w.heap[b]?) : GMap K w' b m := by
  obtain ⟨D, ks, ⟨es, clock, h1, h2⟩, r⟩ := h
  exact ⟨D, ks, ⟨es, clock, hb.trans h1, h2⟩, r⟩
theorem GMap.is_map {w : World} {b : Nat} {m : α → Option Value} (h : GMap K w b m) : ∃ es clock, w.heap[b]? = some (.map es clock) := by
  obtain ⟨D, ks, ⟨es, clock, h1, h2⟩, r⟩ := h
  exact ⟨es, clock, h1⟩
theorem GMap.later {w w' : World} {b : Nat} {m : α → Option Value} (h : GMap K w b m) (hb : Below w.heap.size w w') : GMap K w' b m := h.blk (hb.block b h.lt)
theorem GMap.drewN {w : World} {b : Nat} {m : α → Option Value} (h : GMap K w b m) (q : Nat) : GMap K (w.drewN q) b m := h.blk rfl
theorem gmap_new (K : Mk k e t α) (w : World) : GMap K (w.alloc (.map #[] 0)) w.heap.size (fun _ => none) := by
  refine ⟨.map [], [], World.ownsMap_made w _ _ _, rfl, List.nodup_nil, by simp, by simp, fun a _ => ⟨fun v h => by simp at h, fun _ => by simp [Maps.has]⟩⟩
theorem GMap.look {w : World} {b : Nat} {m : α → Option Value} (h : GMap K w b m) (a : α) (ha : K.ok a) :
    (∀ v, m a = some v → (Instr.lookup t (.map (some b)) (K.kv a) true).run Try.prog w = .ok (.tuple #[v, .bool true]) w) ∧
    (m a = none → (Instr.lookup t (.map (some b)) (K.kv a) true).run Try.prog w = .ok (.tuple #[K.zero, .bool false]) w) := by
  obtain ⟨D, ks, ho, hs, hnd, hok, hmem, hval⟩ := h
  obtain ⟨v, ps, hr, hv⟩ := ho.look_ok K.keyed K.ht (K.hz w) (zd := .held K.zero) (zp := []) rfl (K.hkey a ha)
  obtain ⟨g1, g2⟩ := hval a ha
  simp only [heldR, Option.some.injEq, Prod.mk.injEq] at hv
  refine ⟨fun u hu => ?_, fun hn => ?_⟩
  · obtain ⟨h1, h2⟩ := g1 u hu
    rw [h2] at hv
    rw [hr, h1]
    have := hv.1
    simp only [DataW.held.injEq] at this
    rw [this]
  · have h1 := g2 hn
    rw [Maps.atKey_of_not_has h1] at hv
    rw [hr, h1]
    have := hv.1
    simp only [DataW.held.injEq] at this
    rw [this]
theorem GMap.put [DecidableEq α] {w : World} {b : Nat} {m : α → Option Value} (h : GMap K w b m) (a : α) (ha : K.ok a) (v : Value) :
    ∃ w', (Instr.mapUpdate t (.map (some b)) (K.kv a) v).run Try.prog w = .ok () w' ∧ GMap K w' b (fun x => if x = a then some v else m x) ∧ w.grownBy w' (some b) := by
  obtain ⟨D, ks, ho, hs, hnd, hok, hmem, hval⟩ := h
  obtain ⟨w', r1, r2, r3⟩ := ho.update K.keyed K.ht (by rw [hs]; exact K.few ks hnd hok) (K.hkey a ha) (d := .held v) (ps := []) rfl
  have hkl : WideAt.IsKeyLit (K.kl a) := K.keyed.key (K.hkey a ha)
  have hsz := Maps.size_put (k := K.kl a) (ho.tidy K.keyed) (.held v)
  refine ⟨w', r1, ⟨D.put (K.kl a) (.held v), if a ∈ ks then ks else a :: ks, owns_exact r2, ?_, ?_, ?_, fun x => ?_, fun x hx => ?_⟩, r3⟩
  · rw [hsz]
    by_cases hm : a ∈ ks
    · rw [if_pos hm]
      obtain ⟨u, hu⟩ := Option.isSome_iff_exists.1 ((hmem a).1 hm)
      rw [((hval a ha).1 u hu).1, if_pos rfl, hs]
    · rw [if_neg hm]
      have hn : m a = none := by
        cases hma : m a with
        | none => rfl
        | some u => exact absurd ((hmem a).2 (by rw [hma]; rfl)) hm
      rw [(hval a ha).2 hn]
      simp [hs]
  · split
    · exact hnd
    · rename_i hm
      exact List.nodup_cons.2 ⟨hm, hnd⟩
  · split
    · exact hok
    · intro x hx
      rcases List.mem_cons.1 hx with rfl | hx
      · exact ha
      · exact hok x hx
  · by_cases hxa : x = a
    · subst hxa
      simp only [if_true, Option.isSome_some, iff_true]
      split
      · assumption
      · exact List.mem_cons_self
    · simp only [if_neg hxa]
      rw [← hmem]
      split
      · exact Iff.rfl
      · simp [hxa]
  · by_cases hxa : x = a
    · subst hxa
      simp only [if_true]
      refine ⟨fun u hu => ?_, fun hn => by simp at hn⟩
      obtain rfl := Option.some.inj hu
      exact ⟨Maps.has_put_same ho.isMap hkl _, fun z => Maps.atKey_put_same ho.isMap hkl _ _⟩
    · simp only [if_neg hxa]
      have hne : K.kl x ≠ K.kl a := fun hh => hxa (K.inj _ _ hx ha hh)
      refine ⟨fun u hu => ?_, fun hn => ?_⟩
      · obtain ⟨h1, h2⟩ := (hval x hx).1 u hu
        exact ⟨by rw [Maps.has_put_other hne]; exact h1, fun z => by rw [Maps.atKey_put_other hne]; exact h2 z⟩
      · rw [Maps.has_put_other hne]; exact (hval x hx).2 hn
end
/-- Numbers below a bound, each once, are no more than it. -/
theorem nat_few : ∀ (M : Nat) (l : List Nat), l.Nodup → (∀ x ∈ l, x < M) → l.length ≤ M
  | 0, l, _, h => by
    cases l with
    | nil => simp
    | cons x r => exact absurd (h x List.mem_cons_self) (by omega)
  | M + 1, l, hn, h => by
    have h1 := nat_few M (l.filter (· != M)) (hn.filter _) (fun x hx => by
      obtain ⟨h1, h2⟩ := List.mem_filter.1 hx
      have := h x h1
      simp at h2
      omega)
    have h2 : l.length ≤ (l.filter (· != M)).length + 1 := by
      clear h1 h
      induction l with
      | nil => simp
      | cons x r ih =>
        obtain ⟨hx, hr⟩ := List.nodup_cons.1 hn
        by_cases e : x = M
        · subst e
          rw [List.filter_cons_of_neg (by simp)]
          have : r.filter (· != x) = r := List.filter_eq_self.2 fun y hy => by
            simp
            rintro rfl
            exact hx hy
          rw [this]; simp
        · rw [List.filter_cons_of_pos (by simp [e])]
          have := ih hr
          simp
          omega
    omega
theorem map_nodup {α : Type} {f : α → Nat} : ∀ {l : List α}, l.Nodup → (∀ x ∈ l, ∀ y ∈ l, f x = f y → x = y) → (l.map f).Nodup
  | [], _, _ => List.nodup_nil
  | x :: r, hn, h => by
    obtain ⟨hx, hr⟩ := List.nodup_cons.1 hn
    rw [List.map_cons, List.nodup_cons]
    refine ⟨fun hm => ?_, map_nodup hr fun a ha b hb => h a (List.mem_cons_of_mem _ ha) b (List.mem_cons_of_mem _ hb)⟩
    obtain ⟨y, hy, e⟩ := List.mem_map.1 hm
    exact hx (by rw [← h y (List.mem_cons_of_mem _ hy) x List.mem_cons_self e]; exact hy)
/-- A stock of keys, by their codes. -/
theorem few_of {α : Type} {ok : α → Prop} (f : α → Nat) (M : Nat) (hM : M < maxLen) (hf : ∀ a, ok a → f a < M) (hi : ∀ a b, ok a → ok b → f a = f b → a = b) (ks : List α) (hn : ks.Nodup) (h : ∀ a ∈ ks, ok a) : ks.length < maxLen := by
  have h1 := nat_few M (ks.map f) (map_nodup hn fun x hx y hy e => hi x y (h x hx) (h y hy) e) (fun x hx => by
    obtain ⟨y, hy, rfl⟩ := List.mem_map.1 hx
    exact hf y (h y hy))
  rw [List.length_map] at h1
  omega
end Go.Proofs.Ytgciceogggldhaa
