/- Package evolve: what a memo found, for any map. -/
import Derived.Test.YtchbdkadoamikaaMe
import Derived.Maps.OwnSet
namespace Go.Proofs.Ytchbdkadoamikaa
open Go.RowKit Go.Maps
set_option maxRecDepth 100000

/-- A memo asked. -/
theorem Me.look2 {w : World} {sb g tb most mb : Nat} {N : List Nd} {fb : Option Nat} {m : Stp → Option Value} (h : Me w sb g tb most N mb fb m) {x p : Nat} (ha : SeOk ⟨x, p⟩) :
    ∃ (y : Nat) (ok : Bool), (Instr.lookup 65 (.map fb) (.agg #[.int .u32 (x : Int), .int .i64 (p : Int)]) true).run Try.prog w = .ok (.tuple #[.int .u32 (y : Int), .bool ok]) w ∧
      (ok = true → m ⟨x, p⟩ = some (.int .u32 (y : Int)) ∧ ∃ n, Sc N n x p y) ∧ (ok = false → m ⟨x, p⟩ = none) := by
  rcases h.mp with ⟨rfl, hn⟩ | ⟨b', rfl, h1⟩
  · exact ⟨0, false, Maps.look_nil true Try.keyedE Try.underlying65 (Try.zeroID w) (keyE ⟨x, p⟩ ha), fun h => (by cases h), fun _ => hn _⟩
  · cases hm : m ⟨x, p⟩ with
    | some v =>
      obtain ⟨n, y, rfl, hc⟩ := h.tr _ v hm
      exact ⟨y, true, (h1.look _ ha).1 _ hm, fun _ => ⟨rfl, n, hc⟩, fun h => (by cases h)⟩
    | none => exact ⟨0, false, (h1.look _ ha).2 hm, fun h => (by cases h), fun _ => rfl⟩
/-- A memo's first map. -/
theorem Me.first {w : World} {sb g tb most mb : Nat} {N : List Nd} {m : Stp → Option Value} (h : Me w sb g tb most N mb none m) :
    Mx sb tb mb most w g N none m 0 ((w.alloc (.map #[] 0)).setCell ⟨mb, 1, none⟩ (.map (some w.heap.size))) g N (some w.heap.size) m := by
  obtain ⟨cap, hst⟩ := h.st
  obtain ⟨l1, l2, l3⟩ := hst.lt
  obtain ⟨th, t1, t2⟩ := h.blk
  obtain ⟨a1, a2, a3⟩ := h.ap
  have hml := h.mlt
  have hb := bel1 w (.map #[] 0)
  have hne : ∀ q, q ≠ mb → q < w.heap.size → ((w.alloc (.map #[] 0)).setCell ⟨mb, 1, none⟩ (.map (some w.heap.size))).heap[q]? = w.heap[q]? := fun q h1 h2 => by
    rw [Below.heap_setCell _ _ _ _ (by show q ≠ mb; exact h1), hb.block q h2]
  have hmn : ∀ a, m a = none := by
    rcases h.mp with ⟨_, hn⟩ | ⟨b, e, _⟩
    · exact hn
    · cases e
  refine ⟨⟨⟨cap, hst.keep (hne sb (Ne.symm a1) l1) (hne g (Ne.symm a2) l2) (hne tb (Ne.symm a3) l3)⟩, ⟨th, t1, ?_⟩, Or.inr ⟨_, rfl, ?_⟩, h.tr, h.ap, fun b e => by cases e; omega⟩, ⟨rfl, rfl, rfl, by simp, fun b h1 h2 => ?_⟩, Or.inl rfl, Or.inr ⟨_, rfl, Nat.le_refl _⟩, ⟨[], by simp, by simp⟩, fun _ _ h => h⟩
  · have : (w.alloc (.map #[] 0)).heap[mb]? = some (meO sb none th) := by rw [hb.block mb hml]; exact t2
    simp only [World.setCell, Array.getElem?_modify, this, meO]
    simp
  · have e : m = fun _ => none := funext hmn
    rw [e]
    refine (gmap_new mkE w).blk ?_
    rw [Below.heap_setCell _ _ _ _ (by show w.heap.size ≠ mb; omega)]
  · exact hne b (fun e => h2 (by simp [e])) h1
/-- A memo remembers. -/
theorem Me.put2 {w : World} {sb g tb most mb : Nat} {N : List Nd} {b : Nat} {m : Stp → Option Value} (h : Me w sb g tb most N mb (some b) m) {n x p y : Nat} (hs : Sc N n x p y) :
    ∃ w', (Instr.mapUpdate 65 (.map (some b)) (.agg #[.int .u32 (x : Int), .int .i64 (p : Int)]) (.int .u32 (y : Int))).run Try.prog w = .ok () w' ∧
      Mx sb tb mb most w g N (some b) m 0 w' g N (some b) (fun a => if a = ⟨x, p⟩ then some (.int .u32 (y : Int)) else m a) := by
  have ha := hs.ok h
  obtain ⟨cap, hst⟩ := h.st
  obtain ⟨l1, l2, l3⟩ := hst.lt
  obtain ⟨th, t1, t2⟩ := h.blk
  obtain ⟨q1, q2, q3, q4⟩ := h.apf b rfl
  rcases h.mp with ⟨e, _⟩ | ⟨b', e, h1⟩
  · cases e
  cases e
  obtain ⟨w', r1, r2, r3⟩ := h1.put ⟨x, p⟩ ha (.int .u32 (y : Int))
  have hne : ∀ q, q < w.heap.size → q ≠ b → w'.heap[q]? = w.heap[q]? := fun q hq hn => r3.block q hq (fun e => hn (Option.some.inj e))
  refine ⟨w', r1, ⟨⟨⟨cap, hst.keep (hne sb l1 (Ne.symm q1)) (hne g l2 (Ne.symm q2)) (hne tb l3 (Ne.symm q3))⟩, ⟨th, t1, by rw [hne mb h.mlt (Ne.symm q4)]; exact t2⟩, Or.inr ⟨b, rfl, r2⟩, fun a v hv => ?_, h.ap, h.apf⟩, Frm.of_grown r3 (fun c e => by cases e; simp), Or.inl rfl, Or.inl rfl, ⟨[], by simp, by simp⟩, fun a v hv => ?_⟩⟩
  · by_cases e : a = ⟨x, p⟩
    · subst e
      rw [if_pos rfl] at hv
      exact ⟨n, y, (Option.some.inj hv).symm, hs⟩
    · rw [if_neg e] at hv
      exact h.tr a v hv
  · show (if a = ⟨x, p⟩ then _ else m a) = some v
    by_cases e : a = ⟨x, p⟩
    · subst e
      obtain ⟨n', z, rfl, hz⟩ := h.tr _ v hv
      rw [if_pos rfl, hz.uniq h.wf hs]
    · rw [if_neg e]
      exact hv
end Go.Proofs.Ytchbdkadoamikaa
