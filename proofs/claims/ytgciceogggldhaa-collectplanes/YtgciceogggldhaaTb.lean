/- A map[store.Kids]store.ID of the call's own: the store's table. -/
import Derived.Test.YtgciceogggldhaaS6
import Derived.Maps.OwnSet
import Derived.DeepKeys4
import Derived.RowKit
import Derived.Below
import Derived.Deep.Draws
namespace Go.Proofs.Ytgciceogggldhaa
open Go.RowKit Go.Maps
set_option maxRecDepth 100000

theorem Try.keyDeepK : Try.prog.keyTypeAt (Try.prog.types.size + 1) 68 = true := by kernel_rfl
theorem Try.laidOutT : laidOutB Try.prog = true := by kernel_rfl
theorem Try.keyRowK : (68 : TypeId) < Try.prog.types.size := of_decide_eq_true (by kernel_rfl)
theorem Try.keyWideK : (match Try.prog.underlying 68 with | some (.array _ _) | some (.struct _) => true | _ => false) = true := by rw [Try.underlying68]
theorem Try.keyedK : Keyed Try.prog 68 := Keyed.of_law (deep_law_laid Try.laidOutT (m := 2) (by omega) Try.keyRowK (by kernel_rfl) Try.keyWideK)
theorem Try.zeroID (w : World) : (zeroValue 34).run Try.prog w = .ok (.int .u32 0) w := by kernel_rfl
/-- Four numbers, as a value. -/
def kv (k : K4) : Value := .agg #[.int .u32 (k.1 : Int), .int .u32 (k.2.1 : Int), .int .u32 (k.2.2.1 : Int), .int .u32 (k.2.2.2 : Int)]
/-- Numbers that a uint32 holds. -/
def InK (k : K4) : Prop := k.1 < 4294967296 ∧ k.2.1 < 4294967296 ∧ k.2.2.1 < 4294967296 ∧ k.2.2.2 < 4294967296
noncomputable def klk (k : K4) : Lit := (keyOf Try.prog 68 (kv k)).getD (.bool false)
theorem Try.cellsK : Try.prog.cellsOf 68 = 4 := by kernel_rfl
theorem Try.cellsID : Try.prog.cellsOf 34 = 1 := by kernel_rfl
theorem u32_wf {x : Nat} (h : x < 4294967296) : (Lit.int .u32 (x : Int)).wf = true := by
  simp [Lit.wf, IntKind.min, IntKind.max, IntKind.bits, IntKind.signed]; omega
theorem lits_id (d : Nat) (x : Int) (h : (Lit.int .u32 x).wf = true) : Try.prog.keyLits (d + 1) 34 [.int .u32 x] = some [.int .u32 x] := by
  unfold Program.keyLits
  rw [Try.underlying34]
  simp only [h, and_self, if_true]
theorem lits_kids (d : Nat) (a b c e : Int) (h1 : (Lit.int .u32 a).wf = true) (h2 : (Lit.int .u32 b).wf = true) (h3 : (Lit.int .u32 c).wf = true) (h4 : (Lit.int .u32 e).wf = true) :
    Try.prog.keyLits (d + 1 + 1) 68 [.int .u32 a, .int .u32 b, .int .u32 c, .int .u32 e] = some [.int .u32 a, .int .u32 b, .int .u32 c, .int .u32 e] := by
  have e1 := lits_id d a h1
  have e2 := lits_id d b h2
  have e3 := lits_id d c h3
  have e4 := lits_id d e h4
  unfold Program.keyLits
  rw [Try.underlying68]
  simp only [Try.cellsID, Try.cellsK]
  rw [if_pos (show ([Value.int .u32 a, .int .u32 b, .int .u32 c, .int .u32 e] : List Value).length = 4 from rfl), show List.range 4 = [0, 1, 2, 3] from rfl]
  simp only [List.mapM_cons, List.mapM_nil, Nat.mul_one, List.drop, List.take, e1, e2, e3, e4]
  rfl
theorem lits_top (a b c e : Int) (h1 : (Lit.int .u32 a).wf = true) (h2 : (Lit.int .u32 b).wf = true) (h3 : (Lit.int .u32 c).wf = true) (h4 : (Lit.int .u32 e).wf = true) :
    Try.prog.keyLits (Try.prog.types.size + 1) 68 [.int .u32 a, .int .u32 b, .int .u32 c, .int .u32 e] = some [.int .u32 a, .int .u32 b, .int .u32 c, .int .u32 e] := by
  obtain ⟨d, hd⟩ : ∃ d, Try.prog.types.size = d + 1 := ⟨Try.prog.types.size - 1, by have : (68 : Nat) < Try.prog.types.size := Try.keyRowK; omega⟩
  rw [hd]
  exact lits_kids d a b c e h1 h2 h3 h4
theorem keyK (k : K4) (h : InK k) : keyOf Try.prog 68 (kv k) = some (klk k) := by
  have hk : Try.prog.keyType 68 = true := Try.keyDeepK
  have hf : (kv k).formed Try.prog 68 = true := by simp [kv, Value.formed, Try.underlying68, Try.cellsK]
  have hl := lits_top k.1 k.2.1 k.2.2.1 k.2.2.2 (u32_wf h.1) (u32_wf h.2.1) (u32_wf h.2.2.1) (u32_wf h.2.2.2)
  have : ∃ l, keyOf Try.prog 68 (kv k) = some l := by
    unfold keyOf
    rw [Try.underlying68]
    simp only [hk, hf, Bool.and_self, if_true]
    refine ⟨.string (keyBytes [.int .u32 (k.1 : Int), .int .u32 (k.2.1 : Int), .int .u32 (k.2.2.1 : Int), .int .u32 (k.2.2.2 : Int)]), ?_⟩
    show Option.map _ (Try.prog.keyLits (Try.prog.types.size + 1) 68 [.int .u32 (k.1 : Int), .int .u32 (k.2.1 : Int), .int .u32 (k.2.2.1 : Int), .int .u32 (k.2.2.2 : Int)]) = _
    rw [hl]; rfl
  obtain ⟨l, hl⟩ := this
  unfold klk
  rw [hl]; rfl
theorem klk_inj {y z : K4} (hy : InK y) (hz : InK z) (h : klk y = klk z) : y = z := by
  have := Try.keyedK.inj (keyK y hy) (by rw [h]; exact keyK z hz)
  simp only [kv, Value.agg.injEq, Array.mk.injEq, List.cons.injEq, Value.int.injEq, and_true, true_and] at this
  obtain ⟨h1, h2, h3, h4⟩ := this
  exact Prod.ext (by omega) (Prod.ext (by omega) (Prod.ext (by omega) (by omega)))

/-- Block b holds the table of these squares. -/
def KMap (w : World) (b : Nat) (N : List Nd) : Prop :=
  ∃ D : DataW Unit, w.ownsMap Try.prog 68 (plainElem Try.prog 34) b N.length D ∧ Maps.size D + 2 = N.length ∧
    (∀ k i, InK k → findZ N k = some i → Maps.has D (klk k) = true ∧ D.atKey (klk k) (.lit (.int .u32 0)) = .lit (.int .u32 (i : Int))) ∧ ∀ k, InK k → findZ N k = none → Maps.has D (klk k) = false
theorem KMap.lt {w : World} {b : Nat} {N : List Nd} (h : KMap w b N) : b < w.heap.size := by
  obtain ⟨D, h, _⟩ := h
  exact h.lt
theorem KMap.blk {w w' : World} {b : Nat} {N : List Nd} (h : KMap w b N) (hb : w'.heap[b]? = w.heap[b]?) : KMap w' b N := by
  obtain ⟨D, ⟨es, clock, h1, h2⟩, r⟩ := h
  exact ⟨D, ⟨es, clock, hb.trans h1, h2⟩, r⟩
theorem kmap_new (w : World) : KMap (w.alloc (.map #[] 0)) w.heap.size N0 := by
  refine ⟨.map [], (World.ownsMap_made w _ _ _).mono (Nat.zero_le _), rfl, fun k i _ hf => ?_, fun k _ _ => ?_⟩
  · simp [findZ, N0, idx] at hf
  · simp [Maps.has]
theorem id_wf {i : Nat} (h : i < 4294967296) : plainElem (H := Unit) Try.prog 34 (.int .u32 (i : Int)) = some (.lit (.int .u32 (i : Int)), []) := plainElem_int Try.underlying34 (u32_wf h)
/-- 's.table[k]', with whether it is there. -/
theorem KMap.look {w : World} {b : Nat} {N : List Nd} (h : KMap w b N) (k : K4) (hk : InK k) :
    (∀ i, findZ N k = some i → (Instr.lookup 64 (.map (some b)) (kv k) true).run Try.prog w = .ok (.tuple #[.int .u32 (i : Int), .bool true]) w) ∧
    (findZ N k = none → (Instr.lookup 64 (.map (some b)) (kv k) true).run Try.prog w = .ok (.tuple #[.int .u32 0, .bool false]) w) := by
  obtain ⟨D, ho, hs, h1, h2⟩ := h
  obtain ⟨v, ps, hr, hv⟩ := ho.look_ok Try.keyedK Try.underlying64 (Try.zeroID w) (id_wf (i := 0) (by omega)) (keyK k hk)
  obtain ⟨c, rfl, hc, _⟩ := plainElem_int_inv Try.underlying34 hv
  simp only [Prod.mk.injEq] at hc
  refine ⟨fun i hi => ?_, fun hn => ?_⟩
  · obtain ⟨g1, g2⟩ := h1 k i hk hi
    rw [hr, g1]
    rw [show (((0 : Nat) : Int)) = 0 from rfl, g2] at hc
    have := hc.1
    simp only [DataW.lit.injEq, Lit.int.injEq, true_and] at this
    rw [← this]
  · rw [hr, h2 k hk hn]
    rw [Maps.atKey_of_not_has (h2 k hk hn)] at hc
    have := hc.1
    simp only [DataW.lit.injEq, Lit.int.injEq, true_and] at this
    rw [← this]; rfl
/-- The same, drawn whatever. -/
theorem KMap.drewN {w : World} {b : Nat} {N : List Nd} (h : KMap w b N) (q : Nat) : KMap (w.drewN q) b N := h.blk rfl
theorem KMap.lookQ {w : World} {b : Nat} {N : List Nd} (h : KMap w b N) (k : K4) (hk : InK k) (hn : findZ N k = none) (q : Nat) :
    (Instr.lookup 64 (.map (some b)) (.agg #[.int .u32 (k.1 : Int), .int .u32 (k.2.1 : Int), .int .u32 (k.2.2.1 : Int), .int .u32 (k.2.2.2 : Int)]) true).run Try.prog (w.drewN q) = .ok (.tuple #[.int .u32 0, .bool false]) (w.drewN q) := ((h.drewN q).look k hk).2 hn
theorem KMap.lookS {w : World} {b : Nat} {N : List Nd} (h : KMap w b N) (k : K4) (hk : InK k) {i : Nat} (hn : findZ N k = some i) (q : Nat) :
    (Instr.lookup 64 (.map (some b)) (.agg #[.int .u32 (k.1 : Int), .int .u32 (k.2.1 : Int), .int .u32 (k.2.2.1 : Int), .int .u32 (k.2.2.2 : Int)]) true).run Try.prog (w.drewN q) = .ok (.tuple #[.int .u32 (i : Int), .bool true]) (w.drewN q) := ((h.drewN q).look k hk).1 i hn
/-- 's.table[k] = x' of a new square. -/
theorem find_app {N : List Nd} {k : K4} {i : Nat} (n : Nd) (h : findZ N k = some i) : findZ (N ++ [n]) k = some i := by
  obtain ⟨h2, m, hm, hk⟩ := find_some h
  have hl : 2 ≤ N.length := by have := (List.getElem?_eq_some_iff.1 hm).1; omega
  unfold findZ at h ⊢
  rw [List.drop_append_of_le_length hl]
  generalize N.drop 2 = l at h
  generalize 2 = s at h
  revert s
  induction l with
  | nil => intro s h; simp [idx] at h
  | cons x r ih =>
    intro s h
    simp only [List.cons_append, idx] at h ⊢
    split
    · rename_i hx; rw [if_pos hx] at h; exact h
    · rename_i hx; rw [if_neg hx] at h; exact ih _ h
theorem find_new {N : List Nd} {k : K4} (hl : 2 ≤ N.length) (n : Nd) (h : findZ N k = none) : findZ (N ++ [n]) k = if n.k = k then some N.length else none := by
  unfold findZ at h ⊢
  rw [List.drop_append_of_le_length hl]
  have e : N.length = 2 + (N.drop 2).length := by simp; omega
  rw [e]
  generalize N.drop 2 = l at h
  generalize 2 = s at h ⊢
  revert s
  induction l with
  | nil => intro s h; simp [idx]
  | cons x r ih =>
    intro s h
    simp only [idx, List.cons_append] at h ⊢
    split at h
    · cases h
    · rename_i hx
      rw [if_neg hx, ih _ h]
      simp only [List.length_cons]
      congr 2; omega
theorem KMap.put {w : World} {b : Nat} {N : List Nd} (h : KMap w b N) (hl : 2 ≤ N.length) (n : Nd) (hk : InK n.k) (hf : findZ N n.k = none) (hm : N.length ≤ 1048576) :
    ∃ w', (Instr.mapUpdate 64 (.map (some b)) (kv n.k) (.int .u32 (N.length : Int))).run Try.prog w = .ok () w' ∧ KMap w' b (N ++ [n]) ∧ w.grownBy w' (some b) := by
  obtain ⟨D, ho, hs, h1, h2⟩ := h
  obtain ⟨w', r1, r2, r3⟩ := ho.update Try.keyedK Try.underlying64 (by unfold maxLen; omega) (keyK n.k hk) (id_wf (i := N.length) (by omega))
  have hkl : WideAt.IsKeyLit (klk n.k) := Try.keyedK.key (keyK n.k hk)
  refine ⟨w', r1, ⟨_, by simpa using r2, ?_, fun k i hki hi => ?_, fun k hki hi => ?_⟩, r3⟩
  · rw [Maps.size_put (ho.tidy Try.keyedK), h2 _ hk hf]; simp; omega
  · by_cases e : k = n.k
    · subst e
      rw [find_new hl n hf, if_pos rfl] at hi
      cases hi
      exact ⟨Maps.has_put_same ho.isMap hkl _, Maps.atKey_put_same ho.isMap hkl _ _⟩
    · have hne : klk k ≠ klk n.k := fun hh => e (klk_inj hki hk hh)
      rw [Maps.has_put_other hne, Maps.atKey_put_other hne]
      cases hf2 : findZ N k with
      | some j =>
        rw [find_app n hf2] at hi
        cases hi
        exact h1 k _ hki hf2
      | none =>
        rw [find_new hl n hf2, if_neg (fun hh => e hh.symm)] at hi
        cases hi
  · by_cases e : k = n.k
    · subst e
      rw [find_new hl n hf, if_pos rfl] at hi
      cases hi
    · have hne : klk k ≠ klk n.k := fun hh => e (klk_inj hki hk hh)
      rw [Maps.has_put_other hne]
      refine h2 k hki ?_
      cases hf2 : findZ N k with
      | some j => rw [find_app n hf2] at hi; cases hi
      | none => rfl
end Go.Proofs.Ytgciceogggldhaa
