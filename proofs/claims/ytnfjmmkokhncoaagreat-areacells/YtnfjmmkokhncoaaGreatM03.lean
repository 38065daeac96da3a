-- M03
import Derived.Test.YtnfjmmkokhncoaaGreatM01
import Derived.Maps.OwnSet
import Derived.DeepKeys4
import Derived.RowKit
import Derived.Below
import Derived.Deep.Draws
import Derived.WalkKit
import Derived.WalkLawsBesides
import Derived.Lib.Hide
import Derived.Deep.LoopGhost
import Derived.Deep.QuietTactic
import Derived.Deep.AppendLies
import Derived.Laws.BytesArg
import Derived.OwnWalk
import Derived.IntWalk
import Derived.Handy
import Derived.BigRegion
import Derived.BigQuiet
import Derived.Deep.RegionWith
import Derived.Deep.RegionHeld3
section
namespace Go.Proofs.YtnfjmmkokhncoaaGreat
open Go.RowKit Go.Maps
set_option maxRecDepth 100000

theorem Tryz.keyDeepK : Tryz.prog.keyTypeAt (Tryz.prog.types.size + 1) 96 = true := by kernel_rfl
theorem Tryz.laidOutT : laidOutB Tryz.prog = true := by kernel_rfl
theorem Tryz.keyRowK : (96 : TypeId) < Tryz.prog.types.size := of_decide_eq_true (by kernel_rfl)
theorem Tryz.keyWideK : (match Tryz.prog.underlying 96 with | some (.array _ _) | some (.struct _) => true | _ => false) = true := by rw [Tryz.underlying96]
theorem Tryz.keyedK : Keyed Tryz.prog 96 := Keyed.of_law (deep_law_laid Tryz.laidOutT (m := 2) (by omega) Tryz.keyRowK (by kernel_rfl) Tryz.keyWideK)
theorem Tryz.zeroID (w : World) : (zeroValue 30).run Tryz.prog w = .ok (.int .u32 0) w := by kernel_rfl
/-- Four numbers, as a value. -/
def kv (k : K4) : Value := .agg #[.int .u32 (k.1 : Int), .int .u32 (k.2.1 : Int), .int .u32 (k.2.2.1 : Int), .int .u32 (k.2.2.2 : Int)]
/-- Numbers that a uint32 holds. -/
def InK (k : K4) : Prop := k.1 < 4294967296 ∧ k.2.1 < 4294967296 ∧ k.2.2.1 < 4294967296 ∧ k.2.2.2 < 4294967296
noncomputable def klk (k : K4) : Lit := (keyOf Tryz.prog 96 (kv k)).getD (.bool false)
theorem Tryz.cellsK : Tryz.prog.cellsOf 96 = 4 := by kernel_rfl
theorem Tryz.cellsID : Tryz.prog.cellsOf 30 = 1 := by kernel_rfl
theorem u32_wf {x : Nat} (h : x < 4294967296) : (Lit.int .u32 (x : Int)).wf = true := by
  simp [Lit.wf, IntKind.min, IntKind.max, IntKind.bits, IntKind.signed]; omega
theorem lits_id (d : Nat) (x : Int) (h : (Lit.int .u32 x).wf = true) : Tryz.prog.keyLits (d + 1) 30 [.int .u32 x] = some [.int .u32 x] := by
  unfold Program.keyLits
  rw [Tryz.underlying30]
  simp only [h, and_self, if_true]
theorem lits_kids (d : Nat) (a b c e : Int) (h1 : (Lit.int .u32 a).wf = true) (h2 : (Lit.int .u32 b).wf = true) (h3 : (Lit.int .u32 c).wf = true) (h4 : (Lit.int .u32 e).wf = true) :
    Tryz.prog.keyLits (d + 1 + 1) 96 [.int .u32 a, .int .u32 b, .int .u32 c, .int .u32 e] = some [.int .u32 a, .int .u32 b, .int .u32 c, .int .u32 e] := by
  have e1 := lits_id d a h1
  have e2 := lits_id d b h2
  have e3 := lits_id d c h3
  have e4 := lits_id d e h4
  unfold Program.keyLits
  rw [Tryz.underlying96]
  simp only [Tryz.cellsID, Tryz.cellsK]
  rw [if_pos (show ([Value.int .u32 a, .int .u32 b, .int .u32 c, .int .u32 e] : List Value).length = 4 from rfl), show List.range 4 = [0, 1, 2, 3] from rfl]
  simp only [List.mapM_cons, List.mapM_nil, Nat.mul_one, List.drop, List.take, e1, e2, e3, e4]
  rfl
theorem lits_top (a b c e : Int) (h1 : (Lit.int .u32 a).wf = true) (h2 : (Lit.int .u32 b).wf = true) (h3 : (Lit.int .u32 c).wf = true) (h4 : (Lit.int .u32 e).wf = true) :
    Tryz.prog.keyLits (Tryz.prog.types.size + 1) 96 [.int .u32 a, .int .u32 b, .int .u32 c, .int .u32 e] = some [.int .u32 a, .int .u32 b, .int .u32 c, .int .u32 e] := by
  obtain ⟨d, hd⟩ : ∃ d, Tryz.prog.types.size = d + 1 := ⟨Tryz.prog.types.size - 1, by have : (96 : Nat) < Tryz.prog.types.size := Tryz.keyRowK; omega⟩
  rw [hd]
  exact lits_kids d a b c e h1 h2 h3 h4
theorem keyK (k : K4) (h : InK k) : keyOf Tryz.prog 96 (kv k) = some (klk k) := by
  have hk : Tryz.prog.keyType 96 = true := Tryz.keyDeepK
  have hf : (kv k).formed Tryz.prog 96 = true := by simp [kv, Value.formed, Tryz.underlying96, Tryz.cellsK]
  have hl := lits_top k.1 k.2.1 k.2.2.1 k.2.2.2 (u32_wf h.1) (u32_wf h.2.1) (u32_wf h.2.2.1) (u32_wf h.2.2.2)
  have : ∃ l, keyOf Tryz.prog 96 (kv k) = some l := by
    unfold keyOf
    rw [Tryz.underlying96]
    simp only [hk, hf, Bool.and_self, if_true]
    refine ⟨.string (keyBytes [.int .u32 (k.1 : Int), .int .u32 (k.2.1 : Int), .int .u32 (k.2.2.1 : Int), .int .u32 (k.2.2.2 : Int)]), ?_⟩
    show Option.map _ (Tryz.prog.keyLits (Tryz.prog.types.size + 1) 96 [.int .u32 (k.1 : Int), .int .u32 (k.2.1 : Int), .int .u32 (k.2.2.1 : Int), .int .u32 (k.2.2.2 : Int)]) = _
    rw [hl]; rfl
  obtain ⟨l, hl⟩ := this
  unfold klk
  rw [hl]; rfl
theorem klk_inj {y z : K4} (hy : InK y) (hz : InK z) (h : klk y = klk z) : y = z := by
  have := Tryz.keyedK.inj (keyK y hy) (by rw [h]; exact keyK z hz)
  simp only [kv, Value.agg.injEq, Array.mk.injEq, List.cons.injEq, Value.int.injEq, and_true, true_and] at this
  obtain ⟨h1, h2, h3, h4⟩ := this
  exact Prod.ext (by omega) (Prod.ext (by omega) (Prod.ext (by omega) (by omega)))

/-- Block b holds the table of these squares. -/
def KMap (w : World) (b : Nat) (N : List Nd) : Prop :=
  ∃ D : DataW Unit, w.ownsMap Tryz.prog 96 (plainElem Tryz.prog 30) b N.length D ∧ Maps.size D + 2 = N.length ∧
    (∀ k i, InK k → findZ N k = some i → Maps.has D (klk k) = true ∧ D.atKey (klk k) (.lit (.int .u32 0)) = .lit (.int .u32 (i : Int))) ∧ ∀ k, InK k → findZ N k = none → Maps.has D (klk k) = false
theorem KMap.lt {w : World} {b : Nat} {N : List Nd} (h : KMap w b N) : b < w.heap.size := by
  obtain ⟨D, h, _⟩ := h
  exact h.lt
theorem KMap.blk {w w' : World} {b : Nat} {N : List Nd} (h : KMap w b N) (hb : w'.heap[b]? = w.heap[b]?) : KMap w' b N := by
  obtain ⟨D, ⟨es, clock, h1, h2⟩, r⟩ := h
  exact ⟨D, ⟨es, clock, hb.trans h1, h2⟩, r⟩
theorem kmap_new (w : World) : KMap (w.alloc (.map #[] 0)) w.heap.size N0 := by
  refine ⟨.map [], (World.ownsMap_made w _ _ _).mono (Nat.zero_le _), rfl, fun k i _ hf => ?_, fun k _ _ => ?_⟩
  · simp [findZ, N0, idx] at hf
  · simp [Maps.has]
theorem id_wf {i : Nat} (h : i < 4294967296) : plainElem (H := Unit) Tryz.prog 30 (.int .u32 (i : Int)) = some (.lit (.int .u32 (i : Int)), []) := plainElem_int Tryz.underlying30 (u32_wf h)
/-- 's.table[k]', with whether it is there. -/
theorem KMap.look {w : World} {b : Nat} {N : List Nd} (h : KMap w b N) (k : K4) (hk : InK k) :
    (∀ i, findZ N k = some i → (Instr.lookup 100 (.map (some b)) (kv k) true).run Tryz.prog w = .ok (.tuple #[.int .u32 (i : Int), .bool true]) w) ∧
    (findZ N k = none → (Instr.lookup 100 (.map (some b)) (kv k) true).run Tryz.prog w = .ok (.tuple #[.int .u32 0, .bool false]) w) := by
  obtain ⟨D, ho, hs, h1, h2⟩ := h
  obtain ⟨v, ps, hr, hv⟩ := ho.look_ok Tryz.keyedK Tryz.underlying100 (Tryz.zeroID w) (id_wf (i := 0) (by omega)) (keyK k hk)
  obtain ⟨c, rfl, hc, _⟩ := plainElem_int_inv Tryz.underlying30 hv
  simp only [Prod.mk.injEq] at hc
  refine ⟨fun i hi => ?_, fun hn => ?_⟩
  · obtain ⟨g1, g2⟩ := h1 k i hk hi
    rw [hr, g1]
    rw [show (((0 : Nat) : Int)) = 0 from rfl, g2] at hc
    have := hc.1
    simp only [DataW.lit.injEq, Lit.int.injEq, true_and] at this
    rw [← this]
  · rw [hr, h2 k hk hn]
    rw [Maps.atKey_of_not_has (h2 k hk hn)] at hc
    have := hc.1
    simp only [DataW.lit.injEq, Lit.int.injEq, true_and] at this
    rw [← this]; rfl
/-- The same, drawn whatever. -/
theorem KMap.drewN {w : World} {b : Nat} {N : List Nd} (h : KMap w b N) (q : Nat) : KMap (w.drewN q) b N := h.blk rfl
theorem KMap.lookQ {w : World} {b : Nat} {N : List Nd} (h : KMap w b N) (k : K4) (hk : InK k) (hn : findZ N k = none) (q : Nat) :
    (Instr.lookup 100 (.map (some b)) (.agg #[.int .u32 (k.1 : Int), .int .u32 (k.2.1 : Int), .int .u32 (k.2.2.1 : Int), .int .u32 (k.2.2.2 : Int)]) true).run Tryz.prog (w.drewN q) = .ok (.tuple #[.int .u32 0, .bool false]) (w.drewN q) := ((h.drewN q).look k hk).2 hn
theorem KMap.lookS {w : World} {b : Nat} {N : List Nd} (h : KMap w b N) (k : K4) (hk : InK k) {i : Nat} (hn : findZ N k = some i) (q : Nat) :
    (Instr.lookup 100 (.map (some b)) (.agg #[.int .u32 (k.1 : Int), .int .u32 (k.2.1 : Int), .int .u32 (k.2.2.1 : Int), .int .u32 (k.2.2.2 : Int)]) true).run Tryz.prog (w.drewN q) = .ok (.tuple #[.int .u32 (i : Int), .bool true]) (w.drewN q) := ((h.drewN q).look k hk).1 i hn
/-- 's.table[k] = x' of a new square. -/
theorem find_app {N : List Nd} {k : K4} {i : Nat} (n : Nd) (h : findZ N k = some i) : findZ (N ++ [n]) k = some i := by
  obtain ⟨h2, m, hm, hk⟩ := find_some h
  have hl : 2 ≤ N.length := by have := (List.getElem?_eq_some_iff.1 hm).1; omega
  unfold findZ at h ⊢
  rw [List.drop_append_of_le_length hl]
  generalize N.drop 2 = l at h
  generalize 2 = s at h
  revert s
  induction l with
  | nil => intro s h; simp [idx] at h
  | cons x r ih =>
    intro s h
    simp only [List.cons_append, idx] at h ⊢
    split
    · rename_i hx; rw [if_pos hx] at h; exact h
    · rename_i hx; rw [if_neg hx] at h; exact ih _ h
theorem find_new {N : List Nd} {k : K4} (hl : 2 ≤ N.length) (n : Nd) (h : findZ N k = none) : findZ (N ++ [n]) k = if n.k = k then some N.length else none := by
  unfold findZ at h ⊢
  rw [List.drop_append_of_le_length hl]
  have e : N.length = 2 + (N.drop 2).length := by simp; omega
  rw [e]
  generalize N.drop 2 = l at h
  generalize 2 = s at h ⊢
  revert s
  induction l with
  | nil => intro s h; simp [idx]
  | cons x r ih =>
    intro s h
    simp only [idx, List.cons_append] at h ⊢
    split at h
    · cases h
    · rename_i hx
      rw [if_neg hx, ih _ h]
      simp only [List.length_cons]
      congr 2; omega
theorem KMap.put {w : World} {b : Nat} {N : List Nd} (h : KMap w b N) (hl : 2 ≤ N.length) (n : Nd) (hk : InK n.k) (hf : findZ N n.k = none) (hm : N.length ≤ 1048576) :
    ∃ w', (Instr.mapUpdate 100 (.map (some b)) (kv n.k) (.int .u32 (N.length : Int))).run Tryz.prog w = .ok () w' ∧ KMap w' b (N ++ [n]) ∧ w.grownBy w' (some b) := by
  obtain ⟨D, ho, hs, h1, h2⟩ := h
  obtain ⟨w', r1, r2, r3⟩ := ho.update Tryz.keyedK Tryz.underlying100 (by unfold maxLen; omega) (keyK n.k hk) (id_wf (i := N.length) (by omega))
  have hkl : WideAt.IsKeyLit (klk n.k) := Tryz.keyedK.key (keyK n.k hk)
  refine ⟨w', r1, ⟨_, by simpa using r2, ?_, fun k i hki hi => ?_, fun k hki hi => ?_⟩, r3⟩
  · rw [Maps.size_put (ho.tidy Tryz.keyedK), h2 _ hk hf]; simp; omega
  · by_cases e : k = n.k
    · subst e
      rw [find_new hl n hf, if_pos rfl] at hi
      cases hi
      exact ⟨Maps.has_put_same ho.isMap hkl _, Maps.atKey_put_same ho.isMap hkl _ _⟩
    · have hne : klk k ≠ klk n.k := fun hh => e (klk_inj hki hk hh)
      rw [Maps.has_put_other hne, Maps.atKey_put_other hne]
      cases hf2 : findZ N k with
      | some j =>
        rw [find_app n hf2] at hi
        cases hi
        exact h1 k _ hki hf2
      | none =>
        rw [find_new hl n hf2, if_neg (fun hh => e hh.symm)] at hi
        cases hi
  · by_cases e : k = n.k
    · subst e
      rw [find_new hl n hf, if_pos rfl] at hi
      cases hi
    · have hne : klk k ≠ klk n.k := fun hh => e (klk_inj hki hk hh)
      rw [Maps.has_put_other hne]
      refine h2 k hki ?_
      cases hf2 : findZ N k with
      | some j => rw [find_app n hf2] at hi; cases hi
      | none => rfl
end Go.Proofs.YtnfjmmkokhncoaaGreat
end

section
namespace Go.Proofs.YtnfjmmkokhncoaaGreat
open Go.RowKit Go.Maps

/-- A square's six cells. -/
def ndV (n : Nd) : List Value := [.int .u32 (n.k.1 : Int), .int .u32 (n.k.2.1 : Int), .int .u32 (n.k.2.2.1 : Int), .int .u32 (n.k.2.2.2 : Int), .int .i64 (n.lv : Int), .int .u64 (n.ct : Int)]
def ndVs (N : List Nd) : List Value := N.flatMap ndV
theorem ndVs_len (N : List Nd) : (ndVs N).length = N.length * 6 := by
  induction N with
  | nil => rfl
  | cons c r ih => simp only [ndVs, List.flatMap_cons, List.length_append, List.length_cons] at ih ⊢; rw [ih]; simp [ndV]; omega
theorem ndVs_at : ∀ (N : List Nd) (i j : Nat), j < 6 → (ndVs N)[i * 6 + j]? = N[i]?.bind (fun n => (ndV n)[j]?)
  | [], i, j, _ => by simp [ndVs]
  | c :: r, 0, j, hj => by simp only [ndVs, List.flatMap_cons, Nat.zero_mul, Nat.zero_add, List.getElem?_cons_zero, Option.bind_some]; rw [List.getElem?_append_left (by simp [ndV]; omega)]
  | c :: r, i + 1, j, hj => by
    have := ndVs_at r i j hj
    simp only [ndVs, List.flatMap_cons, List.getElem?_cons_succ] at this ⊢
    rw [List.getElem?_append_right (by simp [ndV]; omega), show (i + 1) * 6 + j - (ndV c).length = i * 6 + j by simp [ndV]; omega]
    exact this
/-- A store: its block, its squares' block, its table's block, the slice's room, how many there may be, its squares. -/
structure St (w : World) (sb g tb cap most : Nat) (N : List Nd) : Prop where
  blk : w.heap[sb]? = some (.cells #[.int .i64 (most : Int), .slice (some ⟨g, 0, none⟩) N.length cap, .map (some tb)] 102 (0, 0))
  row : w.ownsRow 0 98 6 (.slice (some ⟨g, 0, none⟩) N.length cap) N.length (ndVs N)
  tab : KMap w tb N
  wf : Wf N
  room : N.length ≤ most
  most_le : most ≤ 1048576
  ne : sb ≠ g
theorem St.lt {w : World} {sb g tb cap most : Nat} {N : List Nd} (h : St w sb g tb cap most N) : sb < w.heap.size ∧ g < w.heap.size ∧ tb < w.heap.size := by
  refine ⟨(Array.getElem?_eq_some_iff.1 h.blk).1, ?_, h.tab.lt⟩
  rcases h.row.2 with ⟨hv, _⟩ | ⟨g', cp, cur, hv, _, hg, _⟩
  · cases hv
  · cases hv; exact (Array.getElem?_eq_some_iff.1 hg).1
theorem St.ne_tab {w : World} {sb g tb cap most : Nat} {N : List Nd} (h : St w sb g tb cap most N) : sb ≠ tb ∧ g ≠ tb := by
  obtain ⟨D, ⟨es, cl, h1, _⟩, _⟩ := h.tab
  refine ⟨fun e => ?_, fun e => ?_⟩
  · subst e; rw [h.blk] at h1; cases h1
  · subst e
    rcases h.row.2 with ⟨hv, _⟩ | ⟨g', cp, cur, hv, _, hg, _⟩
    · cases hv
    · cases hv; rw [hg] at h1; cases h1
theorem St.later {w w' : World} {sb g tb cap most : Nat} {N : List Nd} (h : St w sb g tb cap most N) (hb : Below w.heap.size w w') : St w' sb g tb cap most N := by
  obtain ⟨l1, l2, l3⟩ := h.lt
  refine ⟨by rw [hb.block sb l1]; exact h.blk, ⟨h.row.1, ?_⟩, h.tab.blk (hb.block tb l3), h.wf, h.room, h.most_le, h.ne⟩
  rcases h.row.2 with ⟨hv, _⟩ | ⟨g', cp, cur, hv, h0, hg, hr⟩
  · cases hv
  · cases hv; exact Or.inr ⟨g, cap, cur, rfl, h0, by rw [hb.block g l2]; exact hg, hr⟩
theorem St.drewN {w : World} {sb g tb cap most : Nat} {N : List Nd} (h : St w sb g tb cap most N) (q : Nat) : St (w.drewN q) sb g tb cap most N := ⟨h.blk, h.row, h.tab.blk rfl, h.wf, h.room, h.most_le, h.ne⟩
theorem St.cells {w : World} {sb g tb cap most : Nat} {N : List Nd} (h : St w sb g tb cap most N) : w.cell? ⟨sb, 0, none⟩ = some (.int .i64 (most : Int)) ∧ w.cell? ⟨sb, 1, none⟩ = some (.slice (some ⟨g, 0, none⟩) N.length cap) ∧ w.cell? ⟨sb, 2, none⟩ = some (.map (some tb)) ∧ w.frozen? ⟨sb, 1, none⟩ = false :=
  ⟨by rw [Lib.cell_of_heap h.blk]; rfl, by rw [Lib.cell_of_heap h.blk]; rfl, by rw [Lib.cell_of_heap h.blk]; rfl, Lib.frozen_of_heap h.blk 1⟩
theorem St.cell {w : World} {sb g tb cap most : Nat} {N : List Nd} (h : St w sb g tb cap most N) {x : Nat} {n : Nd} (hx : N[x]? = some n) (j : Nat) (hj : j < 6) : w.cell? ⟨g, x * 6 + j, none⟩ = (ndV n)[j]? := by
  have hl : x < N.length := (List.getElem?_eq_some_iff.1 hx).1
  rw [h.row.cellAt (x * 6 + j) (by omega), ndVs_at N x j hj, hx]; rfl
theorem St.sq {w : World} {sb g tb cap most : Nat} {N : List Nd} (h : St w sb g tb cap most N) {x : Nat} {n : Nd} (hx : N[x]? = some n) :
    w.cell? ⟨g, x * 6, none⟩ = some (.int .u32 (n.k.1 : Int)) ∧ w.cell? ⟨g, x * 6 + 1, none⟩ = some (.int .u32 (n.k.2.1 : Int)) ∧ w.cell? ⟨g, x * 6 + 2, none⟩ = some (.int .u32 (n.k.2.2.1 : Int)) ∧ w.cell? ⟨g, x * 6 + 3, none⟩ = some (.int .u32 (n.k.2.2.2 : Int)) ∧
    w.cell? ⟨g, x * 6 + 4, none⟩ = some (.int .i64 (n.lv : Int)) ∧ w.cell? ⟨g, x * 6 + 5, none⟩ = some (.int .u64 (n.ct : Int)) :=
  ⟨h.cell hx 0 (by omega), h.cell hx 1 (by omega), h.cell hx 2 (by omega), h.cell hx 3 (by omega), h.cell hx 4 (by omega), h.cell hx 5 (by omega)⟩

set_option maxRecDepth 100000
theorem len_any {w : World} {sb g tb cap most : Nat} {N : List Nd} (h : St w sb g tb cap most N) :
    Calls Tryz.prog 76 #[.pointer (some ⟨sb, 0, none⟩)] w fun e w' => e = .returned (.int .i64 (N.length : Int)) ∧ w = w' := by
  obtain ⟨c0, c1, c2, _⟩ := h.cells
  go_enter Tryz.func76, Tryz.ntmps76
  go_wp2
  go_ret
  exact ⟨rfl, rfl⟩
theorem len_nil (w : World) : Calls Tryz.prog 76 #[.pointer none] w fun e w' => e = .returned (.int .i64 0) ∧ w = w' := by
  go_enter Tryz.func76, Tryz.ntmps76
  go_wp2
  go_ret
  exact ⟨rfl, rfl⟩
theorem is_any {w : World} {sb g tb cap most : Nat} {N : List Nd} (h : St w sb g tb cap most N) (x : Nat) (hx : x < 4294967296) :
    Calls Tryz.prog 43 #[.pointer (some ⟨sb, 0, none⟩), .int .u32 (x : Int)] w fun e w' => e = .returned (.bool (decide (x < N.length))) ∧ w = w' := by
  have HS := Lib.hid h
  have hw1 : IntKind.u64.wrap (x : Int) = (x : Int) := IntWalk.u64_in _ (by omega)
  have hw2 : IntKind.u64.wrap (N.length : Int) = (N.length : Int) := IntWalk.u64_in _ (by have := h.room; have := h.most_le; omega)
  clear h
  go_enter Tryz.func43, Tryz.ntmps43
  go_wp2_with fail
  refine (len_any HS.out).mono ?_
  rintro e w' ⟨rfl, rfl⟩
  go_wp2
  go_ret
  exact ⟨rfl, rfl⟩
theorem is_nil (x : Nat) (w : World) (hx : x < 4294967296) : Calls Tryz.prog 43 #[.pointer none, .int .u32 (x : Int)] w fun e w' => e = .returned (.bool false) ∧ w = w' := by
  have hw1 : IntKind.u64.wrap (x : Int) = (x : Int) := IntWalk.u64_in _ (by omega)
  have hw2 : decide ((x : Int) < 0) = false := by simp
  go_enter Tryz.func43, Tryz.ntmps43
  go_wp2_with fail
  refine (len_nil _).mono ?_
  rintro e w' ⟨rfl, rfl⟩
  go_wp2
  go_ret
  exact ⟨rfl, rfl⟩
theorem room_any {w : World} {sb g tb cap most : Nat} {N : List Nd} (h : St w sb g tb cap most N) :
    Calls Tryz.prog 95 #[.pointer (some ⟨sb, 0, none⟩)] w fun e w' => e = .returned (.int .i64 ((most : Int) - (N.length : Int))) ∧ ∃ q, w' = w.drewN q := by
  obtain ⟨c0, c1, c2, _⟩ := h.cells
  have hw1 : IntKind.i64.wrap ((most : Int) - (N.length : Int)) = (most : Int) - (N.length : Int) := IntWalk.i64_in _ (by have := h.room; have := h.most_le; omega)
  go_enter Tryz.func95, Tryz.ntmps95
  go_wp2_with fail
  go_quiet (fail)
  go_wp2_with fail
  go_ret
  exact ⟨rfl, _, rfl⟩
theorem room_nil (w : World) : Calls Tryz.prog 95 #[.pointer none] w fun e w' => e = .returned (.int .i64 0) ∧ w = w' := by
  go_enter Tryz.func95, Tryz.ntmps95
  go_wp2
  go_ret
  exact ⟨rfl, rfl⟩
theorem level_any {w : World} {sb g tb cap most : Nat} {N : List Nd} (h : St w sb g tb cap most N) (x : Nat) (hx : x < 4294967296) :
    Calls Tryz.prog 24 #[.pointer (some ⟨sb, 0, none⟩), .int .u32 (x : Int)] w fun e w' => e = .returned (.int .i64 (lvZ N x)) ∧ w = w' := by
  have HS := Lib.hid h
  obtain ⟨c0, c1, c2, _⟩ := h.cells
  by_cases hl : x < N.length
  · have hg : decide (x < N.length) = true := by simpa using hl
    have hi : (x : Int) < (N.length : Int) := by omega
    have hi0 : (0 : Int) ≤ (x : Int) := by omega
    obtain ⟨_, _, _, _, s4, _⟩ := h.sq (List.getElem?_eq_getElem hl)
    rw [lv_of hl]
    generalize N[x] = n at *
    clear h
    go_enter Tryz.func24, Tryz.ntmps24
    go_wp2_with fail
    refine (is_any HS.out x hx).mono ?_
    rintro e w' ⟨rfl, rfl⟩
    go_wp2
    go_ret
    exact ⟨rfl, rfl⟩
  · have hg : decide (x < N.length) = false := by simpa using hl
    rw [lv_none (by omega)]
    clear h
    go_enter Tryz.func24, Tryz.ntmps24
    go_wp2_with fail
    refine (is_any HS.out x hx).mono ?_
    rintro e w' ⟨rfl, rfl⟩
    go_wp2
    go_ret
    exact ⟨rfl, rfl⟩
theorem level_nil (x : Nat) (hx : x < 4294967296) (w : World) : Calls Tryz.prog 24 #[.pointer none, .int .u32 (x : Int)] w fun e w' => e = .returned (.int .i64 (-1)) ∧ w = w' := by
  go_enter Tryz.func24, Tryz.ntmps24
  go_wp2_with fail
  refine (is_nil x _ hx).mono ?_
  rintro e w' ⟨rfl, rfl⟩
  go_wp2
  go_ret
  exact ⟨rfl, rfl⟩
theorem count_any {w : World} {sb g tb cap most : Nat} {N : List Nd} (h : St w sb g tb cap most N) (x : Nat) (hx : x < 4294967296) :
    Calls Tryz.prog 16 #[.pointer (some ⟨sb, 0, none⟩), .int .u32 (x : Int)] w fun e w' => e = .returned (.int .u64 (ctZ N x : Int)) ∧ w = w' := by
  have HS := Lib.hid h
  obtain ⟨c0, c1, c2, _⟩ := h.cells
  by_cases hl : x < N.length
  · have hg : decide (x < N.length) = true := by simpa using hl
    have hi : (x : Int) < (N.length : Int) := by omega
    have hi0 : (0 : Int) ≤ (x : Int) := by omega
    obtain ⟨_, _, _, _, _, s5⟩ := h.sq (List.getElem?_eq_getElem hl)
    rw [ct_of hl]
    generalize N[x] = n at *
    clear h
    go_enter Tryz.func16, Tryz.ntmps16
    go_wp2_with fail
    refine (is_any HS.out x hx).mono ?_
    rintro e w' ⟨rfl, rfl⟩
    go_wp2
    go_ret
    exact ⟨rfl, rfl⟩
  · have hg : decide (x < N.length) = false := by simpa using hl
    have hc : ctZ N x = 0 := by unfold ctZ; rw [List.getElem?_eq_none (by omega)]
    rw [hc]
    clear h
    go_enter Tryz.func16, Tryz.ntmps16
    go_wp2_with fail
    refine (is_any HS.out x hx).mono ?_
    rintro e w' ⟨rfl, rfl⟩
    go_wp2
    go_ret
    exact ⟨rfl, rfl⟩
theorem count_nil (x : Nat) (hx : x < 4294967296) (w : World) : Calls Tryz.prog 16 #[.pointer none, .int .u32 (x : Int)] w fun e w' => e = .returned (.int .u64 0) ∧ w = w' := by
  go_enter Tryz.func16, Tryz.ntmps16
  go_wp2_with fail
  refine (is_nil x _ hx).mono ?_
  rintro e w' ⟨rfl, rfl⟩
  go_wp2
  go_ret
  exact ⟨rfl, rfl⟩
/-- Four numbers in a block of the call's own. -/
def KAt (w : World) (b : Nat) (k : K4) : Prop := w.heap[b]? = some (.cells #[.int .u32 (k.1 : Int), .int .u32 (k.2.1 : Int), .int .u32 (k.2.2.1 : Int), .int .u32 (k.2.2.2 : Int)] 96 (0, 0))
theorem KAt.lt {w : World} {b : Nat} {k : K4} (h : KAt w b k) : b < w.heap.size := (Array.getElem?_eq_some_iff.1 h).1
theorem KAt.cells {w : World} {b : Nat} {k : K4} (h : KAt w b k) : w.cell? ⟨b, 0, none⟩ = some (.int .u32 (k.1 : Int)) ∧ w.cell? ⟨b, 1, none⟩ = some (.int .u32 (k.2.1 : Int)) ∧ w.cell? ⟨b, 2, none⟩ = some (.int .u32 (k.2.2.1 : Int)) ∧ w.cell? ⟨b, 3, none⟩ = some (.int .u32 (k.2.2.2 : Int)) ∧
    w.frozen? ⟨b, 0, none⟩ = false ∧ w.frozen? ⟨b, 1, none⟩ = false ∧ w.frozen? ⟨b, 2, none⟩ = false ∧ w.frozen? ⟨b, 3, none⟩ = false :=
  ⟨by rw [Lib.cell_of_heap h]; rfl, by rw [Lib.cell_of_heap h]; rfl, by rw [Lib.cell_of_heap h]; rfl, by rw [Lib.cell_of_heap h]; rfl, Lib.frozen_of_heap h 0, Lib.frozen_of_heap h 1, Lib.frozen_of_heap h 2, Lib.frozen_of_heap h 3⟩
theorem KAt.later {w w' : World} {b : Nat} {k : K4} (h : KAt w b k) (hb : Below w.heap.size w w') : KAt w' b k := by
  unfold KAt; rw [hb.block b h.lt]; exact h
theorem k_new (w : World) (k : K4) : KAt (w.alloc (.cells #[.int .u32 (k.1 : Int), .int .u32 (k.2.1 : Int), .int .u32 (k.2.2.1 : Int), .int .u32 (k.2.2.2 : Int)] 96)) w.heap.size k := heap_alloc_new w _
theorem KAt.put {w : World} {b : Nat} {k : K4} (h : KAt w b k) (d : K4) : KAt ((((w.setCell ⟨b, 0, none⟩ (.int .u32 (d.1 : Int))).setCell ⟨b, 1, none⟩ (.int .u32 (d.2.1 : Int))).setCell ⟨b, 2, none⟩ (.int .u32 (d.2.2.1 : Int))).setCell ⟨b, 3, none⟩ (.int .u32 (d.2.2.2 : Int))) b d := by
  unfold KAt at h ⊢
  simp only [World.setCell, Array.getElem?_modify, h]
  simp
/-- A result that is four numbers, written into a block behind a world. -/
theorem k_res {w W : World} {b : Nat} {k : K4} (hb : Below b w W) (h : KAt W b k) (d : K4) :
    ∃ W', ((((W.setCell ⟨b, 0, none⟩ (.int .u32 (d.1 : Int))).setCell ⟨b, 1, none⟩ (.int .u32 (d.2.1 : Int))).setCell ⟨b, 2, none⟩ (.int .u32 (d.2.2.1 : Int))).setCell ⟨b, 3, none⟩ (.int .u32 (d.2.2.2 : Int))) = W' ∧ Below b w W' ∧ KAt W' b d :=
  ⟨_, rfl, (((hb.setCell (p := ⟨b, 0, none⟩) (by simp) _).setCell (p := ⟨b, 1, none⟩) (by simp) _).setCell (p := ⟨b, 2, none⟩) (by simp) _).setCell (p := ⟨b, 3, none⟩) (by simp) _, h.put d⟩
theorem bel1 (w : World) (o : Obj) : Below w.heap.size w (w.alloc o) := (Below.refl _ w).alloc (Nat.le_refl _) o
theorem of_nil (x : Nat) (hx : x < 4294967296) (w : World) : Calls Tryz.prog 55 #[.pointer none, .int .u32 (x : Int)] w fun e w' => e = .returned (.tuple #[kv (0, 0, 0, 0), .bool false]) ∧ Below w.heap.size w w' := by
  go_enter Tryz.func55, Tryz.ntmps55
  go_wp2_with fail
  refine (level_nil x hx _).mono ?_
  rintro e w' ⟨rfl, rfl⟩
  go_wp2
  refine bodyPost_ret (v := _) (by simp [results, Tryz.results55, go_sem]; rfl) rfl ?_
  exact ⟨rfl, bel1 _ _⟩
end Go.Proofs.YtnfjmmkokhncoaaGreat
end

section
namespace Go.Proofs.YtnfjmmkokhncoaaGreat
open Go.RowKit

/-- Is a coordinate on the plane? -/
def onP (n : Int) : Bool := decide (-2305843009213693952 < n) && decide (n < 2305843009213693952)

theorem onPlane_any (n : Int) (w : World) :
    Calls Tryz.prog 44 #[.int .i64 n] w fun e w' => e = .returned (.bool (onP n)) ∧ w = w' := by
  by_cases h1 : -2305843009213693952 < n
  · have e : onP n = decide (n < 2305843009213693952) := by unfold onP; rw [decide_eq_true h1, Bool.true_and]
    rw [e]
    go_enter Tryz.func44, Tryz.ntmps44
    go_wp2
    go_ret
    exact ⟨rfl, rfl⟩
  · have e : onP n = false := by unfold onP; rw [decide_eq_false h1, Bool.false_and]
    rw [e]
    go_enter Tryz.func44, Tryz.ntmps44
    go_wp2
    go_ret
    exact ⟨rfl, rfl⟩
theorem pright_any (x y : Int) (w : World) :
    Calls Tryz.prog 17 #[.agg #[.int .i64 x, .int .i64 y]] w fun e w' => e = .returned (.bool (onP x && onP y)) ∧ Below w.heap.size w w' := by
  go_enter Tryz.func17, Tryz.ntmps17
  go_wp2_with fail
  refine (onPlane_any x _).mono ?_
  rintro e w' ⟨rfl, rfl⟩
  cases hx : onP x with
  | true =>
    go_wp2_with fail
    refine (onPlane_any y _).mono ?_
    rintro e w' ⟨rfl, rfl⟩
    go_wp2
    go_ret
    exact ⟨by rw [hx]; rfl, by go_grown⟩
  | false =>
    go_wp2
    go_ret
    exact ⟨by rw [hx]; rfl, by go_grown⟩

theorem blk_lt {w : World} {p : Addr} {v : Value} (h : w.cell? p = some v) : p.block < w.heap.size := by
  apply Classical.byContradiction
  intro hn
  simp [World.cell?, Array.getElem?_eq_none (Nat.le_of_not_lt hn)] at h
/-- Numbers in a block of the call's own. -/
def Nums (w : World) (b : Nat) (zs : List Int) : Prop := b < w.heap.size ∧ ∀ j z, zs[j]? = some z → w.cell? ⟨b, j, none⟩ = some (.int .i64 z) ∧ w.frozen? ⟨b, j, none⟩ = false
theorem Nums.later {w w' : World} {b : Nat} {zs : List Int} (h : Nums w b zs) (hb : Below w.heap.size w w') : Nums w' b zs :=
  ⟨Nat.lt_of_lt_of_le h.1 hb.size, fun j z hz => ⟨by rw [hb.cell (p := ⟨b, j, none⟩) h.1]; exact (h.2 j z hz).1, by rw [hb.frozen (p := ⟨b, j, none⟩) h.1]; exact (h.2 j z hz).2⟩⟩
theorem Nums.two {w : World} {b : Nat} {x y : Int} (h : Nums w b [x, y]) : w.cell? ⟨b, 0, none⟩ = some (.int .i64 x) ∧ w.cell? ⟨b, 1, none⟩ = some (.int .i64 y) ∧ w.frozen? ⟨b, 0, none⟩ = false ∧ w.frozen? ⟨b, 1, none⟩ = false :=
  ⟨(h.2 0 x rfl).1, (h.2 1 y rfl).1, (h.2 0 x rfl).2, (h.2 1 y rfl).2⟩
theorem Nums.four {w : World} {b : Nat} {x y X Y : Int} (h : Nums w b [x, y, X, Y]) : w.cell? ⟨b, 0, none⟩ = some (.int .i64 x) ∧ w.cell? ⟨b, 1, none⟩ = some (.int .i64 y) ∧ w.cell? ⟨b, 2, none⟩ = some (.int .i64 X) ∧ w.cell? ⟨b, 3, none⟩ = some (.int .i64 Y) ∧ w.frozen? ⟨b, 0, none⟩ = false ∧ w.frozen? ⟨b, 1, none⟩ = false ∧ w.frozen? ⟨b, 2, none⟩ = false ∧ w.frozen? ⟨b, 3, none⟩ = false :=
  ⟨(h.2 0 x rfl).1, (h.2 1 y rfl).1, (h.2 2 X rfl).1, (h.2 3 Y rfl).1, (h.2 0 x rfl).2, (h.2 1 y rfl).2, (h.2 2 X rfl).2, (h.2 3 Y rfl).2⟩
theorem pt_new (w : World) (x y : Int) (t : TypeId) : Nums (w.alloc (.cells #[.int .i64 x, .int .i64 y] t)) w.heap.size [x, y] := by
  refine ⟨by simp, fun j z hz => ?_⟩
  match j, hz with
  | 0, hz => obtain rfl : x = z := by simpa using hz
             exact ⟨by simp, by simp⟩
  | 1, hz => obtain rfl : y = z := by simpa using hz
             exact ⟨by simp, by simp⟩
  | j + 2, hz => simp at hz
theorem rc_new (w : World) (x y X Y : Int) (t : TypeId) : Nums (w.alloc (.cells #[.int .i64 x, .int .i64 y, .int .i64 X, .int .i64 Y] t)) w.heap.size [x, y, X, Y] := by
  refine ⟨by simp, fun j z hz => ?_⟩
  match j, hz with
  | 0, hz => obtain rfl : x = z := by simpa using hz
             exact ⟨by simp, by simp⟩
  | 1, hz => obtain rfl : y = z := by simpa using hz
             exact ⟨by simp, by simp⟩
  | 2, hz => obtain rfl : X = z := by simpa using hz
             exact ⟨by simp, by simp⟩
  | 3, hz => obtain rfl : Y = z := by simpa using hz
             exact ⟨by simp, by simp⟩
  | j + 4, hz => simp at hz
theorem put_two {w : World} {b B : Nat} {x y : Int} {w0 : World} (h : Nums w b [x, y]) (hb : Below B w0 w) (hB : B ≤ b) (x' y' : Int) : ∃ W, (w.setCell ⟨b, 0, none⟩ (.int .i64 x')).setCell ⟨b, 1, none⟩ (.int .i64 y') = W ∧ Below B w0 W ∧ Nums W b [x', y'] := by
  obtain ⟨c0, c1, f0, f1⟩ := h.two
  refine ⟨_, rfl, (hb.setCell (p := ⟨b, 0, none⟩) hB _).setCell (p := ⟨b, 1, none⟩) hB _, by simpa using h.1, fun j z hz => ?_⟩
  match j, hz with
  | 0, hz => obtain rfl : x' = z := by simpa using hz
             refine ⟨?_, by simpa using f0⟩
             rw [World.cell?_setCell_other _ _ _ _ (by simp)]
             exact World.cell?_setCell_same _ _ _ c0
  | 1, hz => obtain rfl : y' = z := by simpa using hz
             refine ⟨?_, by simpa using f1⟩
             exact World.cell?_setCell_same _ _ _ (by rw [World.cell?_setCell_other _ _ _ _ (by simp)]; exact c1)
  | j + 2, hz => simp at hz
theorem put_four {w : World} {b B : Nat} {x y X Y : Int} {w0 : World} (h : Nums w b [x, y, X, Y]) (hb : Below B w0 w) (hB : B ≤ b) (x' y' X' Y' : Int) : ∃ W, (((w.setCell ⟨b, 0, none⟩ (.int .i64 x')).setCell ⟨b, 1, none⟩ (.int .i64 y')).setCell ⟨b, 2, none⟩ (.int .i64 X')).setCell ⟨b, 3, none⟩ (.int .i64 Y') = W ∧ Below B w0 W ∧ Nums W b [x', y', X', Y'] := by
  obtain ⟨c0, c1, c2, c3, f0, f1, f2, f3⟩ := h.four
  refine ⟨_, rfl, (((hb.setCell (p := ⟨b, 0, none⟩) hB _).setCell (p := ⟨b, 1, none⟩) hB _).setCell (p := ⟨b, 2, none⟩) hB _).setCell (p := ⟨b, 3, none⟩) hB _, by simpa using h.1, fun j z hz => ?_⟩
  match j, hz with
  | 0, hz => obtain rfl : x' = z := by simpa using hz
             refine ⟨?_, by simpa using f0⟩
             rw [World.cell?_setCell_other _ _ _ _ (by simp), World.cell?_setCell_other _ _ _ _ (by simp), World.cell?_setCell_other _ _ _ _ (by simp)]
             exact World.cell?_setCell_same _ _ _ c0
  | 1, hz => obtain rfl : y' = z := by simpa using hz
             refine ⟨?_, by simpa using f1⟩
             rw [World.cell?_setCell_other _ _ _ _ (by simp), World.cell?_setCell_other _ _ _ _ (by simp)]
             exact World.cell?_setCell_same _ _ _ (by rw [World.cell?_setCell_other _ _ _ _ (by simp)]; exact c1)
  | 2, hz => obtain rfl : X' = z := by simpa using hz
             refine ⟨?_, by simpa using f2⟩
             rw [World.cell?_setCell_other _ _ _ _ (by simp)]
             exact World.cell?_setCell_same _ _ _ (by rw [World.cell?_setCell_other _ _ _ _ (by simp), World.cell?_setCell_other _ _ _ _ (by simp)]; exact c2)
  | 3, hz => obtain rfl : Y' = z := by simpa using hz
             refine ⟨?_, by simpa using f3⟩
             exact World.cell?_setCell_same _ _ _ (by rw [World.cell?_setCell_other _ _ _ _ (by simp), World.cell?_setCell_other _ _ _ _ (by simp), World.cell?_setCell_other _ _ _ _ (by simp)]; exact c3)
  | j + 4, hz => simp at hz

theorem row_four (w : World) (x y X Y : Int) (t : TypeId) : ∀ j z, [x, y, X, Y][j]? = some z → (w.alloc (.cells #[.int .i64 x, .int .i64 y, .int .i64 X, .int .i64 Y] t)).cell? ⟨w.heap.size, j, none⟩ = some (.int .i64 z) := fun j z hz => ((rc_new w x y X Y t).2 j z hz).1
theorem has_any (x y X Y a b : Int) (w : World) :
    Calls Tryz.prog 10 #[.agg #[.int .i64 x, .int .i64 y, .int .i64 X, .int .i64 Y], .agg #[.int .i64 a, .int .i64 b]] w fun e w' => e = .returned (.bool (decide (x ≤ a) && decide (a < X) && decide (y ≤ b) && decide (b < Y))) ∧ Below w.heap.size w w' := by
  by_cases h1 : x ≤ a
  · by_cases h2 : a < X
    · by_cases h3 : y ≤ b
      · rw [decide_eq_true h1, decide_eq_true h2, decide_eq_true h3, Bool.true_and, Bool.true_and]
        go_enter Tryz.func10, Tryz.ntmps10
        go_wp2
        go_ret
        exact ⟨rfl, by go_grown⟩
      · rw [decide_eq_true h1, decide_eq_true h2, decide_eq_false h3, Bool.true_and, Bool.true_and]
        go_enter Tryz.func10, Tryz.ntmps10
        go_wp2
        go_ret
        exact ⟨rfl, by go_grown⟩
    · rw [decide_eq_true h1, decide_eq_false h2, Bool.true_and, Bool.false_and]
      go_enter Tryz.func10, Tryz.ntmps10
      go_wp2
      go_ret
      exact ⟨rfl, by go_grown⟩
  · rw [decide_eq_false h1, Bool.false_and, Bool.false_and]
    go_enter Tryz.func10, Tryz.ntmps10
    go_wp2
    go_ret
    exact ⟨rfl, by go_grown⟩
end Go.Proofs.YtnfjmmkokhncoaaGreat
end
