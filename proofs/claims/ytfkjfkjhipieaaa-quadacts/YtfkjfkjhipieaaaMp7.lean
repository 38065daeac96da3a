/- A map[Point]bool of the call's own, of the document's points: a set of points. -/
import Derived.Test.YtfkjfkjhipieaaaUp
import Derived.Maps.OwnSet
import Derived.DeepKeys4
namespace Go.Proofs.Ytfkjfkjhipieaaa
open Go.RowKit Go.Maps
set_option maxRecDepth 100000

/-- A point of two int64. -/
def fits7 (c : Int × Int) : Prop := -9223372036854775808 ≤ c.1 ∧ c.1 ≤ 9223372036854775807 ∧ -9223372036854775808 ≤ c.2 ∧ c.2 ≤ 9223372036854775807
theorem Try.keyDeep7 : Try.prog.keyTypeAt (Try.prog.types.size + 1) 48 = true := by kernel_rfl
theorem Try.laidOutK7 : laidOutB Try.prog = true := by kernel_rfl
theorem Try.keyRow7 : (48 : TypeId) < Try.prog.types.size := of_decide_eq_true (by kernel_rfl)
theorem Try.keyWide7 : (match Try.prog.underlying 48 with | some (.array _ _) | some (.struct _) => true | _ => false) = true := by rw [Try.underlying48]
theorem Try.keyed7 : Keyed Try.prog 48 := Keyed.of_law (deep_law_laid Try.laidOutK7 (m := 2) (by omega) Try.keyRow7 (by kernel_rfl) Try.keyWide7)
theorem Try.zeroBool7 (w : World) : (zeroValue 4).run Try.prog w = .ok (.bool false) w := by kernel_rfl
/-- A point, as a value. -/
def pv7 (z : Int × Int) : Value := .agg #[.int .i64 z.1, .int .i64 z.2]
/-- What it reads as, as a key. -/
noncomputable def klz7 (z : Int × Int) : Lit := (keyOf Try.prog 48 (pv7 z)).getD (.bool false)
theorem Try.cellsPt7 : Try.prog.cellsOf 48 = 2 := by kernel_rfl
theorem Try.cellsI7 : Try.prog.cellsOf 2 = 1 := by kernel_rfl
theorem lits_int7 (d : Nat) (x : Int) (h : (Lit.int .i64 x).wf = true) : Try.prog.keyLits (d + 1) 2 [.int .i64 x] = some [.int .i64 x] := by
  unfold Program.keyLits
  rw [Try.underlying2]
  simp only [h, and_self, if_true]
theorem lits_pt7 (d : Nat) (x y : Int) (h1 : (Lit.int .i64 x).wf = true) (h2 : (Lit.int .i64 y).wf = true) : Try.prog.keyLits (d + 1 + 1) 48 [.int .i64 x, .int .i64 y] = some [.int .i64 x, .int .i64 y] := by
  have e1 := lits_int7 d x h1
  have e2 := lits_int7 d y h2
  unfold Program.keyLits
  rw [Try.underlying48]
  simp only [Try.cellsPt7]
  rw [if_pos ⟨rfl, by simp⟩]
  simp only [List.mapM_cons, List.mapM_nil, Try.cellsI7, List.drop, List.take, e1, e2]
  rfl
theorem lits_top7 (x y : Int) (h1 : (Lit.int .i64 x).wf = true) (h2 : (Lit.int .i64 y).wf = true) : Try.prog.keyLits (Try.prog.types.size + 1) 48 [.int .i64 x, .int .i64 y] = some [.int .i64 x, .int .i64 y] := by
  obtain ⟨d, hd⟩ : ∃ d, Try.prog.types.size = d + 1 := ⟨Try.prog.types.size - 1, by have : (48 : Nat) < Try.prog.types.size := Try.keyRow7; omega⟩
  rw [hd]
  exact lits_pt7 d x y h1 h2
theorem keyZ7 (z : Int × Int) (h : fits7 z) : keyOf Try.prog 48 (pv7 z) = some (klz7 z) := by
  have hk : Try.prog.keyType 48 = true := Try.keyDeep7
  have hf : (pv7 z).formed Try.prog 48 = true := by simp [pv7, Value.formed, Try.underlying48, Try.cellsPt7]
  have h1 : (Lit.int .i64 z.1).wf = true := by unfold fits7 at h; simp [Lit.wf, IntKind.min, IntKind.max, IntKind.bits, IntKind.signed]; omega
  have h2 : (Lit.int .i64 z.2).wf = true := by unfold fits7 at h; simp [Lit.wf, IntKind.min, IntKind.max, IntKind.bits, IntKind.signed]; omega
  have hl := lits_top7 z.1 z.2 h1 h2
  have : ∃ l, keyOf Try.prog 48 (pv7 z) = some l := by
    unfold keyOf
    rw [Try.underlying48]
    simp only [hk, hf, Bool.and_self, if_true]
    refine ⟨.string (keyBytes [.int .i64 z.1, .int .i64 z.2]), ?_⟩
    show Option.map _ (Try.prog.keyLits (Try.prog.types.size + 1) 48 [.int .i64 z.1, .int .i64 z.2]) = _
    rw [hl]; rfl
  obtain ⟨l, hl⟩ := this
  unfold klz7
  rw [hl]; rfl
theorem klz_inj7 {y z : Int × Int} (hy : fits7 y) (hz : fits7 z) (h : klz7 y = klz7 z) : y = z := by
  have := Try.keyed7.inj (keyZ7 y hy) (by rw [h]; exact keyZ7 z hz)
  simp only [pv7, Value.agg.injEq, Array.mk.injEq, List.cons.injEq, Value.int.injEq, and_true, true_and] at this
  exact Prod.ext this.1 this.2

/-- Block b holds a map whose keys are these points. -/
def PSet (w : World) (b : Nat) (zs : List (Int × Int)) : Prop :=
  ∃ (n : Nat) (D : DataW Unit), w.ownsMap Try.prog 48 (plainElem Try.prog 4) b n D ∧ n ≤ zs.length ∧ (∃ ks : List (Int × Int), ks.Nodup ∧ (∀ x, x ∈ ks ↔ x ∈ zs) ∧ Maps.size D = ks.length) ∧
    (∀ z, fits7 z → D.atKey (klz7 z) (.lit (.bool false)) = .lit (.bool (decide (z ∈ zs)))) ∧ ∀ z, fits7 z → Maps.has D (klz7 z) = decide (z ∈ zs)
theorem PSet.lt {w : World} {b : Nat} {zs : List (Int × Int)} (h : PSet w b zs) : b < w.heap.size := by
  obtain ⟨n, D, h, _⟩ := h
  exact h.lt
theorem PSet.blk {w w' : World} {b : Nat} {zs : List (Int × Int)} (h : PSet w b zs) (hb : w'.heap[b]? = w.heap[b]?) : PSet w' b zs := by
  obtain ⟨n, D, ⟨es, clock, h1, h2⟩, r⟩ := h
  exact ⟨n, D, ⟨es, clock, hb.trans h1, h2⟩, r⟩
theorem PSet.later {w w' : World} {b : Nat} {zs : List (Int × Int)} (h : PSet w b zs) (hb : Below w.heap.size w w') : PSet w' b zs := h.blk (hb.block b h.lt)
theorem pset_new (w : World) : PSet (w.alloc (.map #[] 0)) w.heap.size [] := by
  refine ⟨0, .map [], World.ownsMap_made w _ _ _, Nat.le_refl _, ⟨[], List.nodup_nil, fun x => Iff.rfl, rfl⟩, fun z _ => ?_, fun z _ => ?_⟩
  · simp [DataW.atKey]
  · simp [Maps.has]
theorem PSet.put {w : World} {b : Nat} {zs : List (Int × Int)} (h : PSet w b zs) (z : Int × Int) (hz : fits7 z) (hl : zs.length ≤ 20000) :
    ∃ w', (Instr.mapUpdate 78 (.map (some b)) (pv7 z) (.bool true)).run Try.prog w = .ok () w' ∧ PSet w' b (zs ++ [z]) ∧ w.grownBy w' (some b) := by
  obtain ⟨n, D, ho, hn, ⟨ks, k1, k2, k3⟩, h1, h2⟩ := h
  obtain ⟨w', r1, r2, r3⟩ := ho.update Try.keyed7 Try.underlying78 (by unfold maxLen; omega) (keyZ7 z hz) (plainElem_bool Try.underlying4 true)
  have hkl : WideAt.IsKeyLit (klz7 z) := Try.keyed7.key (keyZ7 z hz)
  refine ⟨w', r1, ⟨n + 1, _, r2, by simp; omega, ?_, fun y hy => ?_, fun y hy => ?_⟩, r3⟩
  · rw [Maps.size_put (ho.tidy Try.keyed7), h2 z hz]
    by_cases hm : z ∈ zs
    · refine ⟨ks, k1, fun x => ?_, by simp [hm, k3]⟩
      rw [k2]
      simp
      rintro rfl; exact hm
    · refine ⟨z :: ks, ?_, fun x => ?_, by simp [hm, k3]⟩
      · rw [List.nodup_cons, k2]; exact ⟨hm, k1⟩
      · simp [k2, or_comm]
  · by_cases e : y = z
    · subst e
      rw [Maps.atKey_put_same ho.isMap hkl]; simp
    · rw [Maps.atKey_put_other (fun hh => e (klz_inj7 hy hz hh)), h1 y hy]; simp [e]
  · by_cases e : y = z
    · subst e
      rw [Maps.has_put_same ho.isMap hkl]; simp
    · rw [Maps.has_put_other (fun hh => e (klz_inj7 hy hz hh)), h2 y hy]; simp [e]
theorem PSet.look {w : World} {b : Nat} {zs : List (Int × Int)} (h : PSet w b zs) (z : Int × Int) (hz : fits7 z) :
    (Instr.lookup 78 (.map (some b)) (pv7 z) false).run Try.prog w = .ok (.bool (decide (z ∈ zs))) w := by
  obtain ⟨n, D, ho, hn, _, h1, h2⟩ := h
  obtain ⟨v, ps, hr, hv⟩ := ho.lookup Try.keyed7 Try.underlying78 (Try.zeroBool7 w) (plainElem_bool Try.underlying4 false) (keyZ7 z hz)
  rw [h1 z hz] at hv
  rw [hr]
  unfold plainElem at hv
  rw [Try.underlying4] at hv
  cases v <;> simp_all
end Go.Proofs.Ytfkjfkjhipieaaa
