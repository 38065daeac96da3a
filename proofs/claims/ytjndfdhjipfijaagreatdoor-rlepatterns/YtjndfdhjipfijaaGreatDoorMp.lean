/- A map[grid.Point]bool of the call's own: a set of points. -/
import Derived.Test.YtjndfdhjipfijaaGreatDoorLv5
import Derived.Maps.OwnSet
import Derived.DeepKeys4
namespace Go.Proofs.YtjndfdhjipfijaaGreatDoor
open Go.RowKit Go.Maps Go.Shelf
set_option maxRecDepth 100000

theorem Tryz.keyDeep : Tryz.prog.keyTypeAt (Tryz.prog.types.size + 1) 26 = true := by kernel_rfl
theorem Tryz.laidOutK : laidOutB Tryz.prog = true := by kernel_rfl
theorem Tryz.keyRow : (26 : TypeId) < Tryz.prog.types.size := of_decide_eq_true (by kernel_rfl)
theorem Tryz.keyWide : (match Tryz.prog.underlying 26 with | some (.array _ _) | some (.struct _) => true | _ => false) = true := by rw [Tryz.underlying26]
theorem Tryz.keyed : Keyed Tryz.prog 26 := Keyed.of_law (deep_law_laid Tryz.laidOutK (m := 2) (by omega) Tryz.keyRow (by kernel_rfl) Tryz.keyWide)
theorem Tryz.zeroBool (w : World) : (zeroValue 4).run Tryz.prog w = .ok (.bool false) w := by kernel_rfl
/-- A point, as a value. -/
def pv (z : Int × Int) : Value := .agg #[.int .i64 z.1, .int .i64 z.2]
/-- What it reads as, as a key. -/
noncomputable def klz (z : Int × Int) : Lit := (keyOf Tryz.prog 26 (pv z)).getD (.bool false)
theorem Tryz.cellsPt : Tryz.prog.cellsOf 26 = 2 := by kernel_rfl
theorem Tryz.cellsI : Tryz.prog.cellsOf 2 = 1 := by kernel_rfl
theorem lits_int (d : Nat) (x : Int) (h : (Lit.int .i64 x).wf = true) : Tryz.prog.keyLits (d + 1) 2 [.int .i64 x] = some [.int .i64 x] := by
  unfold Program.keyLits
  rw [Tryz.underlying2]
  simp only [h, and_self, if_true]
theorem lits_pt (d : Nat) (x y : Int) (h1 : (Lit.int .i64 x).wf = true) (h2 : (Lit.int .i64 y).wf = true) : Tryz.prog.keyLits (d + 1 + 1) 26 [.int .i64 x, .int .i64 y] = some [.int .i64 x, .int .i64 y] := by
  have e1 := lits_int d x h1
  have e2 := lits_int d y h2
  unfold Program.keyLits
  rw [Tryz.underlying26]
  simp only [Tryz.cellsPt]
  rw [if_pos ⟨rfl, by simp⟩]
  simp only [List.mapM_cons, List.mapM_nil, Tryz.cellsI, List.drop, List.take, e1, e2]
  rfl
theorem lits_top (x y : Int) (h1 : (Lit.int .i64 x).wf = true) (h2 : (Lit.int .i64 y).wf = true) : Tryz.prog.keyLits (Tryz.prog.types.size + 1) 26 [.int .i64 x, .int .i64 y] = some [.int .i64 x, .int .i64 y] := by
  obtain ⟨d, hd⟩ : ∃ d, Tryz.prog.types.size = d + 1 := ⟨Tryz.prog.types.size - 1, by have : (26 : Nat) < Tryz.prog.types.size := Tryz.keyRow; omega⟩
  rw [hd]
  exact lits_pt d x y h1 h2
theorem keyZ (z : Int × Int) (h : fits z) : keyOf Tryz.prog 26 (pv z) = some (klz z) := by
  have hk : Tryz.prog.keyType 26 = true := Tryz.keyDeep
  have hf : (pv z).formed Tryz.prog 26 = true := by simp [pv, Value.formed, Tryz.underlying26, Tryz.cellsPt]
  have h1 : (Lit.int .i64 z.1).wf = true := by unfold fits at h; simp [Lit.wf, IntKind.min, IntKind.max, IntKind.bits, IntKind.signed]; omega
  have h2 : (Lit.int .i64 z.2).wf = true := by unfold fits at h; simp [Lit.wf, IntKind.min, IntKind.max, IntKind.bits, IntKind.signed]; omega
  have hl := lits_top z.1 z.2 h1 h2
  have : ∃ l, keyOf Tryz.prog 26 (pv z) = some l := by
    unfold keyOf
    rw [Tryz.underlying26]
    simp only [hk, hf, Bool.and_self, if_true]
    refine ⟨.string (keyBytes [.int .i64 z.1, .int .i64 z.2]), ?_⟩
    show Option.map _ (Tryz.prog.keyLits (Tryz.prog.types.size + 1) 26 [.int .i64 z.1, .int .i64 z.2]) = _
    rw [hl]; rfl
  obtain ⟨l, hl⟩ := this
  unfold klz
  rw [hl]; rfl
theorem klz_inj {y z : Int × Int} (hy : fits y) (hz : fits z) (h : klz y = klz z) : y = z := by
  have := Tryz.keyed.inj (keyZ y hy) (by rw [h]; exact keyZ z hz)
  simp only [pv, Value.agg.injEq, Array.mk.injEq, List.cons.injEq, Value.int.injEq, and_true, true_and] at this
  exact Prod.ext this.1 this.2

/-- Block b holds a map whose keys are these points. -/
def PSet (w : World) (b : Nat) (zs : List (Int × Int)) : Prop :=
  ∃ (n : Nat) (D : DataW Unit), w.ownsMap Tryz.prog 26 (plainElem Tryz.prog 4) b n D ∧ n ≤ zs.length ∧ (∃ ks : List (Int × Int), ks.Nodup ∧ (∀ x, x ∈ ks ↔ x ∈ zs) ∧ Maps.size D = ks.length) ∧
    (∀ z, fits z → D.atKey (klz z) (.lit (.bool false)) = .lit (.bool (decide (z ∈ zs)))) ∧ ∀ z, fits z → Maps.has D (klz z) = decide (z ∈ zs)
theorem PSet.lt {w : World} {b : Nat} {zs : List (Int × Int)} (h : PSet w b zs) : b < w.heap.size := by
  obtain ⟨n, D, h, _⟩ := h
  exact h.lt
theorem PSet.blk {w w' : World} {b : Nat} {zs : List (Int × Int)} (h : PSet w b zs) (hb : w'.heap[b]? = w.heap[b]?) : PSet w' b zs := by
  obtain ⟨n, D, ⟨es, clock, h1, h2⟩, r⟩ := h
  exact ⟨n, D, ⟨es, clock, hb.trans h1, h2⟩, r⟩
theorem PSet.later {w w' : World} {b : Nat} {zs : List (Int × Int)} (h : PSet w b zs) (hb : Below w.heap.size w w') : PSet w' b zs := h.blk (hb.block b h.lt)
theorem pset_new (w : World) : PSet (w.alloc (.map #[] 0)) w.heap.size [] := by
  refine ⟨0, .map [], World.ownsMap_made w _ _ _, Nat.le_refl _, ⟨[], List.nodup_nil, fun x => Iff.rfl, rfl⟩, fun z _ => ?_, fun z _ => ?_⟩
  · simp [DataW.atKey]
  · simp [Maps.has]
theorem PSet.put {w : World} {b : Nat} {zs : List (Int × Int)} (h : PSet w b zs) (z : Int × Int) (hz : fits z) (hl : zs.length ≤ 20000) :
    ∃ w', (Instr.mapUpdate 24 (.map (some b)) (pv z) (.bool true)).run Tryz.prog w = .ok () w' ∧ PSet w' b (zs ++ [z]) ∧ w.grownBy w' (some b) := by
  obtain ⟨n, D, ho, hn, ⟨ks, k1, k2, k3⟩, h1, h2⟩ := h
  obtain ⟨w', r1, r2, r3⟩ := ho.update Tryz.keyed Tryz.underlying24 (by unfold maxLen; omega) (keyZ z hz) (plainElem_bool Tryz.underlying4 true)
  have hkl : WideAt.IsKeyLit (klz z) := Tryz.keyed.key (keyZ z hz)
  refine ⟨w', r1, ⟨n + 1, _, r2, by simp; omega, ?_, fun y hy => ?_, fun y hy => ?_⟩, r3⟩
  · rw [Maps.size_put (ho.tidy Tryz.keyed), h2 z hz]
    by_cases hm : z ∈ zs
    · refine ⟨ks, k1, fun x => ?_, by simp [hm, k3]⟩
      rw [k2]
      simp
      rintro rfl; exact hm
    · refine ⟨z :: ks, ?_, fun x => ?_, by simp [hm, k3]⟩
      · rw [List.nodup_cons, k2]; exact ⟨hm, k1⟩
      · simp [k2, or_comm]
  · by_cases e : y = z
    · subst e
      rw [Maps.atKey_put_same ho.isMap hkl]; simp
    · rw [Maps.atKey_put_other (fun hh => e (klz_inj hy hz hh)), h1 y hy]; simp [e]
  · by_cases e : y = z
    · subst e
      rw [Maps.has_put_same ho.isMap hkl]; simp
    · rw [Maps.has_put_other (fun hh => e (klz_inj hy hz hh)), h2 y hy]; simp [e]
theorem PSet.look {w : World} {b : Nat} {zs : List (Int × Int)} (h : PSet w b zs) (z : Int × Int) (hz : fits z) (hm : z ∈ zs) :
    (Instr.lookup 24 (.map (some b)) (pv z) false).run Tryz.prog w = .ok (.bool true) w := by
  obtain ⟨n, D, ho, hn, _, h1, h2⟩ := h
  obtain ⟨v, ps, hr, hv⟩ := ho.lookup Tryz.keyed Tryz.underlying24 (Tryz.zeroBool w) (plainElem_bool Tryz.underlying4 false) (keyZ z hz)
  rw [h1 z hz] at hv
  rw [hr]
  unfold plainElem at hv
  rw [Tryz.underlying4] at hv
  cases v <;> simp_all
theorem PSet.len {w : World} {b : Nat} {zs : List (Int × Int)} (h : PSet w b zs) (lo : Int × Int) (ty : TypeId) :
    (Builtin.len_ #[24] ty #[.map (some b)]).run Tryz.prog w = .ok (.int .i64 ((cellsZ zs lo).length : Int)) w := by
  obtain ⟨n, D, ho, hn, ⟨ks, k1, k2, k3⟩, _, _⟩ := h
  rw [ho.len Tryz.underlying24 ty, k3, cellsZ_count zs ks lo k1 k2]

theorem zp_len (zs : List (Int × Int)) : (zs.flatMap fun c => [Value.int .i64 c.1, Value.int .i64 c.2]).length = zs.length * 2 := by
  induction zs with
  | nil => rfl
  | cons c r ih => simp only [List.flatMap_cons, List.length_append, List.length_cons, List.length_nil, ih]; omega
theorem zp_at : ∀ (zs : List (Int × Int)) (j : Nat), (zs.flatMap fun c => [Value.int .i64 c.1, Value.int .i64 c.2])[j * 2]? = zs[j]?.map (fun c => .int .i64 c.1) ∧ (zs.flatMap fun c => [Value.int .i64 c.1, Value.int .i64 c.2])[j * 2 + 1]? = zs[j]?.map (fun c => .int .i64 c.2)
  | [], j => by simp
  | c :: r, 0 => by simp
  | c :: r, j + 1 => by
    obtain ⟨h1, h2⟩ := zp_at r j
    simp only [List.flatMap_cons, List.cons_append, List.nil_append, show (j + 1) * 2 = j * 2 + 1 + 1 by omega, List.getElem?_cons_succ]
    exact ⟨h1, h2⟩
theorem own_ptsZ {w : World} {B : Nat} {v : Value} {n : Nat} {zs : List (Int × Int)} (hn : n = zs.length) (h : w.ownsRow B 26 2 v n (zs.flatMap fun c => [Value.int .i64 c.1, Value.int .i64 c.2])) : ∃ a cap, v = .slice a n cap ∧ n ≤ cap ∧ cap ≤ maxLen ∧ Pts w w.heap.size a zs := by
  have h' := h
  rcases h.2 with ⟨hv, hn0⟩ | ⟨g, cp, cur, hv, _, hg, h1, h2, _, _⟩
  · obtain rfl : zs = [] := List.eq_nil_of_length_eq_zero (by omega)
    exact ⟨none, 0, by rw [hv, hn0], by omega, Nat.zero_le _, Pts.nil⟩
  · subst hv
    refine ⟨_, _, rfl, h1, h2, fun j c hc => ?_⟩
    have hj : j < zs.length := (List.getElem?_eq_some_iff.1 hc).1
    obtain ⟨e1, e2⟩ := zp_at zs j
    rw [hc] at e1 e2
    refine ⟨g, 0, rfl, (Array.getElem?_eq_some_iff.1 hg).1, ?_, ?_⟩
    · rw [Nat.zero_add, h'.cellAt (j * 2) (by omega)]; exact e1
    · rw [Nat.zero_add, h'.cellAt (j * 2 + 1) (by omega)]; exact e2
theorem clone_any (zs : List (Int × Int)) (a : Option Addr) (n cap : Nat) (w : World) (h : Pts w w.heap.size a zs) (ha : a = none ∨ ∃ bk off, a = some ⟨bk, off, none⟩) (hn : n = zs.length) (hl : n ≤ 20000) :
    Calls Tryz.prog 7 #[.slice a n cap] w fun e w' => ∃ a' cap', e = .returned (.slice a' n cap') ∧ Pts w' w'.heap.size a' zs ∧ Below w.heap.size w w' := by
  rcases ha with rfl | ⟨bk, off, rfl⟩
  · have hz : zs = [] := by
      cases zs with
      | nil => rfl
      | cons c r => obtain ⟨_, _, h0, _⟩ := h 0 c rfl; cases h0
    subst hz
    refine (AnyE.slices_Clone_nil Tryz.cloneP n cap w).mono ?_
    rintro e w' ⟨rfl, rfl⟩
    exact ⟨none, 0, by rw [hn]; rfl, Pts.nil, Below.refl _ _⟩
  · obtain ⟨i0, hi, hz0, hz1, hz2⟩ := info_parts Tryz.infoPt
    refine (AnyE.slices_Clone Tryz.cloneP i0 _ 2 16 hi hz0 hz1 hz2 rfl (by decide) Tryz.sizeOf26 bk off n cap (zs.flatMap fun c => [Value.int .i64 c.1, Value.int .i64 c.2]) w (by rw [zp_len, hn]) (by unfold maxLen; omega) (by omega) ?_ ?_).mono ?_
    · intro j u hu
      have hj : j < zs.length * 2 := by rw [← zp_len]; exact (List.getElem?_eq_some_iff.1 hu).1
      obtain ⟨i, hi2⟩ : ∃ i, j = i * 2 ∨ j = i * 2 + 1 := ⟨j / 2, by omega⟩
      obtain ⟨c, hc⟩ : ∃ c, zs[i]? = some c := ⟨zs[i]'(by omega), List.getElem?_eq_getElem _⟩
      obtain ⟨e1, e2⟩ := zp_at zs i
      obtain ⟨x0, x1⟩ := h.atj hc
      rw [hc] at e1 e2
      rcases hi2 with rfl | rfl
      · rw [e1] at hu; cases hu; exact x0
      · rw [e2] at hu; cases hu; exact x1
    · intro u hu
      obtain ⟨c, _, hc⟩ := List.mem_flatMap.1 hu
      simp at hc
      rcases hc with rfl | rfl <;> rfl
    · rintro e w' ⟨v, rfl, ho, _, hb⟩
      obtain ⟨a', cap', rfl, _, _, hp⟩ := own_ptsZ hn ho
      exact ⟨a', cap', rfl, hp, hb⟩
end Go.Proofs.YtjndfdhjipfijaaGreatDoor
