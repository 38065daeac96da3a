-- M29
import Derived.Test.YtnfjmmkokhncoaaGreatM27
import Derived.Test.YtnfjmmkokhncoaaGreatM14
import Derived.Test.YtnfjmmkokhncoaaGreatM23
section
namespace Go.Proofs.YtnfjmmkokhncoaaGreat
open Go.RowKit Go.Maps
set_option maxRecDepth 100000

set_option maxHeartbeats 1000000 in
theorem findC_any {w : World} {sb g tb cap most : Nat} {N : List Nd} (h : St w sb g tb cap most N) (P : R4) : Calls Tryz.prog 30 #[.pointer (some ⟨sb, 0, none⟩)] w fun e w' => ∃ cb bb fb : Nat, e = .returned (.pointer (some ⟨fb, 0, none⟩)) ∧ Fc w' sb g tb cb bb fb most N P ∧ Below w.heap.size w w' ∧ w.heap.size ≤ cb := by
  obtain ⟨l1, l2, l3⟩ := h.lt
  have hmm := @run_makeMap Tryz.prog
  have HB := Lib.hid (bel3 w (.map #[] 0) (.map #[] 0) (.cells #[.pointer (some ⟨sb, 0, none⟩), .map (some w.heap.size), .map (some (w.heap.size + 1))] 121))
  have hfn : Fc (((w.alloc (.map #[] 0)).alloc (.map #[] 0)).alloc (.cells #[.pointer (some ⟨sb, 0, none⟩), .map (some w.heap.size), .map (some (w.heap.size + 1))] 121)) sb g tb w.heap.size (w.heap.size + 1) (w.heap.size + 1 + 1) most N P := by
    have hm := ((gmap_new (mkC P) w).later (bel1 _ (.map #[] 0))).later (bel1 _ (.cells #[.pointer (some ⟨sb, 0, none⟩), .map (some w.heap.size), .map (some (w.heap.size + 1))] 121))
    exact ⟨⟨cap, h.later HB.out⟩, new_3 w _ _ _, ⟨_, hm, fun x v hv => by cases hv⟩, by omega, by omega, by omega⟩
  have HF := Lib.hid hfn
  clear h hfn
  go_enter Tryz.func30, Tryz.ntmps30
  go_wp2_with fail
  go_ret
  exact ⟨_, _, _, rfl, HF.out, HB.out, Nat.le_refl _⟩
end Go.Proofs.YtnfjmmkokhncoaaGreat
end

section
namespace Go.Proofs.YtnfjmmkokhncoaaGreat

/-- Two rows that rise, of the same things, are one. -/
theorem strict_ext {α : Type} {R : α → α → Prop} (has : ∀ x y, R x y → ¬ R y x) : ∀ (a b : List α), a.Pairwise R → b.Pairwise R → (∀ x, x ∈ a ↔ x ∈ b) → a = b
  | [], [], _, _, _ => rfl
  | [], y :: t, _, _, h => absurd ((h y).2 List.mem_cons_self) (by simp)
  | x :: s, [], _, _, h => absurd ((h x).1 List.mem_cons_self) (by simp)
  | x :: s, y :: t, ha, hb, h => by
    rw [List.pairwise_cons] at ha hb
    have hxy : x = y := by
      rcases List.mem_cons.1 ((h x).1 List.mem_cons_self) with e | h1
      · exact e
      · rcases List.mem_cons.1 ((h y).2 List.mem_cons_self) with e | h2
        · exact e.symm
        · exact absurd (ha.1 y h2) (has _ _ (hb.1 x h1))
    subst hxy
    have hirr : ∀ z, R x z → z ≠ x := fun z hz e => by subst e; exact has _ _ hz hz
    rw [strict_ext has s t ha.2 hb.2 fun z => ⟨fun hz => (List.mem_cons.1 ((h z).1 (List.mem_cons_of_mem _ hz))).resolve_left (hirr z (ha.1 z hz)), fun hz => (List.mem_cons.1 ((h z).2 (List.mem_cons_of_mem _ hz))).resolve_left (hirr z (hb.1 z hz))⟩]
/-- A rectangle that lies in a square comes of itself. -/
theorem pr_self {n : Nat} {r : R4} (h : RIn n r) : Pr r n r := by
  rcases h with h | ⟨h1, h2, h3, h4⟩
  · exact Or.inl h
  · cases hn : r.no with
    | true => exact Or.inl hn
    | false =>
      have hlt := R4.no_not.1 hn
      have hp := pow_pos2 n
      refine Or.inr ⟨Or.inr ?_, Or.inr ?_, Or.inr ?_, Or.inr ?_⟩
      · rw [Int.emod_eq_of_lt h1 (by omega)]
      · rw [Int.emod_eq_of_lt (by omega) (by omega)]; omega
      · rw [Int.emod_eq_of_lt h3 (by omega)]
      · rw [Int.emod_eq_of_lt (by omega) (by omega)]; omega
theorem nodup_sh {dx dy : Int} {l : List (Int × Int)} (h : l.Nodup) : (sh dx dy l).Nodup := by
  unfold sh List.Nodup
  rw [List.pairwise_map]
  refine List.Pairwise.imp (fun {a b} hab e => hab ?_) h
  simp only [Prod.mk.injEq] at e
  exact Prod.ext (by omega) (by omega)
/-- The living cells of a plane that a rectangle has. -/
def plS (N : List Nd) (n x : Nat) (q : R4) : List (Int × Int) := sh (-2 ^ n) (-2 ^ n) (ptL N (n + 1) x q)
theorem plS_nodup (N : List Nd) (n x : Nat) (q : R4) : (plS N n x q).Nodup := nodup_sh ((nodup_cells N (n + 1) x).filter _)
theorem plS_len (N : List Nd) (n x : Nat) (q : R4) : (plS N n x q).length = ctP N (n + 1) x q := by unfold plS sh ctP; rw [List.length_map]
theorem plS_mem {N : List Nd} {n x : Nat} {r q : R4} (hq : ∀ X Y, 0 ≤ X ∧ X < 2 ^ (n + 1) → 0 ≤ Y ∧ Y < 2 ^ (n + 1) → q.has X Y = r.has (X - 2 ^ n) (Y - 2 ^ n)) (X Y : Int) : (X, Y) ∈ plS N n x q ↔ alK N n (kidZ N x) X Y = true ∧ r.has X Y = true := by
  unfold plS ptL
  rw [mem_sh, List.mem_filter, mem_cells, ← liv_al]
  unfold livP
  constructor
  · rintro ⟨⟨h1, h2, h3⟩, h4⟩
    refine ⟨⟨h1, h2, h3⟩, ?_⟩
    rw [hq _ _ h1 h2] at h4
    rw [show X = X - -2 ^ n - 2 ^ n by omega, show Y = Y - -2 ^ n - 2 ^ n by omega]
    exact h4
  · rintro ⟨⟨h1, h2, h3⟩, h4⟩
    refine ⟨⟨h1, h2, h3⟩, ?_⟩
    rw [hq _ _ h1 h2, show X - -2 ^ n - 2 ^ n = X by omega, show Y - -2 ^ n - 2 ^ n = Y by omega]
    exact h4
/-- The part of a rectangle in a square, seen from its first cell. -/
def prR (r : R4) (n : Nat) : R4 := ⟨max r.x (-2 ^ n) + 2 ^ n, max r.y (-2 ^ n) + 2 ^ n, min r.X (2 ^ n) + 2 ^ n, min r.Y (2 ^ n) + 2 ^ n⟩
def noR (n : Nat) : R4 := ⟨2 ^ n, 2 ^ n, 2 ^ n, 2 ^ n⟩
theorem prR_in (r : R4) (n : Nat) : RIn (n + 1) (prR r n) := by
  have hp := pow_pos2 n
  have h2 := pow_two2 n
  refine Or.inr ⟨?_, ?_, ?_, ?_⟩ <;> simp only [prR] <;> omega
theorem prR_has (r : R4) (n : Nat) (X Y : Int) (hX : 0 ≤ X ∧ X < 2 ^ (n + 1)) (hY : 0 ≤ Y ∧ Y < 2 ^ (n + 1)) : (prR r n).has X Y = r.has (X - 2 ^ n) (Y - 2 ^ n) := by
  have h2 := pow_two2 n
  rw [Bool.eq_iff_iff, R4.has_iff, R4.has_iff]
  simp only [prR]
  omega
theorem noR_in (n : Nat) : RIn (n + 1) (noR n) := Or.inl (by unfold noR R4.no; simp)
theorem noR_has {r : R4} {n : Nat} (h : (prR r n).no = true) (X Y : Int) (hX : 0 ≤ X ∧ X < 2 ^ (n + 1)) (hY : 0 ≤ Y ∧ Y < 2 ^ (n + 1)) : (noR n).has X Y = r.has (X - 2 ^ n) (Y - 2 ^ n) := by
  rw [← prR_has r n X Y hX hY, R4.has_no h, R4.has_no]
  unfold noR R4.no; simp
end Go.Proofs.YtnfjmmkokhncoaaGreat
end

section
namespace Go.Proofs.YtnfjmmkokhncoaaGreat
open Go.RowKit Go.Shelf Go.Sort

set_option maxRecDepth 100000 in
set_option maxHeartbeats 2000000 in
theorem byRowsA_any (x y : Int × Int) (W : World) :
    Calls Tryz.prog 38 #[.agg #[.int .i64 x.1, .int .i64 x.2], .agg #[.int .i64 y.1, .int .i64 y.2]] W fun e w' => e = .returned (.int .i64 (cfZ x y)) ∧ ∃ q os', w' = grow (W.drewN q) os' := by
  have HC : Hid (∀ p q W', Calls Tryz.prog 69 #[.int .i64 p, .int .i64 q] W' fun e w' => e = .returned (.int .i64 (Lib.compareInt p q)) ∧ W' = w') := fun p q W' => (AnyG.cmp_Compare_int Tryz.cmpI64 p q W').mono fun _ _ ⟨h, e⟩ => ⟨h, e.symm⟩
  have HR : Hid (cfZ x y = if Lib.compareInt x.2 y.2 = 0 then Lib.compareInt x.1 y.1 else Lib.compareInt x.2 y.2) := rfl
  obtain ⟨W0, hW0, hx0, hy0⟩ : ∃ W0, (W.alloc (.cells #[.int .i64 x.1, .int .i64 x.2] 24)).alloc (.cells #[.int .i64 y.1, .int .i64 y.2] 24) = W0 ∧ PzAt W0 W.heap.size x ∧ PzAt W0 (W.heap.size + 1) y := by
    refine ⟨_, rfl, (pz_new W x).later (bel1 _ _), ?_⟩
    have := pz_new (W.alloc (.cells #[.int .i64 x.1, .int .i64 x.2] 24)) y
    rw [World.size_alloc] at this
    exact this
  have HW0 := Lib.hid hW0
  have HX := Lib.hid hx0
  have HY := Lib.hid hy0
  clear hW0 hx0 hy0
  go_enter Tryz.func38, Tryz.ntmps38
  go_upto_region 1 with fail
  rw [HW0.out]
  obtain ⟨a0, a1, _⟩ := HX.out.cells
  obtain ⟨b0, b1, _⟩ := HY.out.cells
  have HOR : Hid (∀ W' nb, W'.cell? ⟨nb, 0, none⟩ = some (.int .i64 (Lib.compareInt x.2 y.2)) → W'.cell? ⟨nb, 1, none⟩ = some (.int .i64 (Lib.compareInt x.1 y.1)) → Calls Tryz.prog 68 #[.slice (some ⟨nb, 0, none⟩) 2 2] W' fun e w' => e = .returned (.int .i64 (cfZ x y)) ∧ W' = w') := fun W' nb h0 h1 => or_ints _ _ nb W' h0 h1
  generalize hzz : cfZ x y = z at *
  have HZZ := Lib.hid hzz
  clear hzz
  go_region_held3 (fun w' => w'.cell? ⟨W.heap.size, 0, none⟩ = some (.int .i64 x.1) ∧ w'.cell? ⟨W.heap.size, 1, none⟩ = some (.int .i64 x.2) ∧ w'.cell? ⟨W.heap.size + 1, 0, none⟩ = some (.int .i64 y.1) ∧ w'.cell? ⟨W.heap.size + 1, 1, none⟩ = some (.int .i64 y.2)) (go_keep) (first
    | (go_at_call 69; refine (HC.out _ _ _).mono ?_; rintro e w' ⟨rfl, rfl⟩)
    | (go_at_call 68; refine (HOR.out _ _ ?_ ?_).mono ?_; (focus (simp; done)); (focus (simp; done)); rintro e w' ⟨rfl, rfl⟩))
  all_goals go_wp2_with fail
  go_ret
  refine ⟨by rw [HZZ.out]; rfl, 1, #[.cells #[.int .i64 x.1, .int .i64 x.2] 24, .cells #[.int .i64 y.1, .int .i64 y.2] 24, .cells #[.int .i64 (Lib.compareInt x.2 y.2), .int .i64 (Lib.compareInt x.1 y.1)] 3], ?_⟩
  rw [← HW0.out, alloc_eq_grow, alloc_eq_grow, alloc_eq_grow, grow_grow, grow_grow]
  rfl

theorem sortA_any (g n cap : Nat) (zs : List (Int × Int)) (w : World) (h : ZRow w g zs) (hn : n = zs.length) (hl : n ≤ 20000) :
    Calls Tryz.prog 37 #[.slice (some ⟨g, 0, none⟩) n cap, .func (.func 38) #[] #[]] w fun e w' => e = .returned (.tuple #[]) ∧ ZRow w' g (sortZ zs) ∧ Oth g w w' := by
  subst hn
  have eg : ∀ args w, (callFunc 38 args).run Tryz.prog w = .ok (.enter 38 args) w := enters_of Tryz.func38 (by kernel_rfl) rfl
  have hcon := AnyQ.slices_SortFunc_total Tryz.sortPt 2 Tryz.isAgg24 Tryz.sizeOf24 encZ (fun _ => rfl) (fun x v hv => by simp [encZ] at hv; rcases hv with rfl | rfl <;> rfl) cfZ swoZ 38 #[] g 0 cap zs.toArray w eg (fun _ _ _ _ x y => byRowsA_any x y _) (holds_of_row h) h.1 (by simp; omega) totZ
  have hsz : zs.toArray.size = zs.length := by simp
  rw [hsz] at hcon
  refine Calls.mono hcon ?_
  rintro e w' ⟨rfl, m, os, rfl⟩
  have hlen : (sortZ zs).toArray.size = zs.toArray.size := by simp [sortZ]
  have hk : HoldsK encZ 2 (sortWorldK encZ 2 w g 0 m (sortZ zs).toArray os) g 0 (sortZ zs).toArray := by
    unfold sortWorldK
    refine holdsK_grow encZ 2 _ os g 0 _ ?_ (holdsK_putRowK encZ 2 _ g 0 zs.toArray _ (holdsK_ahead encZ 2 w m g 0 _ (holds_of_row h)) hlen)
    have := h.1
    simpa [putRowK, putRow, mapBlock, ahead] using this
  refine ⟨rfl, row_of_holds ?_ hk, ⟨rfl, rfl, rfl, ?_, fun i hi => ?_⟩, fun i hi hne => ?_⟩
  · have := h.1
    simp [sortWorldK, grow, putRowK, putRow, mapBlock]; omega
  · simp [sortWorldK, grow, putRowK, putRow, mapBlock]
  · have := h.1
    show (_ ++ os)[i]? = _
    rw [Array.getElem?_append_left (by simp [putRowK, putRow, mapBlock]; omega)]
    simp [putRowK, putRow, mapBlock, Array.getElem?_modify, show ¬ g = i by omega]
  · show (_ ++ os)[i]? = _
    rw [Array.getElem?_append_left (by simp [putRowK, putRow, mapBlock]; omega)]
    simp [putRowK, putRow, mapBlock, Array.getElem?_modify, show ¬ g = i by omega]
/-- None are sorted. -/
theorem sortA_none (p : Option Addr) (cap : Nat) (fv : Value) (w : World) : Calls Tryz.prog 37 #[.slice p 0 cap, fv] w fun e w' => e = .returned (.tuple #[]) ∧ w = w' :=
  (AnyF.slices_SortFunc_none Tryz.sortPt p cap fv w).mono fun _ _ h => ⟨h.1, h.2.symm⟩
end Go.Proofs.YtnfjmmkokhncoaaGreat
end
