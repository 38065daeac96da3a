/- Package rle: byRows; slices.SortFunc by it: contracts. -/
import Derived.Test.YtjndfdhjipfijaaGreatDoorNw
import Derived.Test.YtjndfdhjipfijaaGreatDoorShelfG
namespace Go.Proofs.YtjndfdhjipfijaaGreatDoor
open Go.RowKit Go.Shelf Go.Sort

/-- How byRows compares. -/
def cfZ (x y : Int × Int) : Int := if Lib.compareInt x.2 y.2 = 0 then Lib.compareInt x.1 y.1 else Lib.compareInt x.2 y.2
theorem ltZ (x y : Int × Int) : ltOf cfZ x y = (decide (x.2 < y.2) || (decide (x.2 = y.2) && decide (x.1 < y.1))) := by
  unfold ltOf cfZ Lib.compareInt
  by_cases h1 : x.2 < y.2
  · simp [h1]
  · by_cases h2 : y.2 < x.2
    · have : ¬ x.2 = y.2 := by omega
      simp [h1, h2, this]
    · have h3 : x.2 = y.2 := by omega
      by_cases h4 : x.1 < y.1
      · simp [h3, h4]
      · by_cases h5 : y.1 < x.1 <;> simp [h3, h4, h5]
theorem swoZ : SWO (ltOf cfZ) where
  irrefl x := by rw [ltZ]; simp
  trans x y z h1 h2 := by rw [ltZ] at *; simp at *; omega
  ntrans x y z h1 h2 := by rw [ltZ] at *; simp at *; omega
theorem totZ (x y : Int × Int) (h1 : ltOf cfZ x y = false) (h2 : ltOf cfZ y x = false) : x = y := by
  rw [ltZ] at *
  simp at *
  exact Prod.ext (by omega) (by omega)

set_option maxRecDepth 100000 in
set_option maxHeartbeats 1000000 in
theorem or_ints (a b : Int) (nb : Nat) (w : World) (h0 : w.cell? ⟨nb, 0, none⟩ = some (.int .i64 a)) (h1 : w.cell? ⟨nb, 1, none⟩ = some (.int .i64 b)) :
    Calls Tryz.prog 36 #[.slice (some ⟨nb, 0, none⟩) 2 2] w fun e w' => e = .returned (.int .i64 (if a = 0 then b else a)) ∧ w = w' := by
  go_enter Tryz.func36, Tryz.ntmps36
  go_wp2_with fail
  go_loopg [5, 8] 2 (fun k v i wr => ∃ j : Nat, k = 2 - j ∧ j ≤ 2 ∧ i = .int .i64 (j : Int) ∧ (1 ≤ j → a = 0) ∧ (2 ≤ j → b = 0) ∧ wr = w)
  case atStart => exact ⟨0, rfl, by omega, rfl, by omega, by omega, rfl⟩
  case round =>
    obtain ⟨j, hk, hj, rfl, ha, hb, rfl⟩ := hrel
    have HK := Lib.hid hk
    clear hk
    match j, hj, ha, hb, HK with
    | 0, _, _, _, HK =>
      by_cases hz : a = 0
      · subst hz
        go_wp2_with fail
        go_roundg 1
        case measure => rw [HK.out]; omega
        case rel => exact ⟨1, rfl, by omega, rfl, by simp, by simp, rfl⟩
      · have hq : (a == 0) = false := by rw [beq_eq_false_iff_ne]; exact hz
        have hq2 : (a != 0) = true := by rw [bne, hq]; rfl
        have HZ := Lib.hid hz
        clear hz
        go_wp2_with fail
        go_ret
        exact ⟨rfl, rfl⟩
    | 1, _, ha, _, HK =>
      have hz := ha (by omega)
      subst hz
      by_cases hz : b = 0
      · subst hz
        go_wp2_with fail
        go_roundg 0
        case measure => rw [HK.out]; omega
        case rel => exact ⟨2, rfl, by omega, rfl, by simp, by simp, rfl⟩
      · have hq : (b == 0) = false := by rw [beq_eq_false_iff_ne]; exact hz
        have hq2 : (b != 0) = true := by rw [bne, hq]; rfl
        clear hz
        go_wp2_with fail
        go_ret
        exact ⟨rfl, rfl⟩
    | 2, _, ha, hb, HK =>
      have hz := ha (by omega)
      have hz2 := hb (by omega)
      subst hz hz2
      go_wp2_with fail
      go_ret
      exact ⟨rfl, rfl⟩

set_option maxRecDepth 100000 in
set_option maxHeartbeats 2000000 in
theorem byRows_any (x y : Int × Int) (W : World) :
    Calls Tryz.prog 18 #[.agg #[.int .i64 x.1, .int .i64 x.2], .agg #[.int .i64 y.1, .int .i64 y.2]] W fun e w' => e = .returned (.int .i64 (cfZ x y)) ∧ ∃ q os', w' = grow (W.drewN q) os' := by
  have HC : Hid (∀ p q W', Calls Tryz.prog 37 #[.int .i64 p, .int .i64 q] W' fun e w' => e = .returned (.int .i64 (Lib.compareInt p q)) ∧ W' = w') := fun p q W' => (AnyG.cmp_Compare_int Tryz.cmpI64 p q W').mono fun _ _ ⟨h, e⟩ => ⟨h, e.symm⟩
  have HR : Hid (cfZ x y = if Lib.compareInt x.2 y.2 = 0 then Lib.compareInt x.1 y.1 else Lib.compareInt x.2 y.2) := rfl
  obtain ⟨W0, hW0, hx0, hy0⟩ : ∃ W0, (W.alloc (.cells #[.int .i64 x.1, .int .i64 x.2] 26)).alloc (.cells #[.int .i64 y.1, .int .i64 y.2] 26) = W0 ∧ PzAt W0 W.heap.size x ∧ PzAt W0 (W.heap.size + 1) y := by
    refine ⟨_, rfl, (pz_new W x).later (bel1 _ _), ?_⟩
    have := pz_new (W.alloc (.cells #[.int .i64 x.1, .int .i64 x.2] 26)) y
    rw [World.size_alloc] at this
    exact this
  have HW0 := Lib.hid hW0
  have HX := Lib.hid hx0
  have HY := Lib.hid hy0
  clear hW0 hx0 hy0
  go_enter Tryz.func18, Tryz.ntmps18
  go_upto_region 1 with fail
  rw [HW0.out]
  obtain ⟨a0, a1, _⟩ := HX.out.cells
  obtain ⟨b0, b1, _⟩ := HY.out.cells
  have HOR : Hid (∀ W' nb, W'.cell? ⟨nb, 0, none⟩ = some (.int .i64 (Lib.compareInt x.2 y.2)) → W'.cell? ⟨nb, 1, none⟩ = some (.int .i64 (Lib.compareInt x.1 y.1)) → Calls Tryz.prog 36 #[.slice (some ⟨nb, 0, none⟩) 2 2] W' fun e w' => e = .returned (.int .i64 (cfZ x y)) ∧ W' = w') := fun W' nb h0 h1 => or_ints _ _ nb W' h0 h1
  generalize hzz : cfZ x y = z at *
  have HZZ := Lib.hid hzz
  clear hzz
  go_region_held3 (fun w' => w'.cell? ⟨W.heap.size, 0, none⟩ = some (.int .i64 x.1) ∧ w'.cell? ⟨W.heap.size, 1, none⟩ = some (.int .i64 x.2) ∧ w'.cell? ⟨W.heap.size + 1, 0, none⟩ = some (.int .i64 y.1) ∧ w'.cell? ⟨W.heap.size + 1, 1, none⟩ = some (.int .i64 y.2)) (go_keep) (first
    | (go_at_call 37; refine (HC.out _ _ _).mono ?_; rintro e w' ⟨rfl, rfl⟩)
    | (go_at_call 36; refine (HOR.out _ _ ?_ ?_).mono ?_; (focus (simp; done)); (focus (simp; done)); rintro e w' ⟨rfl, rfl⟩))
  all_goals go_wp2_with fail
  go_ret
  refine ⟨by rw [HZZ.out]; rfl, 1, #[.cells #[.int .i64 x.1, .int .i64 x.2] 26, .cells #[.int .i64 y.1, .int .i64 y.2] 26, .cells #[.int .i64 (Lib.compareInt x.2 y.2), .int .i64 (Lib.compareInt x.1 y.1)] 3], ?_⟩
  rw [← HW0.out, alloc_eq_grow, alloc_eq_grow, alloc_eq_grow, grow_grow, grow_grow]
  rfl

/-! The row, sorted -/
def encZ (x : Int × Int) : List Value := [.int .i64 x.1, .int .i64 x.2]
theorem holds_of_row {w : World} {g : Nat} {zs : List (Int × Int)} (h : ZRow w g zs) : HoldsK encZ 2 w g 0 zs.toArray := by
  intro t ht
  rw [size_flatK] at ht
  have ht' : t < zs.length * 2 := by simpa using ht
  rw [get_flatK _ _ _ _ ht, Nat.zero_add]
  obtain ⟨a1, a2, a3, a4⟩ := h.2 (t / 2) _ (List.getElem?_eq_getElem (by omega))
  have he : (zs.toArray)[t / 2]! = zs[t / 2]'(by omega) := by
    rw [getElem!_pos zs.toArray (t / 2) (by simp; omega)]; simp
  rw [he]
  rcases Nat.mod_two_eq_zero_or_one t with hm | hm
  · rw [hm]
    have e : t = t / 2 * 2 := by omega
    rw [← e] at a1 a3
    exact ⟨a1, a3⟩
  · rw [hm]
    have e : t = t / 2 * 2 + 1 := by omega
    rw [← e] at a2 a4
    exact ⟨a2, a4⟩
theorem row_of_holds {w : World} {g : Nat} {zs : List (Int × Int)} (hg : g < w.heap.size) (h : HoldsK encZ 2 w g 0 zs.toArray) : ZRow w g zs := by
  refine ⟨hg, fun j c hc => ?_⟩
  obtain ⟨hj, rfl⟩ := List.getElem?_eq_some_iff.1 hc
  have h0 := h.cell (i := j) (c := 0) (by simpa using hj) (by omega)
  have h1 := h.cell (i := j) (c := 1) (by simpa using hj) (by omega)
  have he : (zs.toArray)[j]! = zs[j] := by rw [getElem!_pos zs.toArray j (by simpa using hj)]; simp
  rw [he, Nat.zero_add] at h0 h1
  exact ⟨h0.1, h1.1, h0.2, h1.2⟩
/-- The order of a pattern's cells. -/
def leZ (x y : Int × Int) : Bool := !ltOf cfZ y x
def sortZ (zs : List (Int × Int)) : List (Int × Int) := zs.mergeSort leZ
theorem sort_any (g n : Nat) (zs : List (Int × Int)) (w : World) (h : ZRow w g zs) (hn : n = zs.length) (hl : n ≤ 20000) :
    Calls Tryz.prog 17 #[.slice (some ⟨g, 0, none⟩) n n, .func (.func 18) #[] #[]] w fun e w' => e = .returned (.tuple #[]) ∧ ZRow w' g (sortZ zs) ∧ Oth g w w' := by
  subst hn
  have eg : ∀ args w, (callFunc 18 args).run Tryz.prog w = .ok (.enter 18 args) w := enters_of Tryz.func18 (by kernel_rfl) rfl
  have hcon := AnyQ.slices_SortFunc_total Tryz.sortPt 2 Tryz.isAgg26 Tryz.sizeOf26 encZ (fun _ => rfl) (fun x v hv => by simp [encZ] at hv; rcases hv with rfl | rfl <;> rfl) cfZ swoZ 18 #[] g 0 zs.length zs.toArray w eg (fun _ _ _ _ x y => byRows_any x y _) (holds_of_row h) h.1 (by simp; omega) totZ
  have hsz : zs.toArray.size = zs.length := by simp
  rw [hsz] at hcon
  refine Calls.mono hcon ?_
  rintro e w' ⟨rfl, m, os, rfl⟩
  have hlen : (sortZ zs).toArray.size = zs.toArray.size := by simp [sortZ]
  have hk : HoldsK encZ 2 (sortWorldK encZ 2 w g 0 m (sortZ zs).toArray os) g 0 (sortZ zs).toArray := by
    unfold sortWorldK
    refine holdsK_grow encZ 2 _ os g 0 _ ?_ (holdsK_putRowK encZ 2 _ g 0 zs.toArray _ (holdsK_ahead encZ 2 w m g 0 _ (holds_of_row h)) hlen)
    have := h.1
    simpa [putRowK, putRow, mapBlock, ahead] using this
  refine ⟨rfl, row_of_holds ?_ hk, ⟨rfl, rfl, rfl, ?_, fun i hi => ?_⟩, fun i hi hne => ?_⟩
  · have := h.1
    simp [sortWorldK, grow, putRowK, putRow, mapBlock]; omega
  · simp [sortWorldK, grow, putRowK, putRow, mapBlock]
  · have := h.1
    show (_ ++ os)[i]? = _
    rw [Array.getElem?_append_left (by simp [putRowK, putRow, mapBlock]; omega)]
    simp [putRowK, putRow, mapBlock, Array.getElem?_modify, show ¬ g = i by omega]
  · show (_ ++ os)[i]? = _
    rw [Array.getElem?_append_left (by simp [putRowK, putRow, mapBlock]; omega)]
    simp [putRowK, putRow, mapBlock, Array.getElem?_modify, show ¬ g = i by omega]
end Go.Proofs.YtjndfdhjipfijaaGreatDoor
