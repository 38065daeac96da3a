-- M21
import Derived.Test.YtaapkngpnlnjeaaGreatM20
section
namespace Go.Proofs.YtaapkngpnlnjeaaGreat
open Go.RowKit Go.Shelf Go.Sort

/-- How byRows compares. -/
def cfZ (x y : Int × Int) : Int := if Lib.compareInt x.2 y.2 = 0 then Lib.compareInt x.1 y.1 else Lib.compareInt x.2 y.2
theorem ltZ (x y : Int × Int) : ltOf cfZ x y = (decide (x.2 < y.2) || (decide (x.2 = y.2) && decide (x.1 < y.1))) := by
  unfold ltOf cfZ Lib.compareInt
  by_cases h1 : x.2 < y.2
  · simp [h1]
  · by_cases h2 : y.2 < x.2
    · have : ¬ x.2 = y.2 := by omega
      simp [h1, h2, this]
    · have h3 : x.2 = y.2 := by omega
      by_cases h4 : x.1 < y.1
      · simp [h3, h4]
      · by_cases h5 : y.1 < x.1 <;> simp [h3, h4, h5]
theorem swoZ : SWO (ltOf cfZ) where
  irrefl x := by rw [ltZ]; simp
  trans x y z h1 h2 := by rw [ltZ] at *; simp at *; omega
  ntrans x y z h1 h2 := by rw [ltZ] at *; simp at *; omega
theorem totZ (x y : Int × Int) (h1 : ltOf cfZ x y = false) (h2 : ltOf cfZ y x = false) : x = y := by
  rw [ltZ] at *
  simp at *
  exact Prod.ext (by omega) (by omega)

set_option maxRecDepth 100000 in
set_option maxHeartbeats 1000000 in
theorem or_ints (a b : Int) (nb : Nat) (w : World) (h0 : w.cell? ⟨nb, 0, none⟩ = some (.int .i64 a)) (h1 : w.cell? ⟨nb, 1, none⟩ = some (.int .i64 b)) :
    Calls Tryz.prog 91 #[.slice (some ⟨nb, 0, none⟩) 2 2] w fun e w' => e = .returned (.int .i64 (if a = 0 then b else a)) ∧ w = w' := by
  go_enter Tryz.func91, Tryz.ntmps91
  go_wp2_with fail
  go_loopg [5, 8] 2 (fun k v i wr => ∃ j : Nat, k = 2 - j ∧ j ≤ 2 ∧ i = .int .i64 (j : Int) ∧ (1 ≤ j → a = 0) ∧ (2 ≤ j → b = 0) ∧ wr = w)
  case atStart => exact ⟨0, rfl, by omega, rfl, by omega, by omega, rfl⟩
  case round =>
    obtain ⟨j, hk, hj, rfl, ha, hb, rfl⟩ := hrel
    have HK := Lib.hid hk
    clear hk
    match j, hj, ha, hb, HK with
    | 0, _, _, _, HK =>
      by_cases hz : a = 0
      · subst hz
        go_wp2_with fail
        go_roundg 1
        case measure => rw [HK.out]; omega
        case rel => exact ⟨1, rfl, by omega, rfl, by simp, by simp, rfl⟩
      · have hq : (a == 0) = false := by rw [beq_eq_false_iff_ne]; exact hz
        have hq2 : (a != 0) = true := by rw [bne, hq]; rfl
        have HZ := Lib.hid hz
        clear hz
        go_wp2_with fail
        go_ret
        exact ⟨rfl, rfl⟩
    | 1, _, ha, _, HK =>
      have hz := ha (by omega)
      subst hz
      by_cases hz : b = 0
      · subst hz
        go_wp2_with fail
        go_roundg 0
        case measure => rw [HK.out]; omega
        case rel => exact ⟨2, rfl, by omega, rfl, by simp, by simp, rfl⟩
      · have hq : (b == 0) = false := by rw [beq_eq_false_iff_ne]; exact hz
        have hq2 : (b != 0) = true := by rw [bne, hq]; rfl
        clear hz
        go_wp2_with fail
        go_ret
        exact ⟨rfl, rfl⟩
    | 2, _, ha, hb, HK =>
      have hz := ha (by omega)
      have hz2 := hb (by omega)
      subst hz hz2
      go_wp2_with fail
      go_ret
      exact ⟨rfl, rfl⟩

set_option maxRecDepth 100000 in
set_option maxHeartbeats 2000000 in
theorem byRows_any (x y : Int × Int) (W : World) :
    Calls Tryz.prog 70 #[.agg #[.int .i64 x.1, .int .i64 x.2], .agg #[.int .i64 y.1, .int .i64 y.2]] W fun e w' => e = .returned (.int .i64 (cfZ x y)) ∧ ∃ q os', w' = grow (W.drewN q) os' := by
  have HC : Hid (∀ p q W', Calls Tryz.prog 92 #[.int .i64 p, .int .i64 q] W' fun e w' => e = .returned (.int .i64 (Lib.compareInt p q)) ∧ W' = w') := fun p q W' => (AnyG.cmp_Compare_int Tryz.cmpI64 p q W').mono fun _ _ ⟨h, e⟩ => ⟨h, e.symm⟩
  have HR : Hid (cfZ x y = if Lib.compareInt x.2 y.2 = 0 then Lib.compareInt x.1 y.1 else Lib.compareInt x.2 y.2) := rfl
  obtain ⟨W0, hW0, hx0, hy0⟩ : ∃ W0, (W.alloc (.cells #[.int .i64 x.1, .int .i64 x.2] 34)).alloc (.cells #[.int .i64 y.1, .int .i64 y.2] 34) = W0 ∧ PzAt W0 W.heap.size x ∧ PzAt W0 (W.heap.size + 1) y := by
    refine ⟨_, rfl, (pz_new W x).later (bel1 _ _), ?_⟩
    have := pz_new (W.alloc (.cells #[.int .i64 x.1, .int .i64 x.2] 34)) y
    rw [World.size_alloc] at this
    exact this
  have HW0 := Lib.hid hW0
  have HX := Lib.hid hx0
  have HY := Lib.hid hy0
  clear hW0 hx0 hy0
  go_enter Tryz.func70, Tryz.ntmps70
  go_upto_region 1 with fail
  rw [HW0.out]
  obtain ⟨a0, a1, _⟩ := HX.out.cells
  obtain ⟨b0, b1, _⟩ := HY.out.cells
  have HOR : Hid (∀ W' nb, W'.cell? ⟨nb, 0, none⟩ = some (.int .i64 (Lib.compareInt x.2 y.2)) → W'.cell? ⟨nb, 1, none⟩ = some (.int .i64 (Lib.compareInt x.1 y.1)) → Calls Tryz.prog 91 #[.slice (some ⟨nb, 0, none⟩) 2 2] W' fun e w' => e = .returned (.int .i64 (cfZ x y)) ∧ W' = w') := fun W' nb h0 h1 => or_ints _ _ nb W' h0 h1
  generalize hzz : cfZ x y = z at *
  have HZZ := Lib.hid hzz
  clear hzz
  go_region_held3 (fun w' => w'.cell? ⟨W.heap.size, 0, none⟩ = some (.int .i64 x.1) ∧ w'.cell? ⟨W.heap.size, 1, none⟩ = some (.int .i64 x.2) ∧ w'.cell? ⟨W.heap.size + 1, 0, none⟩ = some (.int .i64 y.1) ∧ w'.cell? ⟨W.heap.size + 1, 1, none⟩ = some (.int .i64 y.2)) (go_keep) (first
    | (go_at_call 92; refine (HC.out _ _ _).mono ?_; rintro e w' ⟨rfl, rfl⟩)
    | (go_at_call 91; refine (HOR.out _ _ ?_ ?_).mono ?_; (focus (simp; done)); (focus (simp; done)); rintro e w' ⟨rfl, rfl⟩))
  all_goals go_wp2_with fail
  go_ret
  refine ⟨by rw [HZZ.out]; rfl, 1, #[.cells #[.int .i64 x.1, .int .i64 x.2] 34, .cells #[.int .i64 y.1, .int .i64 y.2] 34, .cells #[.int .i64 (Lib.compareInt x.2 y.2), .int .i64 (Lib.compareInt x.1 y.1)] 3], ?_⟩
  rw [← HW0.out, alloc_eq_grow, alloc_eq_grow, alloc_eq_grow, grow_grow, grow_grow]
  rfl

/-! The row, sorted -/
def encZ (x : Int × Int) : List Value := [.int .i64 x.1, .int .i64 x.2]
theorem holds_of_row {w : World} {g : Nat} {zs : List (Int × Int)} (h : ZRow w g zs) : HoldsK encZ 2 w g 0 zs.toArray := by
  intro t ht
  rw [size_flatK] at ht
  have ht' : t < zs.length * 2 := by simpa using ht
  rw [get_flatK _ _ _ _ ht, Nat.zero_add]
  obtain ⟨a1, a2, a3, a4⟩ := h.2 (t / 2) _ (List.getElem?_eq_getElem (by omega))
  have he : (zs.toArray)[t / 2]! = zs[t / 2]'(by omega) := by
    rw [getElem!_pos zs.toArray (t / 2) (by simp; omega)]; simp
  rw [he]
  rcases Nat.mod_two_eq_zero_or_one t with hm | hm
  · rw [hm]
    have e : t = t / 2 * 2 := by omega
    rw [← e] at a1 a3
    exact ⟨a1, a3⟩
  · rw [hm]
    have e : t = t / 2 * 2 + 1 := by omega
    rw [← e] at a2 a4
    exact ⟨a2, a4⟩
theorem row_of_holds {w : World} {g : Nat} {zs : List (Int × Int)} (hg : g < w.heap.size) (h : HoldsK encZ 2 w g 0 zs.toArray) : ZRow w g zs := by
  refine ⟨hg, fun j c hc => ?_⟩
  obtain ⟨hj, rfl⟩ := List.getElem?_eq_some_iff.1 hc
  have h0 := h.cell (i := j) (c := 0) (by simpa using hj) (by omega)
  have h1 := h.cell (i := j) (c := 1) (by simpa using hj) (by omega)
  have he : (zs.toArray)[j]! = zs[j] := by rw [getElem!_pos zs.toArray j (by simpa using hj)]; simp
  rw [he, Nat.zero_add] at h0 h1
  exact ⟨h0.1, h1.1, h0.2, h1.2⟩
/-- The order of a pattern's cells. -/
def leZ (x y : Int × Int) : Bool := !ltOf cfZ y x
def sortZ (zs : List (Int × Int)) : List (Int × Int) := zs.mergeSort leZ
theorem sort_any (g n : Nat) (zs : List (Int × Int)) (w : World) (h : ZRow w g zs) (hn : n = zs.length) (hl : n ≤ 20000) :
    Calls Tryz.prog 52 #[.slice (some ⟨g, 0, none⟩) n n, .func (.func 70) #[] #[]] w fun e w' => e = .returned (.tuple #[]) ∧ ZRow w' g (sortZ zs) ∧ Oth g w w' := by
  subst hn
  have eg : ∀ args w, (callFunc 70 args).run Tryz.prog w = .ok (.enter 70 args) w := enters_of Tryz.func70 (by kernel_rfl) rfl
  have hcon := AnyQ.slices_SortFunc_total Tryz.sortPt 2 Tryz.isAgg34 Tryz.sizeOf34 encZ (fun _ => rfl) (fun x v hv => by simp [encZ] at hv; rcases hv with rfl | rfl <;> rfl) cfZ swoZ 70 #[] g 0 zs.length zs.toArray w eg (fun _ _ _ _ x y => byRows_any x y _) (holds_of_row h) h.1 (by simp; omega) totZ
  have hsz : zs.toArray.size = zs.length := by simp
  rw [hsz] at hcon
  refine Calls.mono hcon ?_
  rintro e w' ⟨rfl, m, os, rfl⟩
  have hlen : (sortZ zs).toArray.size = zs.toArray.size := by simp [sortZ]
  have hk : HoldsK encZ 2 (sortWorldK encZ 2 w g 0 m (sortZ zs).toArray os) g 0 (sortZ zs).toArray := by
    unfold sortWorldK
    refine holdsK_grow encZ 2 _ os g 0 _ ?_ (holdsK_putRowK encZ 2 _ g 0 zs.toArray _ (holdsK_ahead encZ 2 w m g 0 _ (holds_of_row h)) hlen)
    have := h.1
    simpa [putRowK, putRow, mapBlock, ahead] using this
  refine ⟨rfl, row_of_holds ?_ hk, ⟨rfl, rfl, rfl, ?_, fun i hi => ?_⟩, fun i hi hne => ?_⟩
  · have := h.1
    simp [sortWorldK, grow, putRowK, putRow, mapBlock]; omega
  · simp [sortWorldK, grow, putRowK, putRow, mapBlock]
  · have := h.1
    show (_ ++ os)[i]? = _
    rw [Array.getElem?_append_left (by simp [putRowK, putRow, mapBlock]; omega)]
    simp [putRowK, putRow, mapBlock, Array.getElem?_modify, show ¬ g = i by omega]
  · show (_ ++ os)[i]? = _
    rw [Array.getElem?_append_left (by simp [putRowK, putRow, mapBlock]; omega)]
    simp [putRowK, putRow, mapBlock, Array.getElem?_modify, show ¬ g = i by omega]
end Go.Proofs.YtaapkngpnlnjeaaGreat
end

section
namespace Go.Proofs.YtaapkngpnlnjeaaGreat
open Go.RowKit Go.Shelf Go.Sort

def lexZ (x y : Int × Int) : Prop := x.2 < y.2 ∨ (x.2 = y.2 ∧ x.1 < y.1)
theorem lt_lex (x y : Int × Int) : ltOf cfZ x y = true ↔ lexZ x y := by rw [ltZ]; simp [lexZ]
theorem le_lex (x y : Int × Int) : leZ x y = true ↔ ¬ lexZ y x := by
  unfold leZ
  rw [← lt_lex]
  cases ltOf cfZ y x <;> simp
theorem sortZ_sorted (zs : List (Int × Int)) : (sortZ zs).Pairwise fun x y => ¬ lexZ y x := by
  have h := List.pairwise_mergeSort (le := leZ) (fun a b c h1 h2 => by
    rw [le_lex] at *; unfold lexZ at *; omega) (fun a b => by
    simp only [Bool.or_eq_true, le_lex]; unfold lexZ; omega) zs
  exact h.imp (fun h => (le_lex _ _).1 h)
theorem sortZ_mem (zs : List (Int × Int)) (x : Int × Int) : x ∈ sortZ zs ↔ x ∈ zs := (List.mergeSort_perm zs leZ).mem_iff
theorem cmpS_mem (n : Nat) : ∀ (l : List (Int × Int)), l.length ≤ n → ∀ x, x ∈ cmpS l ↔ x ∈ l := by
  induction n with
  | zero => intro l h x; rw [List.eq_nil_of_length_eq_zero (Nat.le_zero.1 h)]; exact Iff.rfl
  | succ n ih =>
    intro l h x
    rcases list_snoc l with rfl | ⟨i, y, rfl⟩
    · exact Iff.rfl
    · rw [List.length_append] at h
      have hi := ih i (by simp at h; omega)
      rw [cmpS_snoc]
      split
      · rename_i hy
        rw [hi x]
        constructor
        · intro h; exact List.mem_append_left _ h
        · intro h
          rcases List.mem_append.1 h with h | h
          · exact h
          · rw [List.mem_singleton.1 h]; exact (hi y).1 (List.mem_of_getLast? hy)
      · rw [List.mem_append, List.mem_append, hi x]
theorem cmpS_strict (n : Nat) : ∀ (l : List (Int × Int)), l.length ≤ n → (l.Pairwise fun x y => ¬ lexZ y x) → (cmpS l).Pairwise lexZ := by
  induction n with
  | zero => intro l h _; rw [List.eq_nil_of_length_eq_zero (Nat.le_zero.1 h)]; exact List.Pairwise.nil
  | succ n ih =>
    intro l h hs
    rcases list_snoc l with rfl | ⟨i, y, rfl⟩
    · exact List.Pairwise.nil
    · rw [List.length_append] at h
      have hil : i.length ≤ n := by simp at h; omega
      rw [List.pairwise_append] at hs
      have hc := ih i hil hs.1
      rw [cmpS_snoc]
      split
      · exact hc
      · rename_i hy
        rw [List.pairwise_append]
        refine ⟨hc, List.pairwise_singleton _ _, fun a ha b hb => ?_⟩
        rw [List.mem_singleton.1 hb]
        have h1 : ¬ lexZ y a := hs.2.2 a ((cmpS_mem n i hil a).1 ha) y (by simp)
        have hne : a ≠ y := by
          rintro rfl
          rcases list_snoc (cmpS i) with he | ⟨q, z, he⟩
          · rw [he] at ha; cases ha
          · rw [he, List.getLast?_concat] at hy
            rw [he] at ha hc
            have hz : ¬ lexZ a z := hs.2.2 z ((cmpS_mem n i hil z).1 (by rw [he]; simp)) a (by simp)
            rcases List.mem_append.1 ha with ha | ha
            · rw [List.pairwise_append] at hc
              exact hz (hc.2.2 a ha z (by simp))
            · exact hy (by rw [List.mem_singleton.1 ha])
        have : a.1 ≠ y.1 ∨ a.2 ≠ y.2 := by
          by_cases e1 : a.1 = y.1
          · exact Or.inr (fun e2 => hne (Prod.ext e1 e2))
          · exact Or.inl e1
        unfold lexZ at *
        omega
theorem nodup_le {α : Type} [DecidableEq α] : ∀ (a b : List α), a.Nodup → (∀ x, x ∈ a → x ∈ b) → a.length ≤ b.length
  | [], b, _, _ => Nat.zero_le _
  | x :: a, b, h, hs => by
    rw [List.nodup_cons] at h
    have h1 := nodup_le a (b.erase x) h.2 (fun y hy => (List.mem_erase_of_ne (fun e => h.1 (by rw [← e]; exact hy))).2 (hs y (by simp [hy])))
    have h2 := List.length_erase_of_mem (hs x (by simp))
    have h3 : 0 < b.length := List.length_pos_of_mem (hs x (by simp))
    simp only [List.length_cons]
    omega
theorem strict_nodup {l : List (Int × Int)} (h : l.Pairwise lexZ) : l.Nodup := by
  refine List.Pairwise.imp (fun {a b} hab => ?_) h
  rintro rfl
  unfold lexZ at hab
  omega

/-- A pattern's cells: points less a beginning, by rows, each once. -/
def cellsZ (zs : List (Int × Int)) (lo : Int × Int) : List (Int × Int) := cmpS (sortZ (zs.map fun c => (c.1 - lo.1, c.2 - lo.2)))
def cellsN (zs : List (Int × Int)) (lo : Int × Int) : List (Nat × Nat) := (cellsZ zs lo).map fun c => (c.1.toNat, c.2.toNat)
theorem cellsZ_mem (zs : List (Int × Int)) (lo c : Int × Int) : c ∈ cellsZ zs lo ↔ (lo.1 + c.1, lo.2 + c.2) ∈ zs := by
  unfold cellsZ
  rw [cmpS_mem _ _ (Nat.le_refl _), sortZ_mem, List.mem_map]
  constructor
  · rintro ⟨a, ha, rfl⟩
    have : (lo.1 + (a.1 - lo.1), lo.2 + (a.2 - lo.2)) = a := Prod.ext (by simp; omega) (by simp; omega)
    rw [this]; exact ha
  · intro h
    exact ⟨_, h, Prod.ext (by simp; omega) (by simp; omega)⟩
theorem cellsZ_strict (zs : List (Int × Int)) (lo : Int × Int) : (cellsZ zs lo).Pairwise lexZ := cmpS_strict _ _ (Nat.le_refl _) (sortZ_sorted _)
theorem cellsZ_len (zs : List (Int × Int)) (lo : Int × Int) : (cellsZ zs lo).length ≤ zs.length := by
  have := cmpS_len _ (sortZ (zs.map fun c => (c.1 - lo.1, c.2 - lo.2))) (Nat.le_refl _)
  unfold cellsZ
  simpa [sortZ] using this
/-- How many there are: as many as any list has that has each point once. -/
theorem cellsZ_count (zs ks : List (Int × Int)) (lo : Int × Int) (hn : ks.Nodup) (hm : ∀ x, x ∈ ks ↔ x ∈ zs) : (cellsZ zs lo).length = ks.length := by
  have e : ((cellsZ zs lo).map fun c => (lo.1 + c.1, lo.2 + c.2)).length = ks.length := by
    have hnd : ((cellsZ zs lo).map fun c => (lo.1 + c.1, lo.2 + c.2)).Nodup := by
      unfold List.Nodup
      rw [List.pairwise_map]
      refine List.Pairwise.imp (fun {a b} hab => ?_) (strict_nodup (cellsZ_strict zs lo))
      intro h
      simp only [Prod.mk.injEq] at h
      exact hab (Prod.ext (by omega) (by omega))
    have hmem : ∀ x, x ∈ ((cellsZ zs lo).map fun c => (lo.1 + c.1, lo.2 + c.2)) ↔ x ∈ ks := by
      intro x
      rw [List.mem_map, hm x]
      constructor
      · rintro ⟨a, ha, rfl⟩; exact (cellsZ_mem zs lo a).1 ha
      · intro h
        refine ⟨(x.1 - lo.1, x.2 - lo.2), (cellsZ_mem zs lo _).2 ?_, Prod.ext (by simp; omega) (by simp; omega)⟩
        have : (lo.1 + (x.1 - lo.1), lo.2 + (x.2 - lo.2)) = x := Prod.ext (by simp; omega) (by simp; omega)
        rw [this]; exact h
    exact Nat.le_antisymm (nodup_le _ _ hnd (fun x h => (hmem x).1 h)) (nodup_le _ _ hn (fun x h => (hmem x).2 h))
  simpa using e
theorem cellsN_zc (zs : List (Int × Int)) (lo : Int × Int) (hlo : ∀ c ∈ zs, lo.1 ≤ c.1 ∧ lo.2 ≤ c.2) : (cellsN zs lo).map zc = cellsZ zs lo := by
  unfold cellsN
  rw [List.map_map]
  have : ∀ c ∈ cellsZ zs lo, (zc ∘ fun c : Int × Int => (c.1.toNat, c.2.toNat)) c = c := by
    intro c hc
    obtain ⟨h1, h2⟩ := hlo _ ((cellsZ_mem zs lo c).1 hc)
    exact Prod.ext (by simp [zc]; omega) (by simp [zc]; omega)
  rw [List.map_congr_left this, List.map_id']
theorem ok_of_strict (W H : Nat) : ∀ (l : List (Int × Int)) (x y : Nat), l.Pairwise lexZ → (∀ c ∈ l, 0 ≤ c.1 ∧ c.1 < W ∧ 0 ≤ c.2 ∧ c.2 < H) → (∀ c ∈ l, (y : Int) < c.2 ∨ (c.2 = y ∧ (x : Int) ≤ c.1)) → okFrom W H x y (l.map fun c => (c.1.toNat, c.2.toNat))
  | [], _, _, _, _, _ => trivial
  | c :: r, x, y, hs, hb, hf => by
    rw [List.pairwise_cons] at hs
    have h1 := hb c (by simp)
    have h2 := hf c (by simp)
    refine ⟨?_, ?_, ?_, ok_of_strict W H r _ _ hs.2 (fun d hd => hb d (by simp [hd])) (fun d hd => ?_)⟩
    · simp only []; omega
    · simp only []; omega
    · simp only []; omega
    · have h3 := hs.1 d hd
      have h4 := hb d (by simp [hd])
      unfold lexZ at h3
      simp only []
      omega
end Go.Proofs.YtaapkngpnlnjeaaGreat
end
