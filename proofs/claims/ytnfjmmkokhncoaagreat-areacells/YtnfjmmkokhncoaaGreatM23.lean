-- M23
import Derived.Test.YtnfjmmkokhncoaaGreatM22
import Derived.Laws.MakeOwn
import Derived.Shelf.SlGeneric
import Derived.Shelf.SlSortCmp.NoneTotal
import Derived.Shelf.SlicesG.Cmp
import Derived.Ground.SlsfProg
import Derived.Ground.SlgcProg
import Derived.Test.YtnfjmmkokhncoaaGreatProg
section
namespace Go.Proofs.YtnfjmmkokhncoaaGreat
open Go.RowKit

/-! The least and the greatest of points -/
def loF (m c : Int × Int) : Int × Int := (min m.1 c.1, min m.2 c.2)
def hiF (m c : Int × Int) : Int × Int := (max m.1 c.1, max m.2 c.2)
theorem fold_next {f : Int × Int → Int × Int → Int × Int} {a : Int × Int} {l : List (Int × Int)} {j : Nat} {c : Int × Int} (h : l[j]? = some c) : (l.take (j + 1)).foldl f a = f ((l.take j).foldl f a) c := by
  rw [List.take_add_one, h, List.foldl_append]; rfl
/-- A point in a block of the call's own (whole numbers). -/
def PzAt (w : World) (b : Nat) (c : Int × Int) : Prop := w.heap[b]? = some (.cells #[.int .i64 c.1, .int .i64 c.2] 24 (0, 0))
theorem PzAt.cells {w : World} {b : Nat} {c : Int × Int} (h : PzAt w b c) : w.cell? ⟨b, 0, none⟩ = some (.int .i64 c.1) ∧ w.cell? ⟨b, 1, none⟩ = some (.int .i64 c.2) ∧ w.frozen? ⟨b, 0, none⟩ = false ∧ w.frozen? ⟨b, 1, none⟩ = false :=
  ⟨by rw [Lib.cell_of_heap h]; rfl, by rw [Lib.cell_of_heap h]; rfl, Lib.frozen_of_heap h 0, Lib.frozen_of_heap h 1⟩
theorem PzAt.lt {w : World} {b : Nat} {c : Int × Int} (h : PzAt w b c) : b < w.heap.size := (Array.getElem?_eq_some_iff.1 h).1
theorem PzAt.later {w w' : World} {b : Nat} {c : Int × Int} (h : PzAt w b c) (hb : Below w.heap.size w w') : PzAt w' b c := by
  unfold PzAt; rw [hb.block b h.lt]; exact h
theorem PzAt.oth {w w' : World} {b g : Nat} {c : Int × Int} (h : PzAt w b c) (ho : Oth g w w') (hne : b ≠ g) : PzAt w' b c := by
  unfold PzAt; rw [ho.2 b h.lt hne]; exact h
theorem PzAt.put {w : World} {b : Nat} {c : Int × Int} (h : PzAt w b c) (d : Int × Int) : PzAt ((w.setCell ⟨b, 0, none⟩ (.int .i64 d.1)).setCell ⟨b, 1, none⟩ (.int .i64 d.2)) b d := by
  unfold PzAt at h ⊢
  simp only [World.setCell, Array.getElem?_modify, h]
  simp
theorem PzAt.other {w : World} {b : Nat} {c : Int × Int} (h : PzAt w b c) (g : Nat) (hne : b ≠ g) (x y : Value) : PzAt ((w.setCell ⟨g, 0, none⟩ x).setCell ⟨g, 1, none⟩ y) b c := by
  unfold PzAt
  rw [Below.heap_setCell _ _ _ _ (fun e => hne e), Below.heap_setCell _ _ _ _ (fun e => hne e)]; exact h
theorem pz_new (w : World) (c : Int × Int) : PzAt (w.alloc (.cells #[.int .i64 c.1, .int .i64 c.2] 24)) w.heap.size c := heap_alloc_new w _
theorem min_if (a b : Int) : (if b < a then b else a) = min a b := by omega
theorem max_if (a b : Int) : (if a < b then b else a) = max a b := by omega

set_option maxRecDepth 100000 in
set_option maxHeartbeats 2000000 in
theorem ends_any (c : Int × Int) (r : List (Int × Int)) (a : Option Addr) (n cap : Nat) (w : World) (h : Pts w w.heap.size a (c :: r)) (hn : n = r.length + 1) (hl : n ≤ 1000000) :
    Calls Tryz.prog 48 #[.slice a n cap] w fun e w' => e = .returned (.tuple #[.agg #[.int .i64 ((c :: r).foldl loF c).1, .int .i64 ((c :: r).foldl loF c).2], .agg #[.int .i64 ((c :: r).foldl hiF c).1, .int .i64 ((c :: r).foldl hiF c).2]]) ∧ Below w.heap.size w w' := by
  obtain ⟨bk, off, rfl, hbk, x0, x1⟩ := h.at0
  have HP := Lib.hid h
  have HN := Lib.hid hn
  clear h hn
  obtain ⟨W0, hW0, hb0, hl0, hg0⟩ : ∃ W0, (w.alloc (.cells #[.int .i64 0, .int .i64 0] 24)).alloc (.cells #[.int .i64 0, .int .i64 0] 24) = W0 ∧ Below w.heap.size w W0 ∧ PzAt W0 w.heap.size (0, 0) ∧ PzAt W0 (w.heap.size + 1) (0, 0) := by
    refine ⟨_, rfl, by go_grown, (pz_new w (0, 0)).later (bel1 _ _), ?_⟩
    have := pz_new (w.alloc (.cells #[.int .i64 0, .int .i64 0] 24)) (0, 0)
    rw [World.size_alloc] at this
    exact this
  have HW0 := Lib.hid hW0
  have HB0 := Lib.hid hb0
  have HL0 := Lib.hid hl0
  have HG0 := Lib.hid hg0
  clear hW0 hb0 hl0 hg0
  have hi0 : (0 : Int) < (n : Int) := by have := HN.out; omega
  go_enter Tryz.func48, Tryz.ntmps48
  go_upto_region 1 with fail
  rw [HW0.out]
  have y0 : W0.cell? ⟨bk, off, none⟩ = some (.int .i64 c.1) := (HB0.out.cell (p := ⟨bk, off, none⟩) hbk).trans x0
  have y1 : W0.cell? ⟨bk, off + 1, none⟩ = some (.int .i64 c.2) := (HB0.out.cell (p := ⟨bk, off + 1, none⟩) hbk).trans x1
  obtain ⟨p0, p1, p2, p3⟩ := HL0.out.cells
  obtain ⟨q0, q1, q2, q3⟩ := HG0.out.cells
  have n1 : ¬ bk = w.heap.size := by omega
  have n2 : ¬ bk = w.heap.size + 1 := by omega
  go_cut [] from 6 to 11 (fun wx => PzAt wx w.heap.size c ∧ PzAt wx (w.heap.size + 1) c ∧ Below w.heap.size w wx)
  case first =>
    go_region
    all_goals go_wp2_with fail
    all_goals go_meet
    all_goals exact ⟨(HL0.out.put c).other (w.heap.size + 1) (by omega) _ _, (HG0.out.other w.heap.size (by omega) _ _).put c, ((((HB0.out.setCell (p := ⟨w.heap.size, 0, none⟩) (Nat.le_refl _) _).setCell (p := ⟨w.heap.size, 1, none⟩) (Nat.le_refl _) _).setCell (p := ⟨w.heap.size + 1, 0, none⟩) (Nat.le_succ _) _).setCell (p := ⟨w.heap.size + 1, 1, none⟩) (Nat.le_succ _) _).drew⟩
  case rest =>
  obtain ⟨h1, h2, h3⟩ := hcut
  have HL1 := Lib.hid h1
  have HG1 := Lib.hid h2
  have HB1 := Lib.hid h3
  clear h1 h2 h3 x0 x1 y0 y1 p0 p1 p2 p3 q0 q1 q2 q3 HL0 HG0 HB0 HW0 W0
  go_wp2_with fail
  go_loopg [5, 14] n (fun k pv i wr => ∃ j : Nat, k = n - j ∧ j ≤ n ∧ i = .int .i64 (j : Int) ∧ PzAt wr w.heap.size (((c :: r).take j).foldl loF c) ∧ PzAt wr (w.heap.size + 1) (((c :: r).take j).foldl hiF c) ∧ Below w.heap.size w wr)
  case atStart => exact ⟨0, rfl, by omega, rfl, HL1.out, HG1.out, HB1.out⟩
  case round =>
    obtain ⟨j, hk, hj, rfl, h1, h2, h3⟩ := hrel
    have HK := Lib.hid hk
    have HL := Lib.hid h1
    have HG := Lib.hid h2
    have HB := Lib.hid h3
    clear hk h1 h2 h3 HL1 HG1 HB1
    by_cases hlt : j < n
    · obtain ⟨d, hd⟩ : ∃ d, (c :: r)[j]? = some d := ⟨(c :: r)[j]'(by have := HN.out; simp; omega), List.getElem?_eq_getElem _⟩
      obtain ⟨x0, x1⟩ := (HP.out.later HB.out (Nat.le_refl _)).atj hd
      have HF1 := Lib.hid (fold_next (f := loF) (a := c) hd)
      have HF2 := Lib.hid (fold_next (f := hiF) (a := c) hd)
      have hg : decide ((j : Int) < (n : Int)) = true := by simp; omega
      have hi1 : (j : Int) < (n : Int) := by omega
      clear hd
      generalize ((c :: r).take j).foldl loF c = lo at *
      generalize ((c :: r).take j).foldl hiF c = hi at *
      go_upto_region 5 with fail
      have hbl := bel1 wr (.cells #[.int .i64 d.1, .int .i64 d.2] 24)
      have HL2 := Lib.hid (HL.out.later hbl)
      have HG2 := Lib.hid (HG.out.later hbl)
      have HD2 := Lib.hid (pz_new wr d)
      have HB2 := Lib.hid (HB.out.trans (hbl.mono HB.out.size))
      have hpl : w.heap.size + 1 < wr.heap.size := HG.out.lt
      clear hbl x0 x1 HL HG HB
      generalize wr.alloc (.cells #[.int .i64 d.1, .int .i64 d.2] 24) = w2 at *
      generalize hpb : wr.heap.size = pb at *
      clear hpb
      obtain ⟨a0, a1, a2, a3⟩ := HL2.out.cells
      obtain ⟨b0, b1, b2, b3⟩ := HD2.out.cells
      have hm1 := min_if lo.1 d.1
      have hm2 := min_if lo.2 d.2
      have n3 : ¬ w.heap.size = pb := by omega
      have n4 : ¬ w.heap.size + 1 = pb := by omega
      have n5 : ¬ w.heap.size = w.heap.size + 1 := by omega
      go_upto_region 6 with fail
      have HL3 : Hid (PzAt ((w2.setCell ⟨w.heap.size, 0, none⟩ (.int .i64 (min lo.1 d.1))).setCell ⟨w.heap.size, 1, none⟩ (.int .i64 (min lo.2 d.2))) w.heap.size (loF lo d)) := HL2.out.put (loF lo d)
      have HG3 : Hid (PzAt ((w2.setCell ⟨w.heap.size, 0, none⟩ (.int .i64 (min lo.1 d.1))).setCell ⟨w.heap.size, 1, none⟩ (.int .i64 (min lo.2 d.2))) (w.heap.size + 1) hi) := HG2.out.other w.heap.size (by omega) _ _
      have HD3 : Hid (PzAt ((w2.setCell ⟨w.heap.size, 0, none⟩ (.int .i64 (min lo.1 d.1))).setCell ⟨w.heap.size, 1, none⟩ (.int .i64 (min lo.2 d.2))) pb d) := HD2.out.other w.heap.size (by omega) _ _
      have HB3 : Hid (Below w.heap.size w ((w2.setCell ⟨w.heap.size, 0, none⟩ (.int .i64 (min lo.1 d.1))).setCell ⟨w.heap.size, 1, none⟩ (.int .i64 (min lo.2 d.2)))) := (HB2.out.setCell (p := ⟨w.heap.size, 0, none⟩) (Nat.le_refl _) _).setCell (p := ⟨w.heap.size, 1, none⟩) (Nat.le_refl _) _
      clear a0 a1 a2 a3 b0 b1 b2 b3 hm1 hm2 HL2 HG2 HD2 HB2
      generalize ((w2.setCell ⟨w.heap.size, 0, none⟩ (.int .i64 (min lo.1 d.1))).setCell ⟨w.heap.size, 1, none⟩ (.int .i64 (min lo.2 d.2))) = w3 at *
      obtain ⟨a0, a1, a2, a3⟩ := HG3.out.cells
      obtain ⟨b0, b1, b2, b3⟩ := HD3.out.cells
      have hm1 := max_if hi.1 d.1
      have hm2 := max_if hi.2 d.2
      have HL4 : Hid (PzAt ((w3.setCell ⟨w.heap.size + 1, 0, none⟩ (.int .i64 (max hi.1 d.1))).setCell ⟨w.heap.size + 1, 1, none⟩ (.int .i64 (max hi.2 d.2))) w.heap.size (loF lo d)) := HL3.out.other (w.heap.size + 1) (by omega) _ _
      have HG4 : Hid (PzAt ((w3.setCell ⟨w.heap.size + 1, 0, none⟩ (.int .i64 (max hi.1 d.1))).setCell ⟨w.heap.size + 1, 1, none⟩ (.int .i64 (max hi.2 d.2))) (w.heap.size + 1) (hiF hi d)) := HG3.out.put (hiF hi d)
      have HB4 : Hid (Below w.heap.size w ((w3.setCell ⟨w.heap.size + 1, 0, none⟩ (.int .i64 (max hi.1 d.1))).setCell ⟨w.heap.size + 1, 1, none⟩ (.int .i64 (max hi.2 d.2)))) := (HB3.out.setCell (p := ⟨w.heap.size + 1, 0, none⟩) (Nat.le_succ _) _).setCell (p := ⟨w.heap.size + 1, 1, none⟩) (Nat.le_succ _) _
      go_wp2_with fail
      go_roundg (n - (j + 1))
      case measure => rw [HK.out]; omega
      case rel => exact ⟨j + 1, rfl, hlt, by go_num, by rw [HF1.out]; exact HL4.out, by rw [HF2.out]; exact HG4.out, HB4.out⟩
    · have hje : (c :: r).take j = c :: r := List.take_of_length_le (by have := HN.out; simp; omega)
      have hg : decide ((j : Int) < (n : Int)) = false := by simp; omega
      rw [hje] at HL HG
      obtain ⟨a0, a1, a2, a3⟩ := HL.out.cells
      obtain ⟨b0, b1, b2, b3⟩ := HG.out.cells
      generalize hlo : (c :: r).foldl loF c = lo at *
      generalize hhi : (c :: r).foldl hiF c = hi at *
      have HLO := Lib.hid hlo
      have HHI := Lib.hid hhi
      clear hlo hhi
      have n5 : ¬ w.heap.size = w.heap.size + 1 := by omega
      go_wp2_with fail
      go_region
      all_goals go_wp2_with fail
      have HL4 : Hid (PzAt ((((wr.setCell ⟨w.heap.size, 0, none⟩ (.int .i64 lo.1)).setCell ⟨w.heap.size, 1, none⟩ (.int .i64 lo.2)).setCell ⟨w.heap.size + 1, 0, none⟩ (.int .i64 hi.1)).setCell ⟨w.heap.size + 1, 1, none⟩ (.int .i64 hi.2)).drew w.heap.size lo) := (HL.out.put lo).other _ (by omega) _ _
      have HG4 : Hid (PzAt ((((wr.setCell ⟨w.heap.size, 0, none⟩ (.int .i64 lo.1)).setCell ⟨w.heap.size, 1, none⟩ (.int .i64 lo.2)).setCell ⟨w.heap.size + 1, 0, none⟩ (.int .i64 hi.1)).setCell ⟨w.heap.size + 1, 1, none⟩ (.int .i64 hi.2)).drew (w.heap.size + 1) hi) := (HG.out.other _ (by omega) _ _).put hi
      have HB4 : Hid (Below w.heap.size w ((((wr.setCell ⟨w.heap.size, 0, none⟩ (.int .i64 lo.1)).setCell ⟨w.heap.size, 1, none⟩ (.int .i64 lo.2)).setCell ⟨w.heap.size + 1, 0, none⟩ (.int .i64 hi.1)).setCell ⟨w.heap.size + 1, 1, none⟩ (.int .i64 hi.2)).drew) := ((((HB.out.setCell (p := ⟨w.heap.size, 0, none⟩) (Nat.le_refl _) _).setCell (p := ⟨w.heap.size, 1, none⟩) (Nat.le_refl _) _).setCell (p := ⟨w.heap.size + 1, 0, none⟩) (Nat.le_succ _) _).setCell (p := ⟨w.heap.size + 1, 1, none⟩) (Nat.le_succ _) _).drew
      generalize ((((wr.setCell ⟨w.heap.size, 0, none⟩ (.int .i64 lo.1)).setCell ⟨w.heap.size, 1, none⟩ (.int .i64 lo.2)).setCell ⟨w.heap.size + 1, 0, none⟩ (.int .i64 hi.1)).setCell ⟨w.heap.size + 1, 1, none⟩ (.int .i64 hi.2)).drew = w4 at *
      obtain ⟨q0, q1, _⟩ := HL4.out.cells
      obtain ⟨r0, r1, _⟩ := HG4.out.cells
      refine bodyPost_ret (v := _) (by simp [results, Tryz.results48, go_sem, q0, q1, r0, r1]; rfl) rfl ?_
      exact ⟨by rw [HLO.out, HHI.out], HB4.out⟩

theorem side_u64 (l g : Int) (hl0 : -9223372036854775808 ≤ l) (hl : l ≤ 9223372036854775807) (hg0 : -9223372036854775808 ≤ g) (hg : g ≤ 9223372036854775807) (hlg : l ≤ g) : IntKind.u64.wrap (IntKind.u64.wrap g - IntKind.u64.wrap l) = g - l := by
  have : IntKind.u64.wrap = fun n => n % 18446744073709551616 := rfl
  rw [this]
  simp only []
  omega
set_option maxRecDepth 100000 in
theorem isSide_any (l g : Int) (w : World) (hl0 : -9223372036854775808 ≤ l) (hl : l ≤ 9223372036854775807) (hg0 : -9223372036854775808 ≤ g) (hg : g ≤ 9223372036854775807) (hlg : l ≤ g) :
    Calls Tryz.prog 49 #[.int .i64 l, .int .i64 g] w fun e w' => e = .returned (.bool (decide (g - l < 1024))) ∧ w = w' := by
  have hw := side_u64 l g hl0 hl hg0 hg hlg
  go_enter Tryz.func49, Tryz.ntmps49
  go_wp2_with fail
  go_ret
  exact ⟨rfl, rfl⟩

theorem made_zero (n : Nat) : ∀ i, i < n * 2 → (madeCells #[Value.int .i64 0, .int .i64 0] (n * 2))[i]? = some (.int .i64 0) := by
  intro i hi
  have hlt : i % 2 < 2 := Nat.mod_lt _ (by omega)
  simp [madeCells, hi]
  generalize i % 2 = m at *
  match m, hlt with
  | 0, _ => rfl
  | 1, _ => rfl
set_option maxRecDepth 100000 in
set_option maxHeartbeats 2000000 in
theorem less_any (zs : List (Int × Int)) (b : Int × Int) (a : Option Addr) (n cap : Nat) (w : World) (h : Pts w w.heap.size a zs) (hn : n = zs.length) (h0 : 0 < n) (hl : n ≤ 20000) (hfit : ∀ c ∈ zs, -9223372036854775808 ≤ c.1 - b.1 ∧ c.1 - b.1 ≤ 9223372036854775807 ∧ -9223372036854775808 ≤ c.2 - b.2 ∧ c.2 - b.2 ≤ 9223372036854775807) :
    Calls Tryz.prog 50 #[.slice a n cap, .agg #[.int .i64 b.1, .int .i64 b.2]] w fun e w' => ∃ g, e = .returned (.slice (some ⟨g, 0, none⟩) n n) ∧ w.heap.size ≤ g ∧ ZRow w' g (zs.map fun c => (c.1 - b.1, c.2 - b.2)) ∧ Below w.heap.size w w' := by
  have HP := Lib.hid h
  have HN := Lib.hid hn
  have HFIT := Lib.hid hfit
  obtain ⟨i0, hi, hz0, hz1, hz2⟩ := info_parts Tryz.infoPt
  have hmk : ∀ (W : World), (Instr.makeSlice 36 (.int .i64 (n : Int)) (.int .i64 (n : Int))).run Tryz.prog W = .ok (.slice (some ⟨W.heap.size, 0, none⟩) n n) (W.alloc (.cells (madeCells #[.int .i64 0, .int .i64 0] (n * 2)) 24)) := fun W => by
    have := run_make (P := Tryz.prog) W 36 24 i0 (.agg #[.int .i64 0, .int .i64 0]) Tryz.underlying36 hi hz0 .i64 .i64 (n : Int) (n : Int) (by omega) (by omega) (by rw [hz2]; omega) (by omega)
    simpa [hz1, Value.cells] using this
  clear h hn hi hz0 hz1 hz2 hfit
  obtain ⟨bk, off, rfl, hbk⟩ : ∃ bk off, a = some ⟨bk, off, none⟩ ∧ bk < w.heap.size := by
    obtain ⟨bk, off, h1, h2, _⟩ := HP.out 0 zs[0] (List.getElem?_eq_getElem (by have := HN.out; omega))
    exact ⟨bk, off, h1, h2⟩
  obtain ⟨W0, hW0, hb0, hp0, hz0⟩ : ∃ W0, (w.alloc (.cells #[.int .i64 b.1, .int .i64 b.2] 24)).alloc (.cells (madeCells #[.int .i64 0, .int .i64 0] (n * 2)) 24) = W0 ∧ Below w.heap.size w W0 ∧ PzAt W0 w.heap.size b ∧ ZRow W0 (w.heap.size + 1) (List.replicate n (0, 0)) := by
    refine ⟨_, rfl, by go_grown, (pz_new w b).later (bel1 _ _), by simp, fun j c hc => ?_⟩
    have hh := heap_alloc_new (w.alloc (.cells #[.int .i64 b.1, .int .i64 b.2] 24)) (.cells (madeCells #[.int .i64 0, .int .i64 0] (n * 2)) 24)
    rw [World.size_alloc] at hh
    have hj : j < n := by have := (List.getElem?_eq_some_iff.1 hc).1; simpa using this
    obtain rfl : (0, 0) = c := by
      have := (List.getElem?_eq_some_iff.1 hc).2
      simpa using this
    have hm : ∀ i, i < n * 2 → (madeCells #[Value.int .i64 0, .int .i64 0] (n * 2))[i]? = some (.int .i64 0) := made_zero n
    exact ⟨by rw [Lib.cell_of_heap hh]; exact hm _ (by omega), by rw [Lib.cell_of_heap hh]; exact hm _ (by omega), Lib.frozen_of_heap hh _, Lib.frozen_of_heap hh _⟩
  have HW0 := Lib.hid hW0
  have HB0 := Lib.hid hb0
  have HP0 := Lib.hid hp0
  have HZ0 := Lib.hid hz0
  clear hW0 hb0 hp0 hz0
  go_enter Tryz.func50, Tryz.ntmps50
  go_wp2_with fail
  rw [HW0.out]
  clear hmk
  go_loopg [6, 7, 13] n (fun k u v i wr => ∃ j : Nat, k = n - j ∧ j ≤ n ∧ i = .int .i64 (j : Int) ∧ ZRow wr (w.heap.size + 1) ((zs.take j).map (fun c => (c.1 - b.1, c.2 - b.2)) ++ List.replicate (n - j) (0, 0)) ∧ PzAt wr w.heap.size b ∧ Below w.heap.size w wr)
  case atStart => exact ⟨0, rfl, by omega, rfl, HZ0.out, HP0.out, HB0.out⟩
  case round =>
    obtain ⟨j, hk, hj, rfl, h1, h2, h3⟩ := hrel
    have HK := Lib.hid hk
    have HZ := Lib.hid h1
    have HPB := Lib.hid h2
    have HB := Lib.hid h3
    clear hk h1 h2 h3 HZ0 HP0 HB0
    by_cases hlt : j < n
    · obtain ⟨d, hd⟩ : ∃ d, zs[j]? = some d := ⟨zs[j]'(by have := HN.out; omega), List.getElem?_eq_getElem _⟩
      obtain ⟨x0, x1⟩ := (HP.out.later HB.out (Nat.le_refl _)).atj hd
      obtain ⟨v1, v2, v3, v4⟩ := HFIT.out d (List.mem_of_getElem? hd)
      have hg : decide ((j : Int) < (n : Int)) = true := by simp; omega
      have hi1 : (j : Int) < (n : Int) := by omega
      have hlen : ((zs.take j).map (fun c => (c.1 - b.1, c.2 - b.2))).length = j := by rw [List.length_map, List.length_take]; have := HN.out; omega
      have HNX : Hid (((zs.take j).map (fun c => (c.1 - b.1, c.2 - b.2)) ++ List.replicate (n - j) ((0 : Int), (0 : Int))).set j (d.1 - b.1, d.2 - b.2) = (zs.take (j + 1)).map (fun c => (c.1 - b.1, c.2 - b.2)) ++ List.replicate (n - (j + 1)) (0, 0)) := by
        show _ = _
        rw [List.set_append_right _ _ (by omega), hlen, Nat.sub_self, List.take_add_one, hd, List.map_append, List.append_assoc]
        congr 1
        rw [show n - j = (n - (j + 1)) + 1 by omega, List.replicate_succ]
        rfl
      have hjl : j < ((zs.take j).map (fun c => (c.1 - b.1, c.2 - b.2)) ++ List.replicate (n - j) ((0 : Int), (0 : Int))).length := by rw [List.length_append, hlen, List.length_replicate]; omega
      clear hd hlen
      generalize ((zs.take j).map (fun c => (c.1 - b.1, c.2 - b.2)) ++ List.replicate (n - j) ((0 : Int), (0 : Int))) = M at *
      go_upto_region 5 with fail
      have hbl := bel1 wr (.cells #[.int .i64 d.1, .int .i64 d.2] 24)
      have HZ2 := Lib.hid (HZ.out.later hbl)
      have HP2 := Lib.hid (HPB.out.later hbl)
      have HD2 := Lib.hid (pz_new wr d)
      have HB2 := Lib.hid (HB.out.trans (hbl.mono HB.out.size))
      have hpl : w.heap.size + 1 < wr.heap.size := HZ.out.1
      clear hbl x0 x1 HZ HPB HB
      generalize wr.alloc (.cells #[.int .i64 d.1, .int .i64 d.2] 24) = w2 at *
      generalize hpb : wr.heap.size = pb at *
      clear hpb
      obtain ⟨a0, a1, _⟩ := HP2.out.cells
      obtain ⟨b0, b1, _⟩ := HD2.out.cells
      obtain ⟨z0, z1, z2, z3⟩ := HZ2.out.2 j _ (List.getElem?_eq_getElem hjl)
      have hw1 : IntKind.i64.wrap (d.1 - b.1) = d.1 - b.1 := IntWalk.i64_in _ ⟨v1, v2⟩
      have hw2 : IntKind.i64.wrap (d.2 - b.2) = d.2 - b.2 := IntWalk.i64_in _ ⟨v3, v4⟩
      have HZ3 : Hid (ZRow ((w2.setCell ⟨w.heap.size + 1, j * 2, none⟩ (.int .i64 (d.1 - b.1))).setCell ⟨w.heap.size + 1, j * 2 + 1, none⟩ (.int .i64 (d.2 - b.2))) (w.heap.size + 1) (M.set j (d.1 - b.1, d.2 - b.2))) := HZ2.out.set j (d.1 - b.1, d.2 - b.2) hjl
      have HP3 : Hid (PzAt ((w2.setCell ⟨w.heap.size + 1, j * 2, none⟩ (.int .i64 (d.1 - b.1))).setCell ⟨w.heap.size + 1, j * 2 + 1, none⟩ (.int .i64 (d.2 - b.2))) w.heap.size b) := by
        show PzAt _ _ _
        unfold PzAt
        rw [Below.heap_setCell _ _ _ _ (fun e => by simp at e), Below.heap_setCell _ _ _ _ (fun e => by simp at e)]; exact HP2.out
      have HB3 : Hid (Below w.heap.size w ((w2.setCell ⟨w.heap.size + 1, j * 2, none⟩ (.int .i64 (d.1 - b.1))).setCell ⟨w.heap.size + 1, j * 2 + 1, none⟩ (.int .i64 (d.2 - b.2)))) := (HB2.out.setCell (p := ⟨w.heap.size + 1, j * 2, none⟩) (Nat.le_succ _) _).setCell (p := ⟨w.heap.size + 1, j * 2 + 1, none⟩) (Nat.le_succ _) _
      go_wp2_with fail
      go_roundg (n - (j + 1))
      case measure => rw [HK.out]; omega
      case rel => exact ⟨j + 1, rfl, hlt, by go_num, by rw [← HNX.out]; exact HZ3.out, HP3.out, HB3.out⟩
    · have hje : zs.take j = zs := List.take_of_length_le (by have := HN.out; omega)
      have hg : decide ((j : Int) < (n : Int)) = false := by simp; omega
      rw [hje, show n - j = 0 by omega, List.replicate_zero, List.append_nil] at HZ
      go_wp2_with fail
      go_ret
      exact ⟨_, rfl, Nat.le_succ _, HZ.out, HB.out⟩
end Go.Proofs.YtnfjmmkokhncoaaGreat
end

section
namespace Go.Proofs
open Go.Shelf
def Tryz.sortPt_ren : Go.Shelf.Ren := ⟨fun | 6 => 37 | 15 => 67 | 14 => 66 | 28 => 88 | 29 => 89 | 20 => 80 | 21 => 81 | 22 => 82 | 23 => 83 | 24 => 84 | 25 => 85 | 26 => 86 | 27 => 87 | 46 => 97 | 47 => 98 | 48 => 99 | 49 => 100 | 50 => 101 | 57 => 104 | n => n, fun | 22 => 36 | 24 => 24 | 25 => 87 | 3 => 3 | 39 => 130 | 0 => 0 | 53 => 29 | 55 => 59 | 4 => 4 | 46 => 149 | 45 => 148 | 50 => 153 | 5 => 5 | 9 => 9 | 66 => 165 | 70 => 169 | 76 => 184 | 77 => 185 | n => n, fun | n => n⟩
theorem Tryz.sortPt : Go.Proofs.SlLaysF0.n6 Tryz.prog Tryz.sortPt_ren := {
  mixed := by kernel_rfl
  f6 := ⟨Tryz.f37.name, by decide, Tryz.func37.trans (congrArg some (by kernel_rfl))⟩
  f14 := ⟨Tryz.f66.name, by decide, Tryz.func66.trans (congrArg some (by kernel_rfl))⟩
  f15 := Tryz.func67.trans (congrArg some (by kernel_rfl))
  f20 := ⟨Tryz.f80.name, by decide, Tryz.func80.trans (congrArg some (by kernel_rfl))⟩
  f21 := ⟨Tryz.f81.name, by decide, Tryz.func81.trans (congrArg some (by kernel_rfl))⟩
  f22 := ⟨Tryz.f82.name, by decide, Tryz.func82.trans (congrArg some (by kernel_rfl))⟩
  f23 := ⟨Tryz.f83.name, by decide, Tryz.func83.trans (congrArg some (by kernel_rfl))⟩
  f24 := ⟨Tryz.f84.name, by decide, Tryz.func84.trans (congrArg some (by kernel_rfl))⟩
  f25 := ⟨Tryz.f85.name, by decide, Tryz.func85.trans (congrArg some (by kernel_rfl))⟩
  f26 := ⟨Tryz.f86.name, by decide, Tryz.func86.trans (congrArg some (by kernel_rfl))⟩
  f27 := ⟨Tryz.f87.name, by decide, Tryz.func87.trans (congrArg some (by kernel_rfl))⟩
  f28 := Tryz.func88.trans (congrArg some (by kernel_rfl))
  f29 := Tryz.func89.trans (congrArg some (by kernel_rfl))
  f46 := ⟨Tryz.f97.name, by decide, Tryz.func97.trans (congrArg some (by kernel_rfl))⟩
  f47 := Tryz.func98.trans (congrArg some (by kernel_rfl))
  f48 := Tryz.func99.trans (congrArg some (by kernel_rfl))
  f49 := ⟨Tryz.f100.name, by decide, Tryz.func100.trans (congrArg some (by kernel_rfl))⟩
  f50 := ⟨Tryz.f101.name, by decide, Tryz.func101.trans (congrArg some (by kernel_rfl))⟩
  f57 := ⟨Tryz.f104.name, by decide, Tryz.func104.trans (congrArg some (by kernel_rfl))⟩
  t0 := Tryz.underlying0
  a0 := Tryz.isAgg0
  z0 := Tryz.sizeOf0
  v0 := Tryz.zeroValue0
  t3 := Tryz.underlying3
  a3 := Tryz.isAgg3
  z3 := Tryz.sizeOf3
  v3 := Tryz.zeroValue3
  t4 := Tryz.underlying4
  a4 := Tryz.isAgg4
  z4 := Tryz.sizeOf4
  v4 := Tryz.zeroValue4
  t5 := Tryz.underlying5
  a5 := Tryz.isAgg5
  z5 := Tryz.sizeOf5
  v5 := Tryz.zeroValue5
  t9 := Tryz.underlying9
  a9 := Tryz.isAgg9
  z9 := Tryz.sizeOf9
  v9 := Tryz.zeroValue9
  t22 := Tryz.underlying36
  a22 := Tryz.isAgg36
  z22 := Tryz.sizeOf36
  v22 := Tryz.zeroValue36
  t25 := Tryz.underlying87
  a25 := Tryz.isAgg87
  z25 := Tryz.sizeOf87
  v25 := Tryz.zeroValue87
  t39 := Tryz.underlying130
  a39 := Tryz.isAgg130
  z39 := Tryz.sizeOf130
  v39 := Tryz.zeroValue130
  t45 := Tryz.underlying148
  a45 := Tryz.isAgg148
  z45 := Tryz.sizeOf148
  v45 := Tryz.zeroValue148
  t46 := Tryz.underlying149
  a46 := Tryz.isAgg149
  z46 := Tryz.sizeOf149
  v46 := Tryz.zeroValue149
  t50 := Tryz.underlying153
  a50 := Tryz.isAgg153
  z50 := Tryz.sizeOf153
  v50 := Tryz.zeroValue153
  t53 := Tryz.underlying29
  a53 := Tryz.isAgg29
  z53 := Tryz.sizeOf29
  v53 := Tryz.zeroValue29
  t55 := Tryz.underlying59
  a55 := Tryz.isAgg59
  z55 := Tryz.sizeOf59
  v55 := Tryz.zeroValue59
  t66 := Tryz.underlying165
  a66 := Tryz.isAgg165
  z66 := Tryz.sizeOf165
  v66 := Tryz.zeroValue165
  t70 := Tryz.underlying169
  a70 := Tryz.isAgg169
  z70 := Tryz.sizeOf169
  v70 := Tryz.zeroValue169
  t76 := Tryz.underlying184
  a76 := Tryz.isAgg184
  z76 := Tryz.sizeOf184
  v76 := Tryz.zeroValue184
  t77 := Tryz.underlying185
  a77 := Tryz.isAgg185
  z77 := Tryz.sizeOf185
  v77 := Tryz.zeroValue185 }
def Tryz.cmpI64_ren : Go.Shelf.Ren := ⟨fun | 5 => 69 | 7 => 90 | n => n, fun | 22 => 2 | 3 => 3 | 4 => 4 | n => n, fun | n => n⟩
theorem Tryz.cmpI64 : Go.Proofs.SlLaysC2.n5 Tryz.prog Tryz.cmpI64_ren := {
  mixed := by kernel_rfl
  f5 := ⟨Tryz.f69.name, by decide, Tryz.func69.trans (congrArg some (by kernel_rfl))⟩
  f7 := ⟨Tryz.f90.name, by decide, Tryz.func90.trans (congrArg some (by kernel_rfl))⟩
  t3 := Tryz.underlying3
  a3 := Tryz.isAgg3
  z3 := Tryz.sizeOf3
  v3 := Tryz.zeroValue3
  t4 := Tryz.underlying4
  a4 := Tryz.isAgg4
  z4 := Tryz.sizeOf4
  v4 := Tryz.zeroValue4
  t22 := Tryz.underlying2
  a22 := Tryz.isAgg2
  z22 := Tryz.sizeOf2
  v22 := Tryz.zeroValue2 }
end Go.Proofs
end

section
namespace Go.Proofs.YtnfjmmkokhncoaaGreat
open Go.RowKit Go.Shelf Go.Sort

/-- How byRows compares. -/
def cfZ (x y : Int × Int) : Int := if Lib.compareInt x.2 y.2 = 0 then Lib.compareInt x.1 y.1 else Lib.compareInt x.2 y.2
theorem ltZ (x y : Int × Int) : ltOf cfZ x y = (decide (x.2 < y.2) || (decide (x.2 = y.2) && decide (x.1 < y.1))) := by
  unfold ltOf cfZ Lib.compareInt
  by_cases h1 : x.2 < y.2
  · simp [h1]
  · by_cases h2 : y.2 < x.2
    · have : ¬ x.2 = y.2 := by omega
      simp [h1, h2, this]
    · have h3 : x.2 = y.2 := by omega
      by_cases h4 : x.1 < y.1
      · simp [h3, h4]
      · by_cases h5 : y.1 < x.1 <;> simp [h3, h4, h5]
theorem swoZ : SWO (ltOf cfZ) where
  irrefl x := by rw [ltZ]; simp
  trans x y z h1 h2 := by rw [ltZ] at *; simp at *; omega
  ntrans x y z h1 h2 := by rw [ltZ] at *; simp at *; omega
theorem totZ (x y : Int × Int) (h1 : ltOf cfZ x y = false) (h2 : ltOf cfZ y x = false) : x = y := by
  rw [ltZ] at *
  simp at *
  exact Prod.ext (by omega) (by omega)

set_option maxRecDepth 100000 in
set_option maxHeartbeats 1000000 in
theorem or_ints (a b : Int) (nb : Nat) (w : World) (h0 : w.cell? ⟨nb, 0, none⟩ = some (.int .i64 a)) (h1 : w.cell? ⟨nb, 1, none⟩ = some (.int .i64 b)) :
    Calls Tryz.prog 68 #[.slice (some ⟨nb, 0, none⟩) 2 2] w fun e w' => e = .returned (.int .i64 (if a = 0 then b else a)) ∧ w = w' := by
  go_enter Tryz.func68, Tryz.ntmps68
  go_wp2_with fail
  go_loopg [5, 8] 2 (fun k v i wr => ∃ j : Nat, k = 2 - j ∧ j ≤ 2 ∧ i = .int .i64 (j : Int) ∧ (1 ≤ j → a = 0) ∧ (2 ≤ j → b = 0) ∧ wr = w)
  case atStart => exact ⟨0, rfl, by omega, rfl, by omega, by omega, rfl⟩
  case round =>
    obtain ⟨j, hk, hj, rfl, ha, hb, rfl⟩ := hrel
    have HK := Lib.hid hk
    clear hk
    match j, hj, ha, hb, HK with
    | 0, _, _, _, HK =>
      by_cases hz : a = 0
      · subst hz
        go_wp2_with fail
        go_roundg 1
        case measure => rw [HK.out]; omega
        case rel => exact ⟨1, rfl, by omega, rfl, by simp, by simp, rfl⟩
      · have hq : (a == 0) = false := by rw [beq_eq_false_iff_ne]; exact hz
        have hq2 : (a != 0) = true := by rw [bne, hq]; rfl
        have HZ := Lib.hid hz
        clear hz
        go_wp2_with fail
        go_ret
        exact ⟨rfl, rfl⟩
    | 1, _, ha, _, HK =>
      have hz := ha (by omega)
      subst hz
      by_cases hz : b = 0
      · subst hz
        go_wp2_with fail
        go_roundg 0
        case measure => rw [HK.out]; omega
        case rel => exact ⟨2, rfl, by omega, rfl, by simp, by simp, rfl⟩
      · have hq : (b == 0) = false := by rw [beq_eq_false_iff_ne]; exact hz
        have hq2 : (b != 0) = true := by rw [bne, hq]; rfl
        clear hz
        go_wp2_with fail
        go_ret
        exact ⟨rfl, rfl⟩
    | 2, _, ha, hb, HK =>
      have hz := ha (by omega)
      have hz2 := hb (by omega)
      subst hz hz2
      go_wp2_with fail
      go_ret
      exact ⟨rfl, rfl⟩

set_option maxRecDepth 100000 in
set_option maxHeartbeats 2000000 in
theorem byRows_any (x y : Int × Int) (W : World) :
    Calls Tryz.prog 51 #[.agg #[.int .i64 x.1, .int .i64 x.2], .agg #[.int .i64 y.1, .int .i64 y.2]] W fun e w' => e = .returned (.int .i64 (cfZ x y)) ∧ ∃ q os', w' = grow (W.drewN q) os' := by
  have HC : Hid (∀ p q W', Calls Tryz.prog 69 #[.int .i64 p, .int .i64 q] W' fun e w' => e = .returned (.int .i64 (Lib.compareInt p q)) ∧ W' = w') := fun p q W' => (AnyG.cmp_Compare_int Tryz.cmpI64 p q W').mono fun _ _ ⟨h, e⟩ => ⟨h, e.symm⟩
  have HR : Hid (cfZ x y = if Lib.compareInt x.2 y.2 = 0 then Lib.compareInt x.1 y.1 else Lib.compareInt x.2 y.2) := rfl
  obtain ⟨W0, hW0, hx0, hy0⟩ : ∃ W0, (W.alloc (.cells #[.int .i64 x.1, .int .i64 x.2] 24)).alloc (.cells #[.int .i64 y.1, .int .i64 y.2] 24) = W0 ∧ PzAt W0 W.heap.size x ∧ PzAt W0 (W.heap.size + 1) y := by
    refine ⟨_, rfl, (pz_new W x).later (bel1 _ _), ?_⟩
    have := pz_new (W.alloc (.cells #[.int .i64 x.1, .int .i64 x.2] 24)) y
    rw [World.size_alloc] at this
    exact this
  have HW0 := Lib.hid hW0
  have HX := Lib.hid hx0
  have HY := Lib.hid hy0
  clear hW0 hx0 hy0
  go_enter Tryz.func51, Tryz.ntmps51
  go_upto_region 1 with fail
  rw [HW0.out]
  obtain ⟨a0, a1, _⟩ := HX.out.cells
  obtain ⟨b0, b1, _⟩ := HY.out.cells
  have HOR : Hid (∀ W' nb, W'.cell? ⟨nb, 0, none⟩ = some (.int .i64 (Lib.compareInt x.2 y.2)) → W'.cell? ⟨nb, 1, none⟩ = some (.int .i64 (Lib.compareInt x.1 y.1)) → Calls Tryz.prog 68 #[.slice (some ⟨nb, 0, none⟩) 2 2] W' fun e w' => e = .returned (.int .i64 (cfZ x y)) ∧ W' = w') := fun W' nb h0 h1 => or_ints _ _ nb W' h0 h1
  generalize hzz : cfZ x y = z at *
  have HZZ := Lib.hid hzz
  clear hzz
  go_region_held3 (fun w' => w'.cell? ⟨W.heap.size, 0, none⟩ = some (.int .i64 x.1) ∧ w'.cell? ⟨W.heap.size, 1, none⟩ = some (.int .i64 x.2) ∧ w'.cell? ⟨W.heap.size + 1, 0, none⟩ = some (.int .i64 y.1) ∧ w'.cell? ⟨W.heap.size + 1, 1, none⟩ = some (.int .i64 y.2)) (go_keep) (first
    | (go_at_call 69; refine (HC.out _ _ _).mono ?_; rintro e w' ⟨rfl, rfl⟩)
    | (go_at_call 68; refine (HOR.out _ _ ?_ ?_).mono ?_; (focus (simp; done)); (focus (simp; done)); rintro e w' ⟨rfl, rfl⟩))
  all_goals go_wp2_with fail
  go_ret
  refine ⟨by rw [HZZ.out]; rfl, 1, #[.cells #[.int .i64 x.1, .int .i64 x.2] 24, .cells #[.int .i64 y.1, .int .i64 y.2] 24, .cells #[.int .i64 (Lib.compareInt x.2 y.2), .int .i64 (Lib.compareInt x.1 y.1)] 3], ?_⟩
  rw [← HW0.out, alloc_eq_grow, alloc_eq_grow, alloc_eq_grow, grow_grow, grow_grow]
  rfl

/-! The row, sorted -/
def encZ (x : Int × Int) : List Value := [.int .i64 x.1, .int .i64 x.2]
theorem holds_of_row {w : World} {g : Nat} {zs : List (Int × Int)} (h : ZRow w g zs) : HoldsK encZ 2 w g 0 zs.toArray := by
  intro t ht
  rw [size_flatK] at ht
  have ht' : t < zs.length * 2 := by simpa using ht
  rw [get_flatK _ _ _ _ ht, Nat.zero_add]
  obtain ⟨a1, a2, a3, a4⟩ := h.2 (t / 2) _ (List.getElem?_eq_getElem (by omega))
  have he : (zs.toArray)[t / 2]! = zs[t / 2]'(by omega) := by
    rw [getElem!_pos zs.toArray (t / 2) (by simp; omega)]; simp
  rw [he]
  rcases Nat.mod_two_eq_zero_or_one t with hm | hm
  · rw [hm]
    have e : t = t / 2 * 2 := by omega
    rw [← e] at a1 a3
    exact ⟨a1, a3⟩
  · rw [hm]
    have e : t = t / 2 * 2 + 1 := by omega
    rw [← e] at a2 a4
    exact ⟨a2, a4⟩
theorem row_of_holds {w : World} {g : Nat} {zs : List (Int × Int)} (hg : g < w.heap.size) (h : HoldsK encZ 2 w g 0 zs.toArray) : ZRow w g zs := by
  refine ⟨hg, fun j c hc => ?_⟩
  obtain ⟨hj, rfl⟩ := List.getElem?_eq_some_iff.1 hc
  have h0 := h.cell (i := j) (c := 0) (by simpa using hj) (by omega)
  have h1 := h.cell (i := j) (c := 1) (by simpa using hj) (by omega)
  have he : (zs.toArray)[j]! = zs[j] := by rw [getElem!_pos zs.toArray j (by simpa using hj)]; simp
  rw [he, Nat.zero_add] at h0 h1
  exact ⟨h0.1, h1.1, h0.2, h1.2⟩
/-- The order of a pattern's cells. -/
def leZ (x y : Int × Int) : Bool := !ltOf cfZ y x
def sortZ (zs : List (Int × Int)) : List (Int × Int) := zs.mergeSort leZ
theorem sort_any (g n : Nat) (zs : List (Int × Int)) (w : World) (h : ZRow w g zs) (hn : n = zs.length) (hl : n ≤ 20000) :
    Calls Tryz.prog 37 #[.slice (some ⟨g, 0, none⟩) n n, .func (.func 51) #[] #[]] w fun e w' => e = .returned (.tuple #[]) ∧ ZRow w' g (sortZ zs) ∧ Oth g w w' := by
  subst hn
  have eg : ∀ args w, (callFunc 51 args).run Tryz.prog w = .ok (.enter 51 args) w := enters_of Tryz.func51 (by kernel_rfl) rfl
  have hcon := AnyQ.slices_SortFunc_total Tryz.sortPt 2 Tryz.isAgg24 Tryz.sizeOf24 encZ (fun _ => rfl) (fun x v hv => by simp [encZ] at hv; rcases hv with rfl | rfl <;> rfl) cfZ swoZ 51 #[] g 0 zs.length zs.toArray w eg (fun _ _ _ _ x y => byRows_any x y _) (holds_of_row h) h.1 (by simp; omega) totZ
  have hsz : zs.toArray.size = zs.length := by simp
  rw [hsz] at hcon
  refine Calls.mono hcon ?_
  rintro e w' ⟨rfl, m, os, rfl⟩
  have hlen : (sortZ zs).toArray.size = zs.toArray.size := by simp [sortZ]
  have hk : HoldsK encZ 2 (sortWorldK encZ 2 w g 0 m (sortZ zs).toArray os) g 0 (sortZ zs).toArray := by
    unfold sortWorldK
    refine holdsK_grow encZ 2 _ os g 0 _ ?_ (holdsK_putRowK encZ 2 _ g 0 zs.toArray _ (holdsK_ahead encZ 2 w m g 0 _ (holds_of_row h)) hlen)
    have := h.1
    simpa [putRowK, putRow, mapBlock, ahead] using this
  refine ⟨rfl, row_of_holds ?_ hk, ⟨rfl, rfl, rfl, ?_, fun i hi => ?_⟩, fun i hi hne => ?_⟩
  · have := h.1
    simp [sortWorldK, grow, putRowK, putRow, mapBlock]; omega
  · simp [sortWorldK, grow, putRowK, putRow, mapBlock]
  · have := h.1
    show (_ ++ os)[i]? = _
    rw [Array.getElem?_append_left (by simp [putRowK, putRow, mapBlock]; omega)]
    simp [putRowK, putRow, mapBlock, Array.getElem?_modify, show ¬ g = i by omega]
  · show (_ ++ os)[i]? = _
    rw [Array.getElem?_append_left (by simp [putRowK, putRow, mapBlock]; omega)]
    simp [putRowK, putRow, mapBlock, Array.getElem?_modify, show ¬ g = i by omega]
end Go.Proofs.YtnfjmmkokhncoaaGreat
end
