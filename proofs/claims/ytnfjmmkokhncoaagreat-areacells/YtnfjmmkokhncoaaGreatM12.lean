-- M12
import Derived.Test.YtnfjmmkokhncoaaGreatMv8
import Derived.Laws.MakeOwn
import Derived.Deep.AppendLies
section
namespace Go.Proofs.YtnfjmmkokhncoaaGreat
open Go.RowKit Go.Maps
set_option maxRecDepth 100000

theorem Tryz.infoP8 : (Tryz.prog.info? 24).map (fun i => (i.zero, i.size, i.bytes)) = some (some (.agg #[.int .i64 0, .int .i64 0]), 2, 16) := by kernel_rfl
theorem infoP8 : ∃ i, Tryz.prog.info? 24 = some i ∧ i.zero = some (.agg #[.int .i64 0, .int .i64 0]) ∧ i.size = 2 ∧ i.bytes = 16 := by
  obtain ⟨i, hi, h⟩ := Option.map_eq_some_iff.1 Tryz.infoP8
  simp only [Prod.mk.injEq] at h
  exact ⟨i, hi, h.1, h.2.1, h.2.2⟩
/-- A slice's address reads as these points. -/
def Rk8 (w : World) (a : Option Addr) (l : List (Int × Int)) : Prop :=
  ∀ (j : Nat) c, l[j]? = some c → ∃ bk off, a = some ⟨bk, off, none⟩ ∧ w.cell? ⟨bk, off + j * 2, none⟩ = some (.int .i64 c.1) ∧ w.cell? ⟨bk, off + j * 2 + 1, none⟩ = some (.int .i64 c.2)
theorem Rk8.nil (w : World) (a : Option Addr) : Rk8 w a [] := fun j c hc => by simp at hc
theorem Rk8.later {w w' : World} {a : Option Addr} {l : List (Int × Int)} (h : Rk8 w a l) (hb : Below w.heap.size w w') : Rk8 w' a l := fun j c hc => by
  obtain ⟨bk, off, e, h1, h2⟩ := h j c hc
  exact ⟨bk, off, e, by rw [hb.cell (p := ⟨bk, off + j * 2, none⟩) (blk_lt h1)]; exact h1, by rw [hb.cell (p := ⟨bk, off + j * 2 + 1, none⟩) (blk_lt h2)]; exact h2⟩
/-- A block of one's own that holds points. -/
def Zr8 (w : World) (g : Nat) (l : List (Int × Int)) : Prop :=
  g < w.heap.size ∧ ∀ (j : Nat) c, l[j]? = some c → w.cell? ⟨g, j * 2, none⟩ = some (.int .i64 c.1) ∧ w.cell? ⟨g, j * 2 + 1, none⟩ = some (.int .i64 c.2) ∧ w.frozen? ⟨g, j * 2, none⟩ = false ∧ w.frozen? ⟨g, j * 2 + 1, none⟩ = false
theorem Zr8.later {w w' : World} {g : Nat} {l : List (Int × Int)} (h : Zr8 w g l) (hb : Below w.heap.size w w') : Zr8 w' g l :=
  ⟨Nat.lt_of_lt_of_le h.1 hb.size, fun j c hc => by
    obtain ⟨h1, h2, h3, h4⟩ := h.2 j c hc
    exact ⟨by rw [hb.cell (p := ⟨g, j * 2, none⟩) h.1]; exact h1, by rw [hb.cell (p := ⟨g, j * 2 + 1, none⟩) h.1]; exact h2, by rw [hb.frozen (p := ⟨g, j * 2, none⟩) h.1]; exact h3, by rw [hb.frozen (p := ⟨g, j * 2 + 1, none⟩) h.1]; exact h4⟩⟩
theorem Zr8.rk {w : World} {g : Nat} {l : List (Int × Int)} (h : Zr8 w g l) : Rk8 w (some ⟨g, 0, none⟩) l := fun j c hc => by
  obtain ⟨h1, h2, _⟩ := h.2 j c hc
  exact ⟨g, 0, rfl, by rw [Nat.zero_add]; exact h1, by rw [Nat.zero_add]; exact h2⟩
theorem Zr8.set {w : World} {g : Nat} {zs : List (Int × Int)} (h : Zr8 w g zs) (i : Nat) (c : Int × Int) (hi : i < zs.length) : Zr8 ((w.setCell ⟨g, i * 2, none⟩ (.int .i64 c.1)).setCell ⟨g, i * 2 + 1, none⟩ (.int .i64 c.2)) g (zs.set i c) := by
  obtain ⟨a1, a2, a3, a4⟩ := h.2 i zs[i] (List.getElem?_eq_getElem hi)
  refine ⟨by simpa [World.setCell] using h.1, fun j d hd => ?_⟩
  rw [World.frozen?_setCell, World.frozen?_setCell, World.frozen?_setCell, World.frozen?_setCell]
  by_cases hij : i = j
  · subst hij
    rw [List.getElem?_set_self hi] at hd
    obtain rfl := Option.some.inj hd
    refine ⟨?_, ?_, a3, a4⟩
    · rw [World.cell?_setCell_other _ _ _ _ (by simp)]
      exact World.cell?_setCell_same _ _ _ a1
    · exact World.cell?_setCell_same _ _ _ (by rw [World.cell?_setCell_other _ _ _ _ (by simp)]; exact a2)
  · rw [List.getElem?_set_ne hij] at hd
    obtain ⟨b1, b2, b3, b4⟩ := h.2 j d hd
    refine ⟨?_, ?_, b3, b4⟩
    · rw [World.cell?_setCell_other _ _ _ _ (by intro e'; have := congrArg Addr.off e'; simp at this; omega), World.cell?_setCell_other _ _ _ _ (by intro e'; have := congrArg Addr.off e'; simp at this; omega)]
      exact b1
    · rw [World.cell?_setCell_other _ _ _ _ (by intro e'; have := congrArg Addr.off e'; simp at this; omega), World.cell?_setCell_other _ _ _ _ (by intro e'; have := congrArg Addr.off e'; simp at this; omega)]
      exact b2
theorem made_zero8 (n : Nat) : ∀ i, i < n * 2 → (madeCells #[Value.int .i64 0, .int .i64 0] (n * 2))[i]? = some (.int .i64 0) := by
  intro i hi
  have hlt : i % 2 < 2 := Nat.mod_lt _ (by omega)
  simp [madeCells, hi]
  generalize i % 2 = m at *
  match m, hlt with
  | 0, _ => rfl
  | 1, _ => rfl
def mvL (L : List (Int × Int)) (p q : Int) : List (Int × Int) := L.map fun c => (c.1 + p, c.2 + q)
set_option maxHeartbeats 4000000 in
theorem movedCells_any (L : List (Int × Int)) (a : Option Addr) (cp : Nat) (p q : Int) (hl : L.length ≤ 100000) (hfit : ∀ c ∈ L, I64 (c.1 + p) ∧ I64 (c.2 + q)) (w : World) (h : Rk8 w a L) :
    Calls Tryz.prog 53 #[.slice a L.length cp, .agg #[.int .i64 p, .int .i64 q]] w fun e w' => ∃ g, e = .returned (.slice (some ⟨g, 0, none⟩) L.length L.length) ∧ w.heap.size ≤ g ∧ Zr8 w' g (mvL L p q) ∧ Below w.heap.size w w' := by
  obtain ⟨n, hn⟩ : ∃ n, n = L.length := ⟨_, rfl⟩
  have HN := Lib.hid hn
  have hn1 : n ≤ 100000 := by omega
  rw [← hn]
  have HFIT := Lib.hid hfit
  obtain ⟨i0, hi, hz0, hz1, hz2⟩ := infoP8
  have hmk : ∀ (W : World), (Instr.makeSlice 36 (.int .i64 (n : Int)) (.int .i64 (n : Int))).run Tryz.prog W = .ok (.slice (some ⟨W.heap.size, 0, none⟩) n n) (W.alloc (.cells (madeCells #[.int .i64 0, .int .i64 0] (n * 2)) 24)) := fun W => by
    have := run_make (P := Tryz.prog) W 36 24 i0 (.agg #[.int .i64 0, .int .i64 0]) Tryz.underlying36 hi hz0 .i64 .i64 (n : Int) (n : Int) (by omega) (by omega) (by rw [hz2]; omega) (by omega)
    simpa [hz1, Value.cells] using this
  clear hi hz0 hz1 hz2 hfit
  have HR := Lib.hid h
  obtain ⟨W0, hW0, hb0, hp0, hz0⟩ : ∃ W0, (w.alloc (.cells #[.int .i64 p, .int .i64 q] 24)).alloc (.cells (madeCells #[.int .i64 0, .int .i64 0] (n * 2)) 24) = W0 ∧ Below w.heap.size w W0 ∧ W0.heap[w.heap.size]? = some (ptO p q) ∧ Zr8 W0 (w.heap.size + 1) (List.replicate n (0, 0)) := by
    refine ⟨_, rfl, by go_grown, keep8 (heap_alloc_new w _) (bel1 _ _), by simp, fun j c hc => ?_⟩
    have hh := heap_alloc_new (w.alloc (.cells #[.int .i64 p, .int .i64 q] 24)) (.cells (madeCells #[.int .i64 0, .int .i64 0] (n * 2)) 24)
    rw [World.size_alloc] at hh
    have hj : j < n := by have := (List.getElem?_eq_some_iff.1 hc).1; simpa using this
    obtain rfl : (0, 0) = c := by
      have := (List.getElem?_eq_some_iff.1 hc).2
      simpa using this
    have hm : ∀ i, i < n * 2 → (madeCells #[Value.int .i64 0, .int .i64 0] (n * 2))[i]? = some (.int .i64 0) := made_zero8 n
    exact ⟨by rw [Lib.cell_of_heap hh]; exact hm _ (by omega), by rw [Lib.cell_of_heap hh]; exact hm _ (by omega), Lib.frozen_of_heap hh _, Lib.frozen_of_heap hh _⟩
  have HW0 := Lib.hid hW0
  have HB0 := Lib.hid hb0
  have HP0 := Lib.hid hp0
  have HZ0 := Lib.hid hz0
  clear hW0 hb0 hp0 hz0 h hn
  go_enter Tryz.func53, Tryz.ntmps53
  go_wp2_with fail
  rw [HW0.out]
  clear hmk
  go_loopg [6, 7, 13] n (fun k u v i wr => ∃ j : Nat, k = n - j ∧ j ≤ n ∧ i = .int .i64 (j : Int) ∧ Zr8 wr (w.heap.size + 1) (mvL (L.take j) p q ++ List.replicate (n - j) (0, 0)) ∧ wr.heap[w.heap.size]? = some (ptO p q) ∧ Below w.heap.size w wr)
  case atStart => exact ⟨0, rfl, by omega, rfl, HZ0.out, HP0.out, HB0.out⟩
  case round =>
    obtain ⟨j, hk, hj, rfl, h1, h2, h3⟩ := hrel
    have HK := Lib.hid hk
    have HZ := Lib.hid h1
    have HPB := Lib.hid h2
    have HB := Lib.hid h3
    clear hk h1 h2 h3 HZ0 HP0 HB0
    by_cases hlt : j < n
    · obtain ⟨d, hd⟩ : ∃ d, L[j]? = some d := ⟨L[j]'(by have := HN.out; omega), List.getElem?_eq_getElem _⟩
      obtain ⟨bk, off, rfl, x0, x1⟩ := (HR.out.later HB.out) j d hd
      obtain ⟨v1, v2⟩ := HFIT.out d (List.mem_of_getElem? hd)
      have hg : decide ((j : Int) < (n : Int)) = true := by simp; omega
      have hi0 : (0 : Int) ≤ (j : Int) := by omega
      have hi1 : (j : Int) < (n : Int) := by omega
      have hlen : (mvL (L.take j) p q).length = j := by unfold mvL; rw [List.length_map, List.length_take]; have := HN.out; omega
      have HNX : Hid ((mvL (L.take j) p q ++ List.replicate (n - j) ((0 : Int), (0 : Int))).set j (d.1 + p, d.2 + q) = mvL (L.take (j + 1)) p q ++ List.replicate (n - (j + 1)) (0, 0)) := by
        show _ = _
        rw [List.set_append_right _ _ (by omega), hlen, Nat.sub_self, List.take_add_one, hd]
        unfold mvL
        rw [List.map_append, List.append_assoc]
        congr 1
        rw [show n - j = (n - (j + 1)) + 1 by omega, List.replicate_succ]
        rfl
      have hjl : j < (mvL (L.take j) p q ++ List.replicate (n - j) ((0 : Int), (0 : Int))).length := by rw [List.length_append, hlen, List.length_replicate]; omega
      clear hd hlen
      generalize (mvL (L.take j) p q ++ List.replicate (n - j) ((0 : Int), (0 : Int))) = M at *
      go_upto_region 5 with fail
      have hbl := bel1 wr (.cells #[.int .i64 d.1, .int .i64 d.2] 24)
      have HZ2 := Lib.hid (HZ.out.later hbl)
      have HP2 := Lib.hid (keep8 HPB.out hbl)
      have hd2 : (wr.alloc (.cells #[.int .i64 d.1, .int .i64 d.2] 24)).heap[wr.heap.size]? = some (ptO d.1 d.2) := heap_alloc_new wr _
      have HD2 := Lib.hid hd2
      have HB2 := Lib.hid (HB.out.trans (hbl.mono HB.out.size))
      have hpl : w.heap.size + 1 < wr.heap.size := HZ.out.1
      clear hbl x0 x1 HZ HPB HB hd2
      generalize wr.alloc (.cells #[.int .i64 d.1, .int .i64 d.2] 24) = w2 at *
      generalize hpb : wr.heap.size = pb at *
      clear hpb
      obtain ⟨a0, a1⟩ := pt_cells HP2.out
      obtain ⟨b0, b1⟩ := pt_cells HD2.out
      go_wp2_with fail
      refine (plus_any d.1 d.2 p q v1 v2 _).mono ?_
      rintro e w3 ⟨rfl, hb⟩
      have HZ3 := Lib.hid (HZ2.out.later hb)
      have HP3 := Lib.hid (keep8 HP2.out hb)
      have HB3 := Lib.hid (HB2.out.trans (hb.mono HB2.out.size))
      clear hb HZ2 HP2 HB2 HD2 a0 a1 b0 b1
      obtain ⟨z0, z1, z2, z3⟩ := HZ3.out.2 j _ (List.getElem?_eq_getElem hjl)
      go_wp2_with fail
      go_roundg (n - (j + 1))
      case measure => rw [HK.out]; omega
      case rel =>
        refine ⟨j + 1, rfl, hlt, by go_num, by rw [← HNX.out]; exact HZ3.out.set j (d.1 + p, d.2 + q) hjl, ?_, (HB3.out.setCell (p := ⟨w.heap.size + 1, j * 2, none⟩) (Nat.le_succ _) _).setCell (p := ⟨w.heap.size + 1, j * 2 + 1, none⟩) (Nat.le_succ _) _⟩
        rw [Below.heap_setCell _ _ _ _ (fun e => by simp at e), Below.heap_setCell _ _ _ _ (fun e => by simp at e)]; exact HP3.out
    · have hje : L.take j = L := List.take_of_length_le (by have := HN.out; omega)
      have hg : decide ((j : Int) < (n : Int)) = false := by simp; omega
      rw [hje, show n - j = 0 by omega, List.replicate_zero, List.append_nil] at HZ
      go_wp2_with fail
      go_ret
      exact ⟨_, rfl, Nat.le_succ _, HZ.out, HB.out⟩
end Go.Proofs.YtnfjmmkokhncoaaGreat
end

section
namespace Go.Proofs.YtnfjmmkokhncoaaGreat
open Go.RowKit Go.Maps
set_option maxRecDepth 100000

theorem Zr8.other {w : World} {g b i : Nat} {l : List (Int × Int)} (h : Zr8 w g l) (hb : b ≠ g) (v : Value) : Zr8 (w.setCell ⟨b, i, none⟩ v) g l :=
  ⟨by simpa using h.1, fun j c hc => by
    obtain ⟨h1, h2, h3, h4⟩ := h.2 j c hc
    rw [World.frozen?_setCell, World.frozen?_setCell]
    exact ⟨by rw [World.cell?_setCell_other _ _ _ _ (fun e => hb (congrArg Addr.block e))]; exact h1, by rw [World.cell?_setCell_other _ _ _ _ (fun e => hb (congrArg Addr.block e))]; exact h2, h3, h4⟩⟩
/-- The blocks of moved: a change, a point, the result. -/
structure Hd (w : World) (r : R4) (L : List (Int × Int)) (a : Option Addr) (cp : Nat) (p q : Int) (W : World) : Prop where
  bel : Below w.heap.size w W
  one : W.heap[w.heap.size]? = some (chO r (.slice a L.length cp))
  two : Nums W (w.heap.size + 1) [p, q]
  res : W.heap[w.heap.size + 1 + 1]? = some (chO ⟨0, 0, 0, 0⟩ (.slice none 0 0))
  rk : Rk8 W a L
theorem Hd.later {w W W' : World} {r : R4} {L : List (Int × Int)} {a : Option Addr} {cp : Nat} {p q : Int} (h : Hd w r L a cp p q W) (hb : Below W.heap.size W W') : Hd w r L a cp p q W' :=
  ⟨h.bel.trans (hb.mono h.bel.size), keep8 h.one hb, h.two.later hb, keep8 h.res hb, h.rk.later hb⟩
theorem Hd.drewN {w W : World} {r : R4} {L : List (Int × Int)} {a : Option Addr} {cp : Nat} {p q : Int} (h : Hd w r L a cp p q W) (k : Nat) : Hd w r L a cp p q (W.drewN k) :=
  ⟨⟨h.bel.os, h.bel.tape, h.bel.output, h.bel.size, h.bel.block⟩, h.one, h.two, h.res, h.rk⟩
theorem Hd.cells {w W : World} {r : R4} {L : List (Int × Int)} {a : Option Addr} {cp : Nat} {p q : Int} (h : Hd w r L a cp p q W) :
    (W.cell? ⟨w.heap.size, 0, none⟩ = some (.int .i64 r.x) ∧ W.cell? ⟨w.heap.size, 1, none⟩ = some (.int .i64 r.y) ∧ W.cell? ⟨w.heap.size, 2, none⟩ = some (.int .i64 r.X) ∧ W.cell? ⟨w.heap.size, 3, none⟩ = some (.int .i64 r.Y) ∧ W.cell? ⟨w.heap.size, 4, none⟩ = some (.slice a L.length cp)) ∧
    (W.cell? ⟨w.heap.size + 1, 0, none⟩ = some (.int .i64 p) ∧ W.cell? ⟨w.heap.size + 1, 1, none⟩ = some (.int .i64 q)) ∧
    (W.cell? ⟨w.heap.size + 1 + 1, 0, none⟩ = some (.int .i64 0) ∧ W.cell? ⟨w.heap.size + 1 + 1, 1, none⟩ = some (.int .i64 0) ∧ W.cell? ⟨w.heap.size + 1 + 1, 2, none⟩ = some (.int .i64 0) ∧ W.cell? ⟨w.heap.size + 1 + 1, 3, none⟩ = some (.int .i64 0) ∧ W.cell? ⟨w.heap.size + 1 + 1, 4, none⟩ = some (.slice none 0 0)) ∧
    W.frozen? ⟨w.heap.size + 1 + 1, 0, none⟩ = false ∧ W.frozen? ⟨w.heap.size + 1 + 1, 1, none⟩ = false ∧ W.frozen? ⟨w.heap.size + 1 + 1, 2, none⟩ = false ∧ W.frozen? ⟨w.heap.size + 1 + 1, 3, none⟩ = false ∧ W.frozen? ⟨w.heap.size + 1 + 1, 4, none⟩ = false := by
  obtain ⟨t0, t1, _⟩ := h.two.two
  exact ⟨ch_cells h.one, ⟨t0, t1⟩, ch_cells h.res, Lib.frozen_of_heap h.res 0, Lib.frozen_of_heap h.res 1, Lib.frozen_of_heap h.res 2, Lib.frozen_of_heap h.res 3, Lib.frozen_of_heap h.res 4⟩
theorem Hd.lt {w W : World} {r : R4} {L : List (Int × Int)} {a : Option Addr} {cp : Nat} {p q : Int} (h : Hd w r L a cp p q W) : w.heap.size + 1 + 1 < W.heap.size := (Array.getElem?_eq_some_iff.1 h.res).1
theorem hd_done {w W : World} {r : R4} {L M : List (Int × Int)} {a : Option Addr} {cp g k : Nat} {p q s0 s1 s2 s3 : Int} (h : Hd w r L a cp p q W) (hz : Zr8 W g M) (hg : w.heap.size + 1 + 1 < g) (v : Value) (hv : v = .slice (some ⟨g, 0, none⟩) k k) : Below w.heap.size w (((((W.setCell ⟨w.heap.size + 1 + 1, 0, none⟩ (.int .i64 s0)).setCell ⟨w.heap.size + 1 + 1, 1, none⟩ (.int .i64 s1)).setCell ⟨w.heap.size + 1 + 1, 2, none⟩ (.int .i64 s2)).setCell ⟨w.heap.size + 1 + 1, 3, none⟩ (.int .i64 s3)).setCell ⟨w.heap.size + 1 + 1, 4, none⟩ v) ∧ (((((W.setCell ⟨w.heap.size + 1 + 1, 0, none⟩ (.int .i64 s0)).setCell ⟨w.heap.size + 1 + 1, 1, none⟩ (.int .i64 s1)).setCell ⟨w.heap.size + 1 + 1, 2, none⟩ (.int .i64 s2)).setCell ⟨w.heap.size + 1 + 1, 3, none⟩ (.int .i64 s3)).setCell ⟨w.heap.size + 1 + 1, 4, none⟩ v).heap[w.heap.size + 1 + 1]? = some (chO ⟨s0, s1, s2, s3⟩ (.slice (some ⟨g, 0, none⟩) k k)) ∧ Zr8 (((((W.setCell ⟨w.heap.size + 1 + 1, 0, none⟩ (.int .i64 s0)).setCell ⟨w.heap.size + 1 + 1, 1, none⟩ (.int .i64 s1)).setCell ⟨w.heap.size + 1 + 1, 2, none⟩ (.int .i64 s2)).setCell ⟨w.heap.size + 1 + 1, 3, none⟩ (.int .i64 s3)).setCell ⟨w.heap.size + 1 + 1, 4, none⟩ v) g M := by
  subst hv
  have hn : w.heap.size + 1 + 1 ≠ g := by omega
  refine ⟨(((((h.bel.setCell (p := ⟨w.heap.size + 1 + 1, 0, none⟩) (by show _ ≤ w.heap.size + 1 + 1; omega) _).setCell (p := ⟨w.heap.size + 1 + 1, 1, none⟩) (by show _ ≤ w.heap.size + 1 + 1; omega) _).setCell (p := ⟨w.heap.size + 1 + 1, 2, none⟩) (by show _ ≤ w.heap.size + 1 + 1; omega) _).setCell (p := ⟨w.heap.size + 1 + 1, 3, none⟩) (by show _ ≤ w.heap.size + 1 + 1; omega) _).setCell (p := ⟨w.heap.size + 1 + 1, 4, none⟩) (by show _ ≤ w.heap.size + 1 + 1; omega) _), ?_, (((((hz.other hn _).other hn _).other hn _).other hn _).other hn _)⟩
  have := h.res
  simp only [World.setCell, Array.getElem?_modify, this, chO]; simp
set_option maxHeartbeats 4000000 in
theorem cmoved_any (r : R4) (L : List (Int × Int)) (a : Option Addr) (cp : Nat) (p q : Int) (hl : L.length ≤ 100000) (hfit : ∀ c ∈ L, I64 (c.1 + p) ∧ I64 (c.2 + q)) (h1 : I64 (r.x + p)) (h2 : I64 (r.y + q)) (h3 : I64 (r.X + p)) (h4 : I64 (r.Y + q)) (w : World) (hR : Rk8 w a L) :
    Calls Tryz.prog 71 #[.agg #[.int .i64 r.x, .int .i64 r.y, .int .i64 r.X, .int .i64 r.Y, .slice a L.length cp], .agg #[.int .i64 p, .int .i64 q]] w fun e w' => ∃ g : Nat, e = .returned (.agg #[.int .i64 (r.x + p), .int .i64 (r.y + q), .int .i64 (r.X + p), .int .i64 (r.Y + q), .slice (some ⟨g, 0, none⟩) L.length L.length]) ∧ w.heap.size ≤ g ∧ Zr8 w' g (mvL L p q) ∧ Below w.heap.size w w' := by
  have hh0 : Hd w r L a cp p q (((w.alloc (.cells #[.int .i64 r.x, .int .i64 r.y, .int .i64 r.X, .int .i64 r.Y, .slice a L.length cp] 92)).alloc (.cells #[.int .i64 p, .int .i64 q] 24)).alloc (.cells #[.int .i64 0, .int .i64 0, .int .i64 0, .int .i64 0, .slice none 0 0] 92)) := by
    refine ⟨by go_grown, keep8 (keep8 (heap_alloc_new w _) (bel1 _ _)) (bel1 _ _), ?_, new_3 w _ _ _, ((hR.later (bel1 _ _)).later (bel1 _ _)).later (bel1 _ _)⟩
    have := (pt_new (w.alloc (.cells #[.int .i64 r.x, .int .i64 r.y, .int .i64 r.X, .int .i64 r.Y, .slice a L.length cp] 92)) p q 24).later (bel1 _ (.cells #[.int .i64 0, .int .i64 0, .int .i64 0, .int .i64 0, .slice none 0 0] 92))
    simpa using this
  have HMV := Lib.hid (fun W => moved_any r.x r.y r.X r.Y p q h1 h2 h3 h4 W)
  have HMC := Lib.hid (fun W (h : Rk8 W a L) => movedCells_any L a cp p q hl hfit W h)
  have H0 := Lib.hid hh0
  clear hh0 h1 h2 h3 h4 hR hfit
  generalize r.x + p = s0 at *
  generalize r.y + q = s1 at *
  generalize r.X + p = s2 at *
  generalize r.Y + q = s3 at *
  generalize mvL L p q = M at *
  go_enter Tryz.func71, Tryz.ntmps71
  go_upto_region 1 with fail
  generalize ((w.alloc (.cells #[.int .i64 r.x, .int .i64 r.y, .int .i64 r.X, .int .i64 r.Y, .slice a L.length cp] 92)).alloc (.cells #[.int .i64 p, .int .i64 q] 24)).alloc (.cells #[.int .i64 0, .int .i64 0, .int .i64 0, .int .i64 0, .slice none 0 0] 92) = W0 at *
  have hh : Hd w r L a cp p q W0.drew := H0.out.drewN 1
  obtain ⟨⟨c0, c1, c2, c3, c4⟩, ⟨d0, d1⟩, _⟩ := H0.out.cells
  have n1 : ¬ w.heap.size = w.heap.size + 1 + 1 := by omega
  have n2 : ¬ w.heap.size + 1 + 1 = w.heap.size := by omega
  go_cut [] from 0 to 0 (fun wx => ∃ g : Nat, w.heap.size ≤ g ∧ Below w.heap.size w wx ∧ wx.heap[w.heap.size + 1 + 1]? = some (chO ⟨s0, s1, s2, s3⟩ (.slice (some ⟨g, 0, none⟩) L.length L.length)) ∧ Zr8 wx g M)
  case first =>
    go_region_held3 (fun w' => (w'.cell? ⟨w.heap.size, 0, none⟩ = some (.int .i64 r.x) ∧ w'.cell? ⟨w.heap.size, 1, none⟩ = some (.int .i64 r.y) ∧ w'.cell? ⟨w.heap.size, 2, none⟩ = some (.int .i64 r.X) ∧ w'.cell? ⟨w.heap.size, 3, none⟩ = some (.int .i64 r.Y) ∧ w'.cell? ⟨w.heap.size, 4, none⟩ = some (.slice a L.length cp)) ∧ w'.cell? ⟨w.heap.size + 1, 0, none⟩ = some (.int .i64 p) ∧ w'.cell? ⟨w.heap.size + 1, 1, none⟩ = some (.int .i64 q)) (go_keep)
      (first
        | (go_at_call 32; refine (HMV.out _).mono ?_; rintro e wl ⟨rfl, hb⟩; have hl : Hd w r L a cp p q wl := Hd.later (by assumption) hb; have k1 := hl.cells; (first | have hz2 : Zr8 wl g9 M := Zr8.later hz hb | skip); clear hb)
        | (go_at_call 53; refine (HMC.out _ (Hd.rk (by assumption))).mono ?_; rintro e wg ⟨g9, rfl, hg9, hz, hb⟩; (have hsz9 : ∃ wq : World, Hd w r L a cp p q wq ∧ wq.heap.size ≤ g9 := ⟨_, (by assumption), hg9⟩); obtain ⟨wq9, hq9, hq9g⟩ := hsz9; have hq9lt := hq9.lt; have hl : Hd w r L a cp p q wg := Hd.later (by assumption) hb; have k1 := hl.cells; clear hb))
    all_goals go_wp2_with fail
    all_goals go_meet
    all_goals
      have hgl : w.heap.size + 1 + 1 < g9 := Nat.lt_of_lt_of_le hq9lt hq9g
      obtain ⟨f1, f2, f3⟩ := hd_done hl hz hgl (.slice (some ⟨g9, 0, none⟩) L.length L.length) rfl (s0 := s0) (s1 := s1) (s2 := s2) (s3 := s3)
      exact ⟨g9, by omega, f1, f2, f3⟩
  case rest =>
  obtain ⟨g, hg, hbw, hn, hz⟩ := hcut
  obtain ⟨q0, q1, q2, q3, q4⟩ := ch_cells hn
  go_wp2
  refine bodyPost_ret (v := _) (by simp [results, Tryz.results71, go_sem, q0, q1, q2, q3, q4]; rfl) rfl ?_
  exact ⟨g, rfl, hg, hz, hbw⟩
end Go.Proofs.YtnfjmmkokhncoaaGreat
end

section
namespace Go.Proofs.YtnfjmmkokhncoaaGreat
open Go.RowKit Go.Maps
set_option maxRecDepth 100000

theorem and_mask8 (z : Int) (n : Nat) (hn : n ≤ 62) (h0 : 0 ≤ z) (h1 : z ≤ 9223372036854775807) : bits .and .i64 z (2 ^ n - 1) = z % 2 ^ n := by
  obtain ⟨k, rfl⟩ := Int.eq_ofNat_of_zero_le h0
  have hp : (2 : Nat) ^ n ≤ 2 ^ 62 := Nat.pow_le_pow_right (by decide) hn
  have hp0 : 0 < (2 : Nat) ^ n := Nat.pow_pos (by decide)
  have e2 : ((2 : Int) ^ n - 1) = ((2 ^ n - 1 : Nat) : Int) := by
    rw [Int.natCast_sub hp0, Int.natCast_pow]; rfl
  have t1 : (BitVec.ofInt 64 ((2 ^ n - 1 : Nat) : Int)).toNat = 2 ^ n - 1 := by
    rw [BitVec.ofInt_natCast, BitVec.toNat_ofNat]; exact Nat.mod_eq_of_lt (by omega)
  have t2 : (BitVec.ofInt 64 (k : Int)).toNat = k := by
    rw [BitVec.ofInt_natCast, BitVec.toNat_ofNat]; exact Nat.mod_eq_of_lt (by omega)
  have key : (BitVec.ofInt 64 (k : Int) &&& BitVec.ofInt 64 ((2 ^ n - 1 : Nat) : Int)).toNat = k % 2 ^ n := by
    rw [BitVec.toNat_and, t1, t2, Nat.and_two_pow_sub_one_eq_mod]
  rw [e2]
  show IntKind.i64.wrap ((BitVec.ofInt 64 (k : Int) &&& BitVec.ofInt 64 ((2 ^ n - 1 : Nat) : Int)).toNat : Nat) = _
  rw [key, IntKind.wrap_i64]
  have hm := Nat.mod_lt k hp0
  have e3 : (2 : Int) ^ n = ((2 ^ n : Nat) : Int) := by rw [Int.natCast_pow]; rfl
  rw [e3, ← Int.natCast_emod]
  omega
theorem qL_snoc (M : List (Int × Int)) (x : Int × Int) (n : Nat) (c d : Bool) : qL (M ++ [x]) n c d = qL M n c d ++ if (qb n x.1 == c && qb n x.2 == d) then [(x.1 % 2 ^ n, x.2 % 2 ^ n)] else [] := by
  unfold qL
  rw [List.filter_append, List.map_append]
  congr 1
  cases h : (qb n x.1 == c && qb n x.2 == d) <;> simp [List.filter, h]
/-- Points as cells. -/
def ptV8 (l : List (Int × Int)) : List Value := l.flatMap fun c => [.int .i64 c.1, .int .i64 c.2]
theorem ptV8_len (l : List (Int × Int)) : (ptV8 l).length = l.length * 2 := by
  induction l with
  | nil => rfl
  | cons c r ih => simp only [ptV8, List.flatMap_cons, List.length_append, List.length_cons, List.length_nil] at ih ⊢; omega
theorem ptV8_at : ∀ (l : List (Int × Int)) (j : Nat), (ptV8 l)[j * 2]? = l[j]?.map (fun c => .int .i64 c.1) ∧ (ptV8 l)[j * 2 + 1]? = l[j]?.map (fun c => .int .i64 c.2)
  | [], j => by simp [ptV8]
  | c :: r, 0 => by simp [ptV8]
  | c :: r, j + 1 => by
    obtain ⟨h1, h2⟩ := ptV8_at r j
    simp only [ptV8, List.flatMap_cons, List.cons_append, List.nil_append, show (j + 1) * 2 = j * 2 + 1 + 1 by omega, List.getElem?_cons_succ] at h1 h2 ⊢
    exact ⟨h1, h2⟩
theorem ptV8_snoc (l : List (Int × Int)) (c : Int × Int) : ptV8 (l ++ [c]) = ptV8 l ++ [.int .i64 c.1, .int .i64 c.2] := by simp [ptV8]
/-- A row of points of one's own. -/
def OwG (w : World) (B : Nat) (v : Value) (l : List (Int × Int)) : Prop := w.ownsRow B 24 2 v l.length (ptV8 l)
theorem OwG.nil (w : World) (B : Nat) : OwG w B (.slice none 0 0) [] := ⟨rfl, Or.inl ⟨rfl, rfl⟩⟩
theorem OwG.rk {w : World} {B : Nat} {v : Value} {l : List (Int × Int)} (h : OwG w B v l) : ∃ a cap, v = .slice a l.length cap ∧ Rk8 w a l ∧ ∀ bk off, a = some ⟨bk, off, none⟩ → B ≤ bk ∧ bk < w.heap.size := by
  have h' := h
  rcases h.2 with ⟨hv, hn0⟩ | ⟨g, cp, cur, hv, hB, hg, h1, h2, _, _⟩
  · obtain rfl : l = [] := List.eq_nil_of_length_eq_zero (by omega)
    exact ⟨none, 0, hv, Rk8.nil _ _, fun bk off e => by cases e⟩
  · subst hv
    refine ⟨_, _, rfl, fun j c hc => ?_, fun bk off e => ?_⟩
    · have hj : j < l.length := (List.getElem?_eq_some_iff.1 hc).1
      obtain ⟨e1, e2⟩ := ptV8_at l j
      rw [hc] at e1 e2
      exact ⟨g, 0, rfl, by rw [Nat.zero_add, World.ownsRow.cellAt h' (j * 2) (by omega)]; exact e1, by rw [Nat.zero_add, World.ownsRow.cellAt h' (j * 2 + 1) (by omega)]; exact e2⟩
    · cases e
      exact ⟨hB, (Array.getElem?_eq_some_iff.1 hg).1⟩
/-- Four of them, apart. -/
structure Q4 (w : World) (B : Nat) (v : Nat → Value) (l : Nat → List (Int × Int)) : Prop where
  own : ∀ i, i < 4 → OwG w B (v i) (l i)
  apart : ∀ i k b, i < 4 → k < 4 → (v i).ownBlock = some b → (v k).ownBlock = some b → i = k
theorem owG_block {w : World} {B b : Nat} {v : Value} {l : List (Int × Int)} (h : OwG w B v l) (hb : v.ownBlock = some b) : B ≤ b ∧ b < w.heap.size := by
  rcases h.2 with ⟨hv, _⟩ | ⟨g, cp, cur, hv, hB, hg, _⟩
  · rw [hv] at hb; cases hb
  · rw [hv] at hb
    cases hb
    exact ⟨hB, (Array.getElem?_eq_some_iff.1 hg).1⟩
theorem OwG.keep {w w' : World} {B : Nat} {v : Value} {l : List (Int × Int)} (h : OwG w B v l) (hk : ∀ b, v.ownBlock = some b → w'.heap[b]? = w.heap[b]?) : OwG w' B v l := by
  refine ⟨h.1, ?_⟩
  rcases h.2 with hn | ⟨g, cp, cur, hv, hB, hg, r⟩
  · exact Or.inl hn
  · exact Or.inr ⟨g, cp, cur, hv, hB, by rw [hk g (by rw [hv]; rfl)]; exact hg, r⟩
theorem OwG.later {w w' : World} {B : Nat} {v : Value} {l : List (Int × Int)} (h : OwG w B v l) (hb : Below w.heap.size w w') : OwG w' B v l := h.keep fun b hv => hb.block b (owG_block h hv).2
theorem Q4.later {w w' : World} {B : Nat} {v : Nat → Value} {l : Nat → List (Int × Int)} (h : Q4 w B v l) (hb : Below w.heap.size w w') : Q4 w' B v l := ⟨fun i hi => (h.own i hi).later hb, h.apart⟩
/-- One of the four is longer. -/
theorem Q4.add {w w' : World} {B s g cap : Nat} {v : Nat → Value} {l : Nat → List (Int × Int)} (h : Q4 w B v l) (hs : s < 4) (c : Int × Int) (ho : w'.ownsRow B 24 2 (.slice (some ⟨g, 0, none⟩) ((l s).length + 1) cap) ((l s).length + 1) (ptV8 (l s) ++ [.int .i64 c.1, .int .i64 c.2])) (hg : w.grownBy w' (v s).ownBlock) (hat : (v s).ownBlock = some g ∨ g = w.heap.size) :
    Q4 w' B (fun i => if i = s then .slice (some ⟨g, 0, none⟩) ((l s).length + 1) cap else v i) (fun i => if i = s then l s ++ [c] else l i) := by
  refine ⟨fun i hi => ?_, fun i k b hi hk h1 h2 => ?_⟩
  · by_cases e : i = s
    · simp only [e, if_true]
      unfold OwG
      rw [ptV8_snoc, List.length_append]
      exact ho
    · simp only [if_neg e]
      refine (h.own i hi).keep fun b hb => hg.block b (owG_block (h.own i hi) hb).2 fun e2 => ?_
      exact e (h.apart i s b hi hs hb e2.symm)
  · have hblk : ∀ q, q < 4 → q ≠ s → (v q).ownBlock = some g → False := fun q hq hne hv => by
      rcases hat with e | e
      · exact hne (h.apart q s g hq hs hv e)
      · have := (owG_block (h.own q hq) hv).2
        omega
    by_cases e1 : i = s <;> by_cases e2 : k = s
    · rw [e1, e2]
    · simp only [e1, if_true, if_neg e2] at h1 h2
      cases h1
      exact absurd h2 (hblk k hk e2)
    · simp only [e2, if_true, if_neg e1] at h1 h2
      cases h2
      exact absurd h1 (hblk i hi e1)
    · simp only [if_neg e1, if_neg e2] at h1 h2
      exact h.apart i k b hi hk h1 h2
/-- Four changes in a block. -/
def fourC (q : Nat → R4) (v : Nat → Value) : Array Value := #[.int .i64 (q 0).x, .int .i64 (q 0).y, .int .i64 (q 0).X, .int .i64 (q 0).Y, v 0, .int .i64 (q 1).x, .int .i64 (q 1).y, .int .i64 (q 1).X, .int .i64 (q 1).Y, v 1, .int .i64 (q 2).x, .int .i64 (q 2).y, .int .i64 (q 2).X, .int .i64 (q 2).Y, v 2, .int .i64 (q 3).x, .int .i64 (q 3).y, .int .i64 (q 3).X, .int .i64 (q 3).Y, v 3]
def G20 (w : World) (b : Nat) (q : Nat → R4) (v : Nat → Value) : Prop := w.heap[b]? = some (.cells (fourC q v) 138 (0, 0))
theorem G20.sl {w : World} {b : Nat} {q : Nat → R4} {v : Nat → Value} (h : G20 w b q v) {s : Nat} (hs : s < 4) : w.cell? ⟨b, s * 5 + 4, none⟩ = some (v s) ∧ w.frozen? ⟨b, s * 5 + 4, none⟩ = false := by
  refine ⟨?_, Lib.frozen_of_heap h _⟩
  rw [Lib.cell_of_heap h]
  have : s = 0 ∨ s = 1 ∨ s = 2 ∨ s = 3 := by omega
  rcases this with rfl | rfl | rfl | rfl <;> rfl
theorem G20.put {w : World} {b : Nat} {q : Nat → R4} {v : Nat → Value} (h : G20 w b q v) {s : Nat} (hs : s < 4) (u : Value) : G20 (w.setCell ⟨b, s * 5 + 4, none⟩ u) b q (fun i => if i = s then u else v i) := by
  unfold G20 at *
  have : s = 0 ∨ s = 1 ∨ s = 2 ∨ s = 3 := by omega
  rcases this with rfl | rfl | rfl | rfl <;> simp only [World.setCell, Array.getElem?_modify, h, fourC] <;> simp
end Go.Proofs.YtnfjmmkokhncoaaGreat
end
