/- Package rle: the runs of a text, read: live: contracts. -/
import Derived.Test.YtjndfdhjipfijaaGreatDoorPh2
import Derived.Deep.AppendLies
import Derived.Deep.RegionHeldLaw
import Derived.OwnWalk
namespace Go.Proofs.YtjndfdhjipfijaaGreatDoor
open Go.RowKit

theorem Tryz.infoPt : (Tryz.prog.info? 26).map (fun i => (i.zero, i.size, i.bytes)) = some (some (.agg #[.int .i64 0, .int .i64 0]), 2, 16) := by kernel_rfl
/-- Points as cells. -/
def ptV (cs : List (Nat × Nat)) : List Value := cs.flatMap fun c => [.int .i64 (c.1 : Int), .int .i64 (c.2 : Int)]
theorem ptV_app (a b : List (Nat × Nat)) : ptV (a ++ b) = ptV a ++ ptV b := by simp [ptV]
/-- A reader in block rb: the text, the byte it is at, the place, the sides, the cells. -/
def RdAt (w : World) (rb : Nat) (S : ByteArray) (p x y W H : Nat) (cs : List (Nat × Nat)) : Prop :=
  ∃ a cap, w.heap[rb]? = some (.cells #[.string S, .int .i64 (p : Int), .int .i64 (x : Int), .int .i64 (y : Int), .int .i64 (W : Int), .int .i64 (H : Int), .slice a cs.length cap] 73 (0, 0)) ∧ w.ownsRow rb 26 2 (.slice a cs.length cap) cs.length (ptV cs) ∧ (Value.slice a cs.length cap).ownBlock ≠ some rb
theorem RdAt.lt {w : World} {rb : Nat} {S : ByteArray} {p x y W H : Nat} {cs : List (Nat × Nat)} (h : RdAt w rb S p x y W H cs) : rb < w.heap.size := by
  obtain ⟨a, cap, h, _⟩ := h
  exact (Array.getElem?_eq_some_iff.1 h).1
theorem RdAt.later {w w' : World} {rb : Nat} {S : ByteArray} {p x y W H : Nat} {cs : List (Nat × Nat)} (h : RdAt w rb S p x y W H cs) (hb : Below w.heap.size w w') : RdAt w' rb S p x y W H cs := by
  have hl := h.lt
  obtain ⟨a, cap, h, ho, hn⟩ := h
  exact ⟨a, cap, by rw [hb.block rb hl]; exact h, ownsRow_later ho hb, hn⟩
theorem RdAt.put {w : World} {rb : Nat} {S : ByteArray} {p x y W H : Nat} {cs : List (Nat × Nat)} {a : Option Addr} {cap : Nat} (hh : w.heap[rb]? = some (.cells #[.string S, .int .i64 (p : Int), .int .i64 (x : Int), .int .i64 (y : Int), .int .i64 (W : Int), .int .i64 (H : Int), .slice a cs.length cap] 73 (0, 0)))
    {cs' : List (Nat × Nat)} {a' : Option Addr} {cap' : Nat} (ho : w.ownsRow rb 26 2 (.slice a' cs'.length cap') cs'.length (ptV cs')) (hn : (Value.slice a' cs'.length cap').ownBlock ≠ some rb) {k : Nat} {u : Value} {p' x' y' : Nat}
    (he : #[.string S, .int .i64 (p : Int), .int .i64 (x : Int), .int .i64 (y : Int), .int .i64 (W : Int), .int .i64 (H : Int), .slice a cs.length cap].setIfInBounds k u = #[.string S, .int .i64 (p' : Int), .int .i64 (x' : Int), .int .i64 (y' : Int), .int .i64 (W : Int), .int .i64 (H : Int), .slice a' cs'.length cap']) : RdAt (w.setCell ⟨rb, k, none⟩ u) rb S p' x' y' W H cs' := by
  refine ⟨a', cap', ?_, ?_, hn⟩
  · simp only [World.setCell, Array.getElem?_modify, hh]
    simp [he]
  · refine ho.kept (row := some rb) ⟨rfl, rfl, rfl, by simp [World.setCell], fun k _ hk => Below.heap_setCell _ _ _ _ (fun e => hk (by simp [e]))⟩ (Or.inr hn)
theorem RdAt.setP {w : World} {rb : Nat} {S : ByteArray} {p x y W H : Nat} {cs : List (Nat × Nat)} (h : RdAt w rb S p x y W H cs) (p' : Nat) : RdAt (w.setCell ⟨rb, 1, none⟩ (.int .i64 (p' : Int))) rb S p' x y W H cs := by
  obtain ⟨a, cap, h, ho, hn⟩ := h
  exact RdAt.put h ho hn rfl
theorem RdAt.setX {w : World} {rb : Nat} {S : ByteArray} {p x y W H : Nat} {cs : List (Nat × Nat)} (h : RdAt w rb S p x y W H cs) (x' : Nat) : RdAt (w.setCell ⟨rb, 2, none⟩ (.int .i64 (x' : Int))) rb S p x' y W H cs := by
  obtain ⟨a, cap, h, ho, hn⟩ := h
  exact RdAt.put h ho hn rfl
theorem RdAt.setY {w : World} {rb : Nat} {S : ByteArray} {p x y W H : Nat} {cs : List (Nat × Nat)} (h : RdAt w rb S p x y W H cs) (y' : Nat) : RdAt (w.setCell ⟨rb, 3, none⟩ (.int .i64 (y' : Int))) rb S p x y' W H cs := by
  obtain ⟨a, cap, h, ho, hn⟩ := h
  exact RdAt.put h ho hn rfl
theorem RdAt.cells {w : World} {rb : Nat} {S : ByteArray} {p x y W H : Nat} {cs : List (Nat × Nat)} (h : RdAt w rb S p x y W H cs) :
    w.cell? ⟨rb, 0, none⟩ = some (.string S) ∧ w.cell? ⟨rb, 1, none⟩ = some (.int .i64 (p : Int)) ∧ w.cell? ⟨rb, 2, none⟩ = some (.int .i64 (x : Int)) ∧ w.cell? ⟨rb, 3, none⟩ = some (.int .i64 (y : Int)) ∧ w.cell? ⟨rb, 4, none⟩ = some (.int .i64 (W : Int)) ∧ w.cell? ⟨rb, 5, none⟩ = some (.int .i64 (H : Int)) := by
  obtain ⟨a, cap, h, _⟩ := h
  refine ⟨?_, ?_, ?_, ?_, ?_, ?_⟩ <;> (rw [Lib.cell_of_heap h]; rfl)
theorem RdAt.frozen {w : World} {rb : Nat} {S : ByteArray} {p x y W H : Nat} {cs : List (Nat × Nat)} (h : RdAt w rb S p x y W H cs) (k : Nat) : w.frozen? ⟨rb, k, none⟩ = false := by
  obtain ⟨a, cap, h, _⟩ := h
  exact Lib.frozen_of_heap h k

theorem rd_append {w0 wr w4 : World} {rb : Nat} {S : ByteArray} {p x y W H : Nat} {ds : List (Nat × Nat)} {a : Option Addr} {cap g cap2 : Nat} {o : Obj} {c : Nat × Nat} {row : Option Nat} (hb : Below rb w0 wr) (hrl : rb < wr.heap.size)
    (hh : wr.heap[rb]? = some (.cells #[.string S, .int .i64 (p : Int), .int .i64 (x : Int), .int .i64 (y : Int), .int .i64 (W : Int), .int .i64 (H : Int), .slice a ds.length cap] 73 (0, 0))) (hg : (wr.drew.alloc o).grownBy w4 row) (hn : some rb ≠ row) (hrow : ∀ k, row = some k → rb ≤ k)
    (hown : w4.ownsRow rb 26 2 (.slice (some ⟨g, 0, none⟩) (ds.length + 1) cap2) (ds.length + 1) (ptV ds ++ [.int .i64 (c.1 : Int), .int .i64 (c.2 : Int)])) (hgr : g ≠ rb) :
    RdAt (w4.setCell ⟨rb, 6, none⟩ (.slice (some ⟨g, 0, none⟩) (ds.length + 1) cap2)) rb S p x y W H (ds ++ [c]) ∧ Below rb w0 (w4.setCell ⟨rb, 6, none⟩ (.slice (some ⟨g, 0, none⟩) (ds.length + 1) cap2)) := by
  have hh4 : w4.heap[rb]? = some (.cells #[.string S, .int .i64 (p : Int), .int .i64 (x : Int), .int .i64 (y : Int), .int .i64 (W : Int), .int .i64 (H : Int), .slice a ds.length cap] 73 (0, 0)) := by
    rw [hg.block rb (by simp; omega) hn, Lib.alloc_old wr.drew o rb hrl]; exact hh
  have hl : (ds ++ [c]).length = ds.length + 1 := by simp
  refine ⟨RdAt.put hh4 (cs' := ds ++ [c]) (a' := some ⟨g, 0, none⟩) (cap' := cap2) ?_ ?_ (by rw [hl]; rfl), ?_⟩
  · rw [hl, ptV_app]; exact hown
  · simp only [Value.ownBlock, ne_eq, Option.some.injEq]; exact hgr
  · exact (((hb.drew).alloc (by show rb ≤ wr.heap.size; omega) o).grown hg (by simp; omega) hrow).setCell (p := ⟨rb, 6, none⟩) (Nat.le_refl _) _

set_option maxRecDepth 100000 in
set_option maxHeartbeats 2000000 in
theorem live_any (rb : Nat) (S : ByteArray) (p x y W H n : Nat) (cs : List (Nat × Nat)) (w : World) (h : RdAt w rb S p x y W H cs) (hn : n ≤ 1024) (hx : x ≤ 1024) (hy : y < H) (hl : cs.length + n ≤ 20000) :
    Calls Tryz.prog 91 #[.pointer (some ⟨rb, 0, none⟩), .int .i64 (n : Int)] w fun e w' => e = .returned (.bool true) ∧ RdAt w' rb S p x y W H (cs ++ (List.range n).map fun j => (x + j, y)) ∧ Below rb w w' := by
  obtain ⟨i0, hi, hz0, hz1, hz2⟩ := info_parts Tryz.infoPt
  have HI := Lib.hid hi
  have HZ0 := Lib.hid hz0
  have HZ1 := Lib.hid hz1
  have HZ2 := Lib.hid hz2
  clear hi hz0 hz1 hz2
  obtain ⟨c0, c1, c2, c3, c4, c5⟩ := h.cells
  obtain ⟨a, cap, hh, ho, hne⟩ := id h
  have c6 : w.cell? ⟨rb, 6, none⟩ = some (.slice a cs.length cap) := by rw [Lib.cell_of_heap hh]; rfl
  have HR := Lib.hid h
  have hg1 : decide ((H : Int) ≤ (y : Int)) = false := by simp; omega
  have hg2 : decide ((20000 : Int) < (cs.length : Int) + (n : Int)) = false := by simp; omega
  have hw : IntKind.i64.wrap ((cs.length : Int) + (n : Int)) = (cs.length : Int) + (n : Int) := IntWalk.i64_in _ (by omega)
  clear h hh ho hne
  go_enter Tryz.func91, Tryz.ntmps91
  go_wp2_with fail
  go_quiet (fail)
  go_wp2_with fail
  clear c0 c1 c2 c3 c4 c5 c6 hg1 hg2 hw
  rw [show decide (H ≤ y) = false from decide_eq_false (by omega)]
  go_loopg [5, 28] n (fun k v i wr => ∃ j : Nat, k = n - j ∧ j ≤ n ∧ i = .int .i64 (j : Int) ∧ RdAt wr rb S p x y W H (cs ++ (List.range j).map fun j => (x + j, y)) ∧ Below rb w wr)
  case atStart => exact ⟨0, rfl, by omega, rfl, by simp only [List.range_zero, List.map_nil, List.append_nil]; exact HR.out, below_drewN (Below.refl _ _) _⟩
  case round =>
    obtain ⟨j, hk, hj, rfl, hr, hb⟩ := hrel
    have HK := Lib.hid hk
    have HR1 := Lib.hid hr
    have HB := Lib.hid hb
    clear hk hr hb
    by_cases hlt : j < n
    · have hg : decide ((j : Int) < (n : Int)) = true := by simp; omega
      have HE : Hid (cs ++ (List.range (j + 1)).map (fun j => (x + j, y)) = (cs ++ (List.range j).map fun j => (x + j, y)) ++ [(x + j, y)]) := by
        show _ = _
        rw [List.range_succ, List.map_append, List.append_assoc]; rfl
      have hdl : (cs ++ (List.range j).map fun j => (x + j, y)).length ≤ 20000 := by simp; omega
      generalize (cs ++ (List.range j).map fun j => (x + j, y)) = ds at *
      obtain ⟨c0, c1, c2, c3, c4, c5⟩ := HR1.out.cells
      have hrl := HR1.out.lt
      obtain ⟨a1, cap1, hh, ho, hne⟩ := HR1.out
      have c6 : wr.cell? ⟨rb, 6, none⟩ = some (.slice a1 ds.length cap1) := by rw [Lib.cell_of_heap hh]; rfl
      have HHH := Lib.hid hh
      have HO := Lib.hid ho
      have HNE := Lib.hid hne
      clear hh ho hne c0 c1 c4 c5
      have hw1 : IntKind.i64.wrap ((x : Int) + (j : Int)) = ((x + j : Nat) : Int) := by rw [IntWalk.i64_in _ (by omega)]; omega
      have e2 : wr.drew.cell? ⟨rb, 2, none⟩ = some (.int .i64 (x : Int)) := c2
      have e3 : wr.drew.cell? ⟨rb, 3, none⟩ = some (.int .i64 (y : Int)) := c3
      have e6 : wr.drew.cell? ⟨rb, 6, none⟩ = some (.slice a1 ds.length cap1) := c6
      go_upto_region 6 with fail
      have HC : Hid (∀ (k : Nat) (o : Obj) (w5 : World) (row : Option Nat), (wr.drew.alloc o).grownBy w5 row → some rb ≠ row → w5.cell? ⟨rb, k, none⟩ = wr.cell? ⟨rb, k, none⟩) := fun k o w5 row hg hn => (hg.cell_far ⟨rb, k, none⟩ (by simp; omega) hn).trans ((bel1 wr.drew o).cell (p := ⟨rb, k, none⟩) hrl)
      have HF : Hid (∀ (k : Nat) (o : Obj) (w5 : World) (row : Option Nat), (wr.drew.alloc o).grownBy w5 row → some rb ≠ row → w5.frozen? ⟨rb, k, none⟩ = false) := fun k o w5 row hg hn => (hg.frozen_far ⟨rb, k, none⟩ (by simp; omega) hn).trans (((bel1 wr.drew o).frozen (p := ⟨rb, k, none⟩) hrl).trans (HR1.out.frozen k))
      go_region_law ((refine step_append_lies _ (by rfl) _ _ 22 (by rfl) rb 26 i0 (.agg #[.int .i64 0, .int .i64 0]) 2 16 Tryz.underlying22 HI.out HZ0.out HZ1.out HZ2.out rfl (by decide) _ _ _ (by rfl) (HO.out.drew.alloc _) ⟨wr.heap.size, 0, none⟩ 1 1 [.int .i64 ((x + j : Nat) : Int), .int .i64 (y : Int)] (by rfl) rfl (World.news_of_block (heap_alloc_new wr.drew _)) (by intro u hu; simp at hu; rcases hu with rfl | rfl <;> rfl) (by decide) (by unfold maxLen; omega) (by omega) (by simp; omega) (wr.heap.size + 1) (by simp) ?_; intro g cap2 w4 hown4 hgrow4 hat4 hlt4; have s6 := (HC.out 6 _ _ _ hgrow4 (Ne.symm HNE.out)).trans c6; have s7 := HF.out 6 _ _ _ hgrow4 (Ne.symm HNE.out)))
      all_goals go_wp2_with fail
      all_goals go_roundg (n - (j + 1))
      all_goals first
        | (rw [HK.out]; omega)
        | (have hrd := rd_append (c := (x + j, y)) HB.out hrl HHH.out hgrow4 (Ne.symm HNE.out) (fun k hk => (HO.out.lt k hk).1) hown4 (by rintro rfl; rcases hat4 with h | h; exact HNE.out h; omega)
           exact ⟨j + 1, rfl, hlt, by go_num, by rw [HE.out]; exact hrd.1, hrd.2⟩)
    · have hje : j = n := by omega
      subst hje
      have hg : decide ((j : Int) < (j : Int)) = false := by simp
      go_wp2_with fail
      go_ret
      exact ⟨rfl, HR1.out, HB.out⟩
end Go.Proofs.YtjndfdhjipfijaaGreatDoor
