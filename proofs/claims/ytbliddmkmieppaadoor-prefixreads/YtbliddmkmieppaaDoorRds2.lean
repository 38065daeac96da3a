/- Bytes, of prefix.Reader and of the document's reader: contracts. -/
import Derived.Test.YtbliddmkmieppaaDoorRds
import Derived.Deep.RegionHeld3
namespace Go.Proofs.YtbliddmkmieppaaDoor
open Go.RowKit

/-- Of what was there, nothing but block rb has turned. -/
structure Ext (rb : Nat) (w w' : World) : Prop where
  os : w'.os = w.os
  tape : w'.tape = w.tape
  output : w'.output = w.output
  size : w.heap.size ≤ w'.heap.size
  block : ∀ k, k < w.heap.size → k ≠ rb → w'.heap[k]? = w.heap[k]?
theorem Only.ext {rb : Nat} {w w' : World} (h : Only rb w w') : Ext rb w w' := ⟨h.os, h.tape, h.output, Nat.le_of_eq h.size.symm, fun k _ hk => h.block k hk⟩
theorem Ext.below {rb B : Nat} {w w' : World} (h : Ext rb w w') (hB : B ≤ rb) (hs : B ≤ w.heap.size) : Below B w w' := ⟨h.os, h.tape, h.output, h.size, fun k hk => h.block k (by omega) (by omega)⟩
theorem Ext.of_below {rb : Nat} {w w' : World} (h : Below w.heap.size w w') : Ext rb w w' := ⟨h.os, h.tape, h.output, h.size, fun k hk _ => h.block k hk⟩
theorem Ext.trans {rb : Nat} {a b c : World} (h : Ext rb a b) (k : Ext rb b c) : Ext rb a c :=
  ⟨k.os.trans h.os, k.tape.trans h.tape, k.output.trans h.output, Nat.le_trans h.size k.size, fun i hi hn => (k.block i (Nat.lt_of_lt_of_le hi h.size) hn).trans (h.block i hi hn)⟩

set_option maxRecDepth 100000 in
/-- A stretch of a row of the call's own, as a slice. -/
theorem mid_at {w : World} {B : Nat} {v : Value} {bs : List Int} (h : Own w B v bs) (pos m : Nat) (hp : pos + m ≤ bs.length) (hm : 1 ≤ m) :
    ∃ a c, (∀ w, (Instr.slice 22 v (some (.int .i64 (pos : Int))) (some (.int .i64 ((pos : Int) + (m : Int)))) none).run Tryd.prog w = .ok (.slice a m c) w) ∧ Row .u8 w w.heap.size a ((bs.drop pos).take m) ∧ (∀ bk off, a = some ⟨bk, off, none⟩ → v.ownBlock = some bk) := by
  have h' := h
  rcases h.2 with ⟨rfl, hn⟩ | ⟨g, cap, cur, rfl, _, hg, h1, h2, _, _⟩
  · omega
  · unfold maxLen at h2
    refine ⟨some ⟨g, pos, none⟩, cap - pos, fun w => ?_, fun j z hz => ?_, fun bk off h => ?_⟩
    · rw [run_slice_lh (P := Tryd.prog) (w := w) 22 _ _ _ Tryd.underlying22 .i64 .i64 (pos : Int) ((pos : Int) + (m : Int)) (by omega) (by omega) (by omega), show Tryd.prog.elem 22 = 5 by kernel_rfl, Tryd.sizeOf5]
      simp [Result.andThen, sliced, add_at, show ¬ cap = pos by omega]
      omega
    · have hj : j < m := by have := (List.getElem?_eq_some_iff.1 hz).1; rw [List.length_take] at this; omega
      rw [List.getElem?_take_of_lt hj, List.getElem?_drop] at hz
      refine ⟨g, pos, rfl, (Array.getElem?_eq_some_iff.1 hg).1, ?_⟩
      have := h'.cellAt (pos + j) (by omega)
      rw [this, List.getElem?_map, hz]; rfl
    · have : g = bk ∧ pos = off := by simpa using h
      rw [← this.1]; rfl

theorem bytes_none {rb : Nat} {bs : List Int} {pos : Nat} {er : Int} (n : Int) (w : World) (h : Rdr w rb bs pos er) (hn : er ≠ 0 ∨ n ≤ 0) :
    Calls Tryd.prog 12 #[.pointer (some ⟨rb, 0, none⟩), .int .i64 n] w fun e w' => e = .returned (.slice none 0 0) ∧ w = w' := by
  have hs := stopped_any w h
  by_cases he : er = 0
  · subst he
    have hn' : n ≤ 0 := by simpa using hn
    rw [show ((0 : Int) != 0) = false from rfl] at hs
    have HS := Lib.hid hs
    clear hs h hn
    go_enter Tryd.func12, Tryd.ntmps12
    go_wp2_with fail
    refine HS.out.mono ?_
    rintro e w' ⟨rfl, rfl⟩
    go_wp2
    go_ret
    exact ⟨rfl, rfl⟩
  · rw [show (er != 0) = true by simpa using he] at hs
    have HS := Lib.hid hs
    clear hs h hn he
    go_enter Tryd.func12, Tryd.ntmps12
    go_wp2_with fail
    refine HS.out.mono ?_
    rintro e w' ⟨rfl, rfl⟩
    go_wp2
    go_ret
    exact ⟨rfl, rfl⟩
theorem bytes_cut {rb : Nat} {bs : List Int} {pos : Nat} (n : Int) (w : World) (h : Rdr w rb bs pos 0) (hn : 0 < n) (hm : n ≤ 9223372036854775807) (hc : (bs.length : Int) - pos < n) :
    Calls Tryd.prog 12 #[.pointer (some ⟨rb, 0, none⟩), .int .i64 n] w fun e w' => e = .returned (.slice none 0 0) ∧ Rdr w' rb bs pos 2 ∧ Only rb w w' := by
  have hs := stopped_any w h
  rw [show ((0 : Int) != 0) = false from rfl] at hs
  have HS := Lib.hid hs
  have HR := Lib.hid h
  have HL := Lib.hid (left_any w h)
  obtain ⟨B, v, h1, _, _, h4, h5⟩ := h
  have hc2 := cell_in h1 2
  have hf2 := frozen_in h1 2
  simp at hc2
  have hd : decide (n ≤ 0) = false := decide_eq_false (by omega)
  clear hs h1
  go_enter Tryd.func12, Tryd.ntmps12
  go_wp2_with fail
  refine HS.out.mono ?_
  rintro e w' ⟨rfl, rfl⟩
  go_wp2_with fail
  refine HL.out.mono ?_
  rintro e w' ⟨rfl, q, rfl⟩
  go_wp2
  go_ret
  exact ⟨rfl, HR.out.drewN.setErr 2, (Only.drewN rb w _).trans (Only.set rb _ 2 _)⟩

set_option maxRecDepth 100000 in
set_option maxHeartbeats 1000000 in
theorem bytes_some {rb : Nat} {bs : List Int} {pos : Nat} (m : Nat) (w : World) (h : Rdr w rb bs pos 0) (hm : 1 ≤ m) (hc : pos + m ≤ bs.length) :
    Calls Tryd.prog 12 #[.pointer (some ⟨rb, 0, none⟩), .int .i64 (m : Int)] w fun e w' => ∃ v', e = .returned v' ∧ Own w' w.heap.size v' ((bs.drop pos).take m) ∧ Rdr w' rb bs (pos + m) 0 ∧ Ext rb w w' := by
  have hs := stopped_any w h
  rw [show ((0 : Int) != 0) = false from rfl] at hs
  have HS := Lib.hid hs
  have HR := Lib.hid h
  have hlt := h.lt
  have HL := Lib.hid (left_any w h)
  obtain ⟨B, v, h1, h2, h3, h4, h5⟩ := h
  have hc0 := cell_in h1 0
  have hc1 := cell_in h1 1
  simp at hc0 hc1
  obtain ⟨a, cp, hsl, hrow, _⟩ := mid_at h2 pos m hc hm
  have hcl := fun W (hW : W.heap.size = w.heap.size) (hr : Row .u8 W w.heap.size a ((bs.drop pos).take m)) => clone_any w.heap.size a cp ((bs.drop pos).take m) W (by rw [List.length_take, List.length_drop]; omega) hr
  have hml : ((bs.drop pos).take m).length = m := by rw [List.length_take, List.length_drop]; omega
  rw [hml] at hcl
  have HCL := Lib.hid hcl
  have HRW := Lib.hid hrow
  have hd : decide ((m : Int) ≤ 0) = false := decide_eq_false (by omega)
  have hd2 : decide ((bs.length : Int) - (pos : Int) < (m : Int)) = false := decide_eq_false (by omega)
  clear hs h1 h2 h3 hcl hrow hml
  go_enter Tryd.func12, Tryd.ntmps12
  go_wp2_with fail
  refine HS.out.mono ?_
  rintro e w' ⟨rfl, rfl⟩
  go_wp2_with fail
  refine HL.out.mono ?_
  rintro e w' ⟨rfl, q, rfl⟩
  go_wp2
  have hw1 : IntKind.i64.wrap ((pos : Int) + (m : Int)) = (pos : Int) + (m : Int) := IntWalk.i64_in _ (by omega)
  go_region_held3 (fun w' => w'.cell? ⟨rb, 0, none⟩ = some v ∧ w'.cell? ⟨rb, 1, none⟩ = some (.int .i64 (pos : Int))) (go_keep)
    (first | (go_at_call 20; refine (HCL.out _ ?_ ?_).mono ?_; (rfl); (exact HRW.out); rintro e w2 ⟨v2, rfl, ho, hb⟩; have hk0 := hb.cell (p := ⟨rb, 0, none⟩) hlt; have hk1 := hb.cell (p := ⟨rb, 1, none⟩) hlt))
  clear hk0 hk1
  have HO : Hid (Own w2 w.heap.size v2 ((bs.drop pos).take m)) := ho
  have HB : Hid (Below w.heap.size w w2) := (below_drewN (Below.refl w.heap.size w) (q + 1)).trans (show Below w.heap.size (w.drewN (q + 1)) w2 from hb)
  have hr2 := HR.out.keep (HB.out.mono hlt)
  have HR2 := Lib.hid hr2
  obtain ⟨B2, u2, g1, _⟩ := hr2
  have e1 := cell_in g1 1
  have ef := frozen_in g1 1
  simp at e1
  clear ho hb hc0 hc1 g1
  go_wp2
  go_ret
  refine ⟨_, rfl, ?_, ?_, ?_⟩
  · exact own_same HO.out (fun k hk => Below.heap_setCell w2 _ _ k (by have := (HO.out.lt k hk).1; show k ≠ rb; omega))
  · have := HR2.out.setPos (pos + m) hc
    rw [Int.natCast_add] at this
    exact this
  · exact (Ext.of_below HB.out).trans (Only.set rb _ 1 _).ext

theorem rbytes_none {lo mb : Nat} {bs : List Int} {pos : Nat} {er : Int} {f : Nat} (n : Int) (w : World) (h : RRd w lo mb bs pos er f) (hn : er ≠ 0 ∨ n ≤ 0) :
    Calls Tryd.prog 13 #[.pointer (some ⟨mb, 0, none⟩), .int .i64 n] w fun e w' => e = .returned (.slice none 0 0) ∧ w = w' := by
  obtain ⟨v, h1, _⟩ := h
  have hc2 := cell_in h1 2
  simp at hc2
  clear h1
  by_cases he : er = 0
  · subst he
    have hn' : n ≤ 0 := by simpa using hn
    clear hn
    go_enter Tryd.func13, Tryd.ntmps13
    go_wp2
    go_ret
    exact ⟨rfl, rfl⟩
  · have hb : (er != 0) = true := by simpa using he
    clear hn he
    go_enter Tryd.func13, Tryd.ntmps13
    go_wp2
    go_ret
    exact ⟨rfl, rfl⟩
theorem rbytes_cut {lo mb : Nat} {bs : List Int} {pos f : Nat} (n : Int) (w : World) (h : RRd w lo mb bs pos 0 f) (hn : 0 < n) (hm : n ≤ 9223372036854775807) (hc : (bs.length : Int) - pos < n) :
    Calls Tryd.prog 13 #[.pointer (some ⟨mb, 0, none⟩), .int .i64 n] w fun e w' => e = .returned (.slice none 0 0) ∧ RRd w' lo mb bs pos 2 pos ∧ Only mb w w' := by
  have hfl := fun q => rfail_any 2 (w.drewN q) (h.drewN (q := q))
  have HFL := Lib.hid hfl
  obtain ⟨v, h1, h2, _, _, h4, h5⟩ := h
  obtain ⟨a, c, rfl, _⟩ := h2.row
  have hc0 := cell_in h1 0
  have hc1 := cell_in h1 1
  have hc2 := cell_in h1 2
  simp at hc0 hc1 hc2
  have hd : decide (n ≤ 0) = false := decide_eq_false (by omega)
  have hw1 : IntKind.i64.wrap ((bs.length : Int) - (pos : Int)) = (bs.length : Int) - (pos : Int) := IntWalk.i64_in _ (by omega)
  clear h1 h2 hfl
  go_enter Tryd.func13, Tryd.ntmps13
  go_wp2
  go_quiet (fail)
  go_wp2_with fail
  refine (HFL.out _).mono ?_
  rintro e w2 ⟨rfl, h1, h2⟩
  have H1 := Lib.hid h1
  have H2 := Lib.hid h2
  clear h1 h2
  go_wp2
  go_ret
  exact ⟨rfl, H1.out, (Only.drewN mb w _).trans H2.out⟩

set_option maxRecDepth 100000 in
set_option maxHeartbeats 1000000 in
theorem rbytes_some {lo mb : Nat} {bs : List Int} {pos f : Nat} (m : Nat) (w : World) (h : RRd w lo mb bs pos 0 f) (hm : 1 ≤ m) (hc : pos + m ≤ bs.length) :
    Calls Tryd.prog 13 #[.pointer (some ⟨mb, 0, none⟩), .int .i64 (m : Int)] w fun e w' => ∃ a c, e = .returned (.slice a m c) ∧ Row .u8 w' w'.heap.size a ((bs.drop pos).take m) ∧ RRd w' lo mb bs (pos + m) 0 f ∧ Only mb w w' := by
  have HR := Lib.hid h
  obtain ⟨v, h1, h2, h3, _, h4, h5⟩ := h
  have hown := h2
  obtain ⟨a0, c0, rfl, _⟩ := h2.row
  have hc0 := cell_in h1 0
  have hc1 := cell_in h1 1
  have hc2 := cell_in h1 2
  have hf1 := frozen_in h1 1
  simp at hc0 hc1 hc2
  have hs0 : ∀ W : World, (W.setCell ⟨mb, 1, none⟩ (.int .i64 ((pos : Int) + (m : Int)))).cell? ⟨mb, 0, none⟩ = W.cell? ⟨mb, 0, none⟩ := fun W => World.cell?_setCell_other W _ _ _ (by simp)
  obtain ⟨a, cp, hsl, hrow, hblk⟩ := mid_at hown pos m hc hm
  have HMB : Hid (∀ bk off, a = some ⟨bk, off, none⟩ → bk < mb) := fun bk off h => h3 bk (hblk bk off h)
  clear hblk
  have hd : decide ((m : Int) ≤ 0) = false := decide_eq_false (by omega)
  have hw1 : IntKind.i64.wrap ((bs.length : Int) - (pos : Int)) = (bs.length : Int) - (pos : Int) := IntWalk.i64_in _ (by omega)
  have hd2 : decide ((bs.length : Int) - (pos : Int) < (m : Int)) = false := decide_eq_false (by omega)
  have hw2 : IntKind.i64.wrap ((pos : Int) + (m : Int) - (m : Int)) = (pos : Int) := by rw [show (pos : Int) + (m : Int) - (m : Int) = (pos : Int) by omega]; exact IntWalk.i64_in _ (by omega)
  have HRW := Lib.hid hrow
  clear h1 h2 hown hrow
  go_enter Tryd.func13, Tryd.ntmps13
  go_wp2
  go_quiet (fail)
  go_wp2
  have hr2 := RRd.set (HR.out.drewN (q := nq)) 1 (.int .i64 ((pos : Int) + (m : Int))) (pos + m) hc 0 f (fun _ => by simp)
  have HR2 := Lib.hid hr2
  have hw0 := hs0 (w.drewN nq)
  have hw3 : ((w.drewN nq).setCell ⟨mb, 1, none⟩ (.int .i64 ((pos : Int) + (m : Int)))).cell? ⟨mb, 1, none⟩ = some (.int .i64 ((pos : Int) + (m : Int))) := World.cell?_setCell_same (w.drewN nq) _ _ hc1
  have hw4 : (w.drewN nq).cell? ⟨mb, 0, none⟩ = some (.slice a0 bs.length c0) := hc0
  rw [hw4] at hw0
  have HON := Lib.hid ((Only.drewN mb w nq).trans (Only.set mb (w.drewN nq) 1 (.int .i64 ((pos : Int) + (m : Int)))))
  have hrw : Row .u8 ((w.drewN nq).setCell ⟨mb, 1, none⟩ (.int .i64 ((pos : Int) + (m : Int)))) w.heap.size a ((bs.drop pos).take m) := by
    have h1 : Row .u8 w mb a ((bs.drop pos).take m) := by
      intro j z hz
      obtain ⟨bk, off, e1, e2, e3⟩ := HRW.out j z hz
      exact ⟨bk, off, e1, HMB.out bk off e1, e3⟩
    exact (h1.later (HON.out.below (Nat.le_refl _)) (Nat.le_refl _)).mono (Nat.le_of_lt HR.out.lt)
  have HRW2 := Lib.hid hrw
  clear hrw hr2 hs0 hc0 hc1 hc2 hw4
  generalize Value.slice a0 bs.length c0 = V at *
  generalize hW : (w.drewN nq).setCell ⟨mb, 1, none⟩ (.int .i64 ((pos : Int) + (m : Int))) = W at *
  clear hW
  go_quiet (fail)
  go_wp2
  go_ret
  refine ⟨_, _, rfl, ?_, HR2.out.drewN, HON.out.trans (Only.drewN mb W _)⟩
  exact Row.mono (Row.drewN HRW2.out) (Nat.le_of_eq HON.out.size.symm)
end Go.Proofs.YtbliddmkmieppaaDoor
