/- Package rle: Parse of a header and runs that are right: contract; the pattern as a value. -/
import Derived.Test.YtjndfdhjipfijaaGreatDoorPr3
namespace Go.Proofs.YtjndfdhjipfijaaGreatDoor
open Go.RowKit

set_option maxRecDepth 100000 in
set_option maxHeartbeats 1000000 in
theorem headerPlace_any (T : List UInt8) (c : UInt8) (r : List UInt8) (w : World) (hT : T = c :: r) (hc : c ≠ 35) :
    Calls Tryz.prog 28 #[.string ⟨T.toArray⟩] w fun e w' => e = .returned (.int .i64 0) ∧ Below w.heap.size w w' := by
  have hcut : (⟨T.toArray⟩ : ByteArray).extract 0 T.length = ⟨T.toArray⟩ := by rw [cut_mk, List.drop_zero, Nat.sub_zero, List.take_length]
  have HP : Hid (∀ w, Calls Tryz.prog 43 #[.string ⟨T.toArray⟩, .string ⟨#[35]⟩] w fun e w' => e = .returned (.bool false) ∧ w = w') := fun w => by
    refine (Tryz.strings_HasPrefix ⟨T.toArray⟩ ⟨#[35]⟩ w).mono ?_
    rintro e w' ⟨rfl, rfl⟩
    refine ⟨?_, rfl⟩
    have : Lib.hasPrefix T [35] = false := by
      rw [hT]
      unfold Lib.hasPrefix
      simp only [List.isPrefixOf, Bool.and_true]
      rw [beq_eq_false_iff_ne]
      exact fun e => hc e.symm
    rw [← this]
  have hTs := mk_size T
  clear hT hc
  generalize (⟨T.toArray⟩ : ByteArray) = S at *
  go_enter Tryz.func28, Tryz.ntmps28
  go_wp2_with fail
  go_loopg [3, 4] 1 (fun k a b wr => a = .int .i64 0 ∧ wr = w)
  case atStart => exact ⟨rfl, rfl⟩
  case round =>
    obtain ⟨rfl, rfl⟩ := hrel
    go_wp2_with fail
    refine (HP.out _).mono ?_
    rintro e w' ⟨rfl, rfl⟩
    go_wp2_with fail
    go_ret
    exact ⟨rfl, Below.refl _ _⟩

theorem index_at (b : UInt8) : ∀ (a r : List UInt8), (∀ c ∈ a, c ≠ b) → Lib.indexByte (a ++ b :: r) b = (a.length : Int)
  | [], r, _ => by simp [Lib.indexByte]
  | c :: a, r, h => by
    have h1 := index_at b a r (fun d hd => h d (by simp [hd]))
    have hc : (c == b) = false := by rw [beq_eq_false_iff_ne]; exact h c (by simp)
    simp only [List.cons_append, Lib.indexByte, hc, h1, Bool.false_eq_true, if_false]
    rw [if_neg (by rw [beq_iff_eq]; omega)]
    simp
theorem cut_mid (l : List UInt8) (i j : Nat) (hi : i ≤ j) (hj : j ≤ l.length) (w : World) :
    (Instr.slice 9 (.string ⟨l.toArray⟩) (some (.int .i64 (i : Int))) (some (.int .i64 (j : Int))) none).run Tryz.prog w = .ok (.string ⟨((l.drop i).take (j - i)).toArray⟩) w := by
  rw [run_slice_string_if _ _ _ _ _ _ _ Tryz.underlying9, if_pos ⟨by omega, by rw [mk_size]; omega⟩, if_pos ⟨by omega, by omega⟩, cut_mk]
  simp

/-- A pattern that came out, as a value: its cells in a row. -/
def PatV (w : World) (W H : Nat) (cs : List (Nat × Nat)) (v : Value) : Prop := ∃ a cap, v = .agg #[.int .i64 (W : Int), .int .i64 (H : Int), .slice a cs.length cap] ∧ cs.length ≤ cap ∧ cap ≤ 9223372036854775807 ∧ Pts w w.heap.size a (cs.map zc)
theorem ptV_len (cs : List (Nat × Nat)) : (ptV cs).length = 2 * cs.length := by
  induction cs with
  | nil => rfl
  | cons c r ih => simp only [ptV, List.flatMap_cons, List.length_append, List.length_cons, List.length_nil] at ih ⊢; omega
theorem ptV_at : ∀ (cs : List (Nat × Nat)) (j : Nat) (c : Nat × Nat), cs[j]? = some c → (ptV cs)[j * 2]? = some (.int .i64 (c.1 : Int)) ∧ (ptV cs)[j * 2 + 1]? = some (.int .i64 (c.2 : Int))
  | [], j, c, h => by simp at h
  | d :: r, 0, c, h => by
    obtain rfl : d = c := by simpa using h
    simp [ptV]
  | d :: r, j + 1, c, h => by
    rw [List.getElem?_cons_succ] at h
    obtain ⟨h1, h2⟩ := ptV_at r j c h
    have he : ptV (d :: r) = .int .i64 (d.1 : Int) :: .int .i64 (d.2 : Int) :: ptV r := rfl
    rw [he, show (j + 1) * 2 = j * 2 + 1 + 1 by omega]
    exact ⟨by rw [List.getElem?_cons_succ, List.getElem?_cons_succ]; exact h1, by rw [List.getElem?_cons_succ, List.getElem?_cons_succ]; exact h2⟩
theorem own_pts {w : World} {B : Nat} {a : Option Addr} {n cap : Nat} {cs : List (Nat × Nat)} (hn : n = cs.length) (h : w.ownsRow B 26 2 (.slice a n cap) n (ptV cs)) : n ≤ cap ∧ cap ≤ maxLen ∧ Pts w w.heap.size a (cs.map zc) := by
  have h' := h
  rcases h.2 with ⟨hv, hn0⟩ | ⟨g, cp, cur, hv, _, hg, h1, h2, _, _⟩
  · obtain ⟨rfl, _, rfl⟩ : a = none ∧ n = 0 ∧ cap = 0 := by simpa using hv
    obtain rfl : cs = [] := List.eq_nil_of_length_eq_zero (by omega)
    exact ⟨by omega, Nat.zero_le _, Pts.nil⟩
  · obtain ⟨rfl, rfl⟩ : a = some ⟨g, 0, none⟩ ∧ cap = cp := by simpa using hv
    refine ⟨h1, h2, fun j z hz => ?_⟩
    rw [List.getElem?_map] at hz
    obtain ⟨c, hc, rfl⟩ := Option.map_eq_some_iff.1 hz
    have hj : j < cs.length := (List.getElem?_eq_some_iff.1 hc).1
    obtain ⟨e1, e2⟩ := ptV_at cs j c hc
    refine ⟨g, 0, rfl, (Array.getElem?_eq_some_iff.1 hg).1, ?_, ?_⟩
    · rw [Nat.zero_add, h'.cellAt (j * 2) (by omega)]; exact e1
    · rw [Nat.zero_add, h'.cellAt (j * 2 + 1) (by omega)]; exact e2

theorem pat_put {w w0 : World} {b B : Nat} {c0 c1 c2 : Value} {T : TypeId} (h : w.heap[b]? = some (.cells #[c0, c1, c2] T (0, 0))) (hb : Below B w0 w) (hB : B ≤ b) (x y z : Value) : ∃ W, ((w.setCell ⟨b, 0, none⟩ x).setCell ⟨b, 1, none⟩ y).setCell ⟨b, 2, none⟩ z = W ∧ Below B w0 W ∧ W.heap[b]? = some (.cells #[x, y, z] T (0, 0)) ∧ W.heap.size = w.heap.size ∧ ∀ k, k ≠ b → W.heap[k]? = w.heap[k]? := by
  refine ⟨_, rfl, ((hb.setCell (p := ⟨b, 0, none⟩) hB _).setCell (p := ⟨b, 1, none⟩) hB _).setCell (p := ⟨b, 2, none⟩) hB _, ?_, by simp [World.setCell], fun k hk => ?_⟩
  · simp only [World.setCell, Array.getElem?_modify, h]
    simp
  · rw [Below.heap_setCell _ _ _ _ (fun e => hk e), Below.heap_setCell _ _ _ _ (fun e => hk e), Below.heap_setCell _ _ _ _ (fun e => hk e)]

set_option maxRecDepth 100000 in
set_option maxHeartbeats 2000000 in
theorem parse_any (W H : Nat) (t : List UInt8) (L : List (Nat × Nat)) (k : Nat) (w : World) (hW : W ≤ 1024) (hH : H ≤ 1024) (hl : (headL W H ++ 10 :: t).length ≤ 200000) (hr : runsP W H t ((headL W H).length + 1) ⟨0, 0, 0, []⟩ = (L, 0, k)) :
    Calls Tryz.prog 11 #[.string ⟨(headL W H ++ 10 :: t).toArray⟩] w fun e w' => (∃ v, e = .returned (.tuple #[v, .nilIface]) ∧ PatV w' W H L v) ∧ Below w.heap.size w w' := by
  obtain ⟨T, hT⟩ : ∃ T, headL W H ++ 10 :: t = T := ⟨_, rfl⟩
  rw [hT] at hl ⊢
  have hhl := headL_len W H hW hH
  have hTl : (headL W H).length + 1 ≤ T.length := by rw [← hT]; simp
  have hd0 : T.drop ((headL W H).length + 1) = t := by rw [← hT, ← List.drop_drop, List.drop_left]; rfl
  have htk : (T.drop 0).take ((headL W H).length - 0) = headL W H := by rw [← hT, List.drop_zero, Nat.sub_zero, List.take_left]
  have HHP : Hid (∀ w, Calls Tryz.prog 28 #[.string ⟨T.toArray⟩] w fun e w' => e = .returned (.int .i64 0) ∧ Below w.heap.size w w') := fun w => by
    have he : T = 120 :: (T.drop 1) := by rw [← hT]; rfl
    exact headerPlace_any T 120 _ w he (by decide)
  have HIB : Hid (∀ w, Calls Tryz.prog 29 #[.string ⟨T.toArray⟩, .int .u8 10] w fun e w' => e = .returned (.int .i64 ((headL W H).length : Int)) ∧ w = w') := fun w => by
    refine (Tryz.strings_IndexByte ⟨T.toArray⟩ 10 w).mono ?_
    rintro e w' ⟨rfl, rfl⟩
    refine ⟨?_, rfl⟩
    have : Lib.indexByte T 10 = ((headL W H).length : Int) := by rw [← hT]; exact index_at 10 _ _ (headL_no10 W H)
    rw [← this]; rfl
  have hc1 : (⟨T.toArray⟩ : ByteArray).extract 0 T.length = ⟨T.toArray⟩ := by rw [cut_mk, List.drop_zero, Nat.sub_zero, List.take_length]
  have hc2 : (⟨T.toArray⟩ : ByteArray).extract 0 (headL W H).length = ⟨(headL W H).toArray⟩ := by rw [cut_mk, htk]
  have HSD := Lib.hid (fun w => sides_any W H w hW hH)
  have HRUNS : Hid (∀ (w : World) (rb : Nat), RdAt w rb ⟨T.toArray⟩ ((headL W H).length + 1) 0 0 W H [] → Calls Tryz.prog 31 #[.pointer (some ⟨rb, 0, none⟩)] w fun e w' => e = .returned .nilIface ∧ (∃ q x y, RdAt w' rb ⟨T.toArray⟩ q x y W H L) ∧ Below rb w w') := fun w rb h =>
    runs_any rb T _ W H k L w h (by omega) hTl hW (by rw [hd0]; exact hr)
  have hTs := mk_size T
  have hsz := mk_size (headL W H)
  clear hr hd0 htk hT
  generalize (headL W H).length = hh at *
  generalize (⟨(headL W H).toArray⟩ : ByteArray) = SH at *
  generalize (⟨T.toArray⟩ : ByteArray) = S at *
  have hg1 : decide ((200000 : Int) < (T.length : Int)) = false := by simp; omega
  have hw1 : IntKind.i64.wrap ((0 : Int) + (hh : Int)) = (hh : Int) := by rw [IntWalk.i64_in _ (by omega)]; omega
  have hw2 : IntKind.i64.wrap ((hh : Int) + 1) = ((hh + 1 : Nat) : Int) := by rw [IntWalk.i64_in _ (by omega)]; omega
  have hg2 : decide ((hh : Int) < 0) = false := by simp
  have H0 : Hid (w.heap.size < (w.alloc (.cells #[.int .i64 0, .int .i64 0, .slice none 0 0] 28)).heap.size) := by show _ < _; simp
  have HN0 : Hid ((w.alloc (.cells #[.int .i64 0, .int .i64 0, .slice none 0 0] 28)).heap[w.heap.size]? = some (.cells #[.int .i64 0, .int .i64 0, .slice none 0 0] 28 (0, 0))) := heap_alloc_new w _
  have HB0 := Lib.hid (bel1 w (.cells #[.int .i64 0, .int .i64 0, .slice none 0 0] 28))
  go_enter Tryz.func11, Tryz.ntmps11
  go_wp2_with fail
  generalize w.alloc (.cells #[.int .i64 0, .int .i64 0, .slice none 0 0] 28) = w0 at *
  refine (HHP.out _).mono ?_
  rintro e w1 ⟨rfl, hb1⟩
  have HN1 : Hid (w1.heap[w.heap.size]? = some (.cells #[.int .i64 0, .int .i64 0, .slice none 0 0] 28 (0, 0))) := by show _ = _; rw [hb1.block _ H0.out]; exact HN0.out
  have HB1 : Hid (Below w.heap.size w w1) := HB0.out.trans (hb1.mono HB0.out.size)
  have hs1 : w.heap.size < w1.heap.size := Nat.lt_of_lt_of_le H0.out hb1.size
  clear hb1 HN0 HB0 H0
  go_wp2_with fail
  refine (HIB.out _).mono ?_
  rintro e w' ⟨rfl, rfl⟩
  go_wp2_with fail
  refine (HSD.out _).mono ?_
  rintro e w2 ⟨rfl, hb2⟩
  have HN2 : Hid (w2.heap[w.heap.size]? = some (.cells #[.int .i64 0, .int .i64 0, .slice none 0 0] 28 (0, 0))) := by show _ = _; rw [hb2.block _ hs1]; exact HN1.out
  have HB2 : Hid (Below w.heap.size w w2) := HB1.out.trans (hb2.mono HB1.out.size)
  have hs2 : w.heap.size < w2.heap.size := Nat.lt_of_lt_of_le hs1 hb2.size
  clear hb2 HN1 HB1 hs1
  go_wp2_with fail
  have HRD : Hid (RdAt (w2.alloc (.cells #[.string S, .int .i64 ((hh : Int) + 1), .int .i64 0, .int .i64 0, .int .i64 (W : Int), .int .i64 (H : Int), .slice none 0 0] 73)) w2.heap.size S (hh + 1) 0 0 W H []) := by
    refine ⟨none, 0, ?_, World.ownsRow_nil _ _ _ _, by simp [Value.ownBlock]⟩
    rw [Int.natCast_add]
    exact heap_alloc_new w2 _
  have HBA := Lib.hid (bel1 w2 (.cells #[.string S, .int .i64 ((hh : Int) + 1), .int .i64 0, .int .i64 0, .int .i64 (W : Int), .int .i64 (H : Int), .slice none 0 0] 73))
  generalize w2.alloc (.cells #[.string S, .int .i64 ((hh : Int) + 1), .int .i64 0, .int .i64 0, .int .i64 (W : Int), .int .i64 (H : Int), .slice none 0 0] 73) = w3 at *
  refine (HRUNS.out _ _ HRD.out).mono ?_
  rintro e w4 ⟨rfl, ⟨q, x, y, h4⟩, hb4⟩
  have HB4 : Hid (Below w.heap.size w w4) := (HB2.out.trans (HBA.out.mono HB2.out.size)).trans (hb4.mono HB2.out.size)
  have HN4 : Hid (w4.heap[w.heap.size]? = some (.cells #[.int .i64 0, .int .i64 0, .slice none 0 0] 28 (0, 0))) := by show _ = _; rw [hb4.block _ hs2, HBA.out.block _ hs2]; exact HN2.out
  obtain ⟨_, _, _, _, c4, c5⟩ := h4.cells
  obtain ⟨a, cap, hh4, ho4, hne4⟩ := h4
  have c6 : w4.cell? ⟨w2.heap.size, 6, none⟩ = some (.slice a L.length cap) := by rw [Lib.cell_of_heap hh4]; rfl
  have d0 : w4.cell? ⟨w.heap.size, 0, none⟩ = some (.int .i64 0) := by rw [Lib.cell_of_heap HN4.out]; rfl
  have d1 : w4.cell? ⟨w.heap.size, 1, none⟩ = some (.int .i64 0) := by rw [Lib.cell_of_heap HN4.out]; rfl
  have d2 : w4.cell? ⟨w.heap.size, 2, none⟩ = some (.slice none 0 0) := by rw [Lib.cell_of_heap HN4.out]; rfl
  have g0 := Lib.frozen_of_heap HN4.out 0
  have g1 := Lib.frozen_of_heap HN4.out 1
  have g2 := Lib.frozen_of_heap HN4.out 2
  have HO4 := Lib.hid ho4
  clear hh4 ho4 hne4 hb4 HRD HBA HB2 HN2
  go_wp2_with fail
  obtain ⟨W5, hW5, hb5, hn5, hsz5, hk5⟩ := pat_put HN4.out HB4.out (Nat.le_refl _) (.int .i64 (W : Int)) (.int .i64 (H : Int)) (.slice a L.length cap)
  rw [hW5]
  have q0 : W5.cell? ⟨w.heap.size, 0, none⟩ = some (.int .i64 (W : Int)) := by rw [Lib.cell_of_heap hn5]; rfl
  have q1 : W5.cell? ⟨w.heap.size, 1, none⟩ = some (.int .i64 (H : Int)) := by rw [Lib.cell_of_heap hn5]; rfl
  have q2 : W5.cell? ⟨w.heap.size, 2, none⟩ = some (.slice a L.length cap) := by rw [Lib.cell_of_heap hn5]; rfl
  refine bodyPost_ret (v := _) (by simp [results, Tryz.results11, go_sem, q0, q1, q2]; rfl) rfl ?_
  obtain ⟨k1, k2, k3⟩ := own_pts rfl HO4.out
  refine ⟨⟨_, rfl, a, cap, rfl, k1, by unfold maxLen at k2; omega, fun j c hc => ?_⟩, hb5⟩
  obtain ⟨bk, off, e1, e2, e3, e4⟩ := k3 j c hc
  have hbk : bk ≠ w.heap.size := by
    rcases HO4.out.2 with ⟨hv, _⟩ | ⟨g, cp, cur, hv, hge, _⟩
    · rw [e1] at hv; simp at hv
    · rw [e1] at hv
      obtain ⟨⟨rfl, _⟩, _⟩ : (bk = g ∧ off = 0) ∧ cap = cp := by simpa using hv
      omega
  refine ⟨bk, off, e1, by omega, ?_, ?_⟩
  · rw [World.cell?_of_block (hk5 bk hbk)]; exact e3
  · rw [World.cell?_of_block (hk5 bk hbk)]; exact e4
end Go.Proofs.YtjndfdhjipfijaaGreatDoor
