/- The law's plain and same: contracts. -/
import Derived.Test.YtjndfdhjipfijaaGreatDoorNw2
import Derived.Test.YtjndfdhjipfijaaGreatDoorRx2
namespace Go.Proofs.YtjndfdhjipfijaaGreatDoor
open Go.RowKit

theorem Tryz.infoCell : (Tryz.prog.info? 53).map (fun i => (i.zero, i.size, i.bytes)) = some (some (.agg #[.int .i64 0, .int .i64 0]), 2, 16) := by kernel_rfl
/-- The document's pattern, while its cells are put: in block b of the call's own. -/
def XAt (w : World) (b : Nat) (W H : Int) (zs : List (Nat × Nat)) : Prop :=
  ∃ a cap, w.heap[b]? = some (.cells #[.int .i64 W, .int .i64 H, .slice a zs.length cap] 35 (0, 0)) ∧ w.ownsRow b 53 2 (.slice a zs.length cap) zs.length (ptV zs) ∧ (Value.slice a zs.length cap).ownBlock ≠ some b
theorem XAt.lt {w : World} {b : Nat} {W H : Int} {zs : List (Nat × Nat)} (h : XAt w b W H zs) : b < w.heap.size := by
  obtain ⟨a, cap, h, _⟩ := h
  exact (Array.getElem?_eq_some_iff.1 h).1
theorem XAt.later {w w' : World} {b : Nat} {W H : Int} {zs : List (Nat × Nat)} (h : XAt w b W H zs) (hb : Below w.heap.size w w') : XAt w' b W H zs := by
  have hl := h.lt
  obtain ⟨a, cap, h, ho, hn⟩ := h
  exact ⟨a, cap, by rw [hb.block b hl]; exact h, ownsRow_later ho hb, hn⟩
theorem x_append {w0 w2 w4 : World} {b : Nat} {W H : Int} {zs : List (Nat × Nat)} {a : Option Addr} {cap : Nat} {v4 : Value} {o : Obj} {c : Nat × Nat} (hb : Below b w0 w2) (hbl : b < w2.heap.size)
    (hh : w2.heap[b]? = some (.cells #[.int .i64 W, .int .i64 H, .slice a zs.length cap] 35 (0, 0))) (ho : w2.ownsRow b 53 2 (.slice a zs.length cap) zs.length (ptV zs)) (hn : (Value.slice a zs.length cap).ownBlock ≠ some b) (hg : (w2.alloc o).grownBy w4 (Value.slice a zs.length cap).ownBlock)
    (hown : w4.ownsRow b 53 2 v4 (zs.length + 1) (ptV zs ++ [.int .i64 (c.1 : Int), .int .i64 (c.2 : Int)])) :
    w4.cell? ⟨b, 2, none⟩ = some (.slice a zs.length cap) ∧ w4.frozen? ⟨b, 2, none⟩ = false ∧ XAt (w4.setCell ⟨b, 2, none⟩ v4) b W H (zs ++ [c]) ∧ Below b w0 (w4.setCell ⟨b, 2, none⟩ v4) := by
  have hh4 : w4.heap[b]? = some (.cells #[.int .i64 W, .int .i64 H, .slice a zs.length cap] 35 (0, 0)) := by
    rw [hg.block b (by simp; omega) (Ne.symm hn), Lib.alloc_old w2 o b hbl]; exact hh
  have hl : (zs ++ [c]).length = zs.length + 1 := by simp
  obtain ⟨g, cp, rfl⟩ : ∃ g cp, v4 = .slice (some ⟨g, 0, none⟩) (zs.length + 1) cp := by
    rcases hown.2 with ⟨_, h0⟩ | ⟨g, cap, cur, hv, _⟩
    · omega
    · exact ⟨g, cap, hv⟩
  have hgb : g ≠ b := by
    rintro rfl
    rcases hown.2 with ⟨hv, _⟩ | ⟨g', cap', cur, hv, _, hc, _⟩
    · simp at hv
    · obtain ⟨rfl, _⟩ : g = g' ∧ cp = cap' := by simpa using hv
      rw [hc] at hh4
      simp only [Option.some.injEq, Obj.cells.injEq] at hh4
      exact absurd hh4.2.1 (by decide)
  refine ⟨by rw [Lib.cell_of_heap hh4]; rfl, Lib.frozen_of_heap hh4 2, ⟨some ⟨g, 0, none⟩, cp, ?_, ?_, ?_⟩, ?_⟩
  · rw [hl]
    simp only [World.setCell, Array.getElem?_modify, hh4]
    simp
  · rw [hl, ptV_app]
    refine hown.kept (row := some b) ⟨rfl, rfl, rfl, by simp [World.setCell], fun k _ hk => Below.heap_setCell _ _ _ _ (fun e => hk (by simp [e]))⟩ (Or.inr (by simp only [Value.ownBlock, ne_eq, Option.some.injEq]; exact hgb))
  · simp only [Value.ownBlock, ne_eq, Option.some.injEq]; exact hgb
  · exact ((hb.alloc (by omega) o).grown hg (by simp; omega) (fun k hk => (ho.lt k hk).1)).setCell (p := ⟨b, 2, none⟩) (Nat.le_refl _) _

theorem own_ptsC {w : World} {B : Nat} {a : Option Addr} {n cap : Nat} {cs : List (Nat × Nat)} (hn : n = cs.length) (h : w.ownsRow B 53 2 (.slice a n cap) n (ptV cs)) : n ≤ cap ∧ cap ≤ maxLen ∧ Pts w w.heap.size a (cs.map zc) := by
  have h' := h
  rcases h.2 with ⟨hv, hn0⟩ | ⟨g, cp, cur, hv, _, hg, h1, h2, _, _⟩
  · obtain ⟨rfl, _, rfl⟩ : a = none ∧ n = 0 ∧ cap = 0 := by simpa using hv
    obtain rfl : cs = [] := List.eq_nil_of_length_eq_zero (by omega)
    exact ⟨by omega, Nat.zero_le _, Pts.nil⟩
  · obtain ⟨rfl, rfl⟩ : a = some ⟨g, 0, none⟩ ∧ cap = cp := by simpa using hv
    refine ⟨h1, h2, fun j z hz => ?_⟩
    rw [List.getElem?_map] at hz
    obtain ⟨c, hc, rfl⟩ := Option.map_eq_some_iff.1 hz
    have hj : j < cs.length := (List.getElem?_eq_some_iff.1 hc).1
    obtain ⟨e1, e2⟩ := ptV_at cs j c hc
    refine ⟨g, 0, rfl, (Array.getElem?_eq_some_iff.1 hg).1, ?_, ?_⟩
    · rw [Nat.zero_add, h'.cellAt (j * 2) (by omega)]; exact e1
    · rw [Nat.zero_add, h'.cellAt (j * 2 + 1) (by omega)]; exact e2

set_option maxRecDepth 100000 in
set_option maxHeartbeats 2000000 in
theorem plain_any (W H : Int) (cs : List (Nat × Nat)) (w : World) (n cap : Nat) (a : Option Addr) (hp : Pts w w.heap.size a (cs.map zc)) (hn : n = cs.length) (hl : n ≤ 20000) :
    Calls Tryz.prog 9 #[.agg #[.int .i64 W, .int .i64 H, .slice a n cap]] w fun e w' => ∃ a' cap', e = .returned (.agg #[.int .i64 W, .int .i64 H, .slice a' n cap']) ∧ Pts w' w'.heap.size a' (cs.map zc) ∧ Below w.heap.size w w' := by
  obtain ⟨i0, hi, hz0, hz1, hz2⟩ := info_parts Tryz.infoCell
  have HI := Lib.hid hi
  have HZ0 := Lib.hid hz0
  have HZ1 := Lib.hid hz1
  have HZ2 := Lib.hid hz2
  have HP := Lib.hid hp
  have HN := Lib.hid hn
  clear hi hz0 hz1 hz2 hp hn
  go_enter Tryz.func9, Tryz.ntmps9
  go_upto_region 2 with fail
  obtain ⟨W0, hW0, hb0, hp0, hr0, hx0, hs0⟩ : ∃ W0, ((w.alloc (.cells #[.int .i64 W, .int .i64 H, .slice a n cap] 28)).alloc (.cells #[.int .i64 0, .int .i64 0, .slice none 0 0] 35)).alloc (.cells #[.int .i64 W, .int .i64 H, .slice none 0 0] 35) = W0 ∧ Below w.heap.size w W0 ∧ W0.heap[w.heap.size]? = some (.cells #[.int .i64 W, .int .i64 H, .slice a n cap] 28 (0, 0)) ∧ W0.heap[w.heap.size + 1]? = some (.cells #[.int .i64 0, .int .i64 0, .slice none 0 0] 35 (0, 0)) ∧ XAt W0 (w.heap.size + 1 + 1) W H [] ∧ W0.heap.size = w.heap.size + 3 := by
    refine ⟨_, rfl, by go_grown, ?_, ?_, ⟨none, 0, ?_, World.ownsRow_nil _ _ _ _, by simp [Value.ownBlock]⟩, by simp⟩
    · rw [Lib.alloc_old _ _ _ (by simp; omega), Lib.alloc_old _ _ _ (by simp)]; exact heap_alloc_new w _
    · rw [Lib.alloc_old _ _ _ (by simp)]
      have := heap_alloc_new (w.alloc (.cells #[.int .i64 W, .int .i64 H, .slice a n cap] 28)) (.cells #[.int .i64 0, .int .i64 0, .slice none 0 0] 35)
      rw [World.size_alloc] at this
      exact this
    · have := heap_alloc_new ((w.alloc (.cells #[.int .i64 W, .int .i64 H, .slice a n cap] 28)).alloc (.cells #[.int .i64 0, .int .i64 0, .slice none 0 0] 35)) (.cells #[.int .i64 W, .int .i64 H, .slice none 0 0] 35)
      rw [World.size_alloc, World.size_alloc] at this
      exact this
  rw [hW0]
  have c2 : W0.cell? ⟨w.heap.size, 2, none⟩ = some (.slice a n cap) := by rw [Lib.cell_of_heap hp0]; rfl
  have HX0 := Lib.hid hx0
  have HR0 := Lib.hid hr0
  have HB0 := Lib.hid hb0
  have HS0 := Lib.hid hs0
  clear hW0 hb0 hp0 hr0 hx0 hs0
  go_wp2_with fail
  clear c2
  go_loopg [5, 14] n (fun k v i wr => ∃ j : Nat, k = n - j ∧ j ≤ n ∧ i = .int .i64 (j : Int) ∧ XAt wr (w.heap.size + 1 + 1) W H (cs.take j) ∧ Below (w.heap.size + 1 + 1) W0 wr)
  case atStart => exact ⟨0, rfl, by omega, rfl, HX0.out, Below.refl _ _⟩
  case round =>
    obtain ⟨j, hk, hj, rfl, hx, hb⟩ := hrel
    have HK := Lib.hid hk
    have HX := Lib.hid hx
    have HB := Lib.hid hb
    clear hk hx hb HX0
    by_cases hlt : j < n
    · obtain ⟨d, hd⟩ : ∃ d, cs[j]? = some d := ⟨cs[j]'(by have := HN.out; omega), List.getElem?_eq_getElem _⟩
      obtain ⟨bk, off, rfl, hbk⟩ : ∃ bk off, a = some ⟨bk, off, none⟩ ∧ bk < w.heap.size := by
        obtain ⟨bk, off, h1, h2, _⟩ := HP.out j (zc d) (by simp [hd])
        exact ⟨bk, off, h1, h2⟩
      have HPW : Hid (Pts wr w.heap.size (some ⟨bk, off, none⟩) (cs.map zc)) := (HP.out.later HB0.out (Nat.le_refl _)).later HB.out (by omega)
      obtain ⟨x0, x1⟩ := HPW.out.atj (j := j) (c := zc d) (by simp [hd])
      have y0 : wr.cell? ⟨bk, off + j * 2, none⟩ = some (.int .i64 (d.1 : Int)) := x0
      have y1 : wr.cell? ⟨bk, off + j * 2 + 1, none⟩ = some (.int .i64 (d.2 : Int)) := x1
      have hg : decide ((j : Int) < (n : Int)) = true := by simp; omega
      have hi1 : (j : Int) < (n : Int) := by omega
      have hwj : IntKind.i64.wrap ((j : Int) + 1) = (j : Int) + 1 := IntWalk.i64_in _ (by omega)
      have HTK : Hid (cs.take (j + 1) = cs.take j ++ [d]) := by show _ = _; rw [List.take_add_one, hd]; rfl
      have hdl : (cs.take j).length ≤ 20000 := by rw [List.length_take]; omega
      clear hd x0 x1
      generalize cs.take j = ds at *
      go_upto_region 5 with fail
      have hbl := bel1 wr (.cells #[.int .i64 (d.1 : Int), .int .i64 (d.2 : Int)] 26)
      have HX2 := Lib.hid (HX.out.later hbl)
      have HD2 : Hid (PtAt (wr.alloc (.cells #[.int .i64 (d.1 : Int), .int .i64 (d.2 : Int)] 26)) wr.heap.size d.1 d.2) := heap_alloc_new wr _
      have HB2 := Lib.hid (HB.out.trans (hbl.mono (by have := HX.out.lt; omega)))
      clear hbl y0 y1 HX HB HPW
      generalize wr.alloc (.cells #[.int .i64 (d.1 : Int), .int .i64 (d.2 : Int)] 26) = w2 at *
      generalize wr.heap.size = pb at *
      obtain ⟨b0, b1, _⟩ := HD2.out.cells
      have hxl := HX2.out.lt
      obtain ⟨a1, cp1, hh, ho, hne⟩ := HX2.out
      have c2 : w2.cell? ⟨w.heap.size + 1 + 1, 2, none⟩ = some (.slice a1 ds.length cp1) := by rw [Lib.cell_of_heap hh]; rfl
      have HHH := Lib.hid hh
      have HO := Lib.hid ho
      have HNE := Lib.hid hne
      clear hh ho hne
      go_wp2_with (at_builtin; refine wpList_append_own _ rfl _ _ 33 rfl (w.heap.size + 1 + 1) 53 i0 (.agg #[.int .i64 0, .int .i64 0]) 2 16 Tryz.underlying33 HI.out HZ0.out HZ1.out HZ2.out rfl (by decide) _ _ _ rfl (HO.out.alloc _) ⟨w2.heap.size, 0, none⟩ 1 1 [.int .i64 (d.1 : Int), .int .i64 (d.2 : Int)] rfl rfl ?_ ?_ ?_ ?_ ?_ ?_; (intro k u hu; match k, hu with | 0, hu => simp at hu; subst hu; simp [Addr.add] | 1, hu => simp at hu; subst hu; simp [Addr.add]); (intro u hu; simp at hu; rcases hu with rfl | rfl <;> rfl); (unfold maxLen; omega); (omega); (simp; omega); intro v4 w4 hown4 hgrow4 _; obtain ⟨s2, s3, hx4, hb4⟩ := x_append (c := d) HB2.out hxl HHH.out HO.out HNE.out hgrow4 hown4; have HX4 := Lib.hid hx4; have HB4 := Lib.hid hb4; obtain ⟨ao, nn, cp, rfl⟩ : ∃ ao nn cp, v4 = .slice ao nn cp := (by rcases hown4.2 with ⟨hv, _⟩ | ⟨g, cap, cur, hv, _⟩ <;> exact ⟨_, _, _, hv⟩); clear hx4 hb4 hown4 hgrow4)
      go_roundg (n - (j + 1))
      case measure => rw [HK.out]; omega
      case rel => exact ⟨j + 1, rfl, hlt, by go_num, by rw [HTK.out]; exact HX4.out, HB4.out⟩
    · have hje : cs.take j = cs := List.take_of_length_le (by have := HN.out; omega)
      have hg : decide ((j : Int) < (n : Int)) = false := by simp; omega
      rw [hje] at HX
      have hxl := HX.out.lt
      obtain ⟨a1, cp1, hh, ho, hne⟩ := HX.out
      have HR1 : Hid (wr.heap[w.heap.size + 1]? = some (.cells #[.int .i64 0, .int .i64 0, .slice none 0 0] 35 (0, 0))) := by show _ = _; rw [HB.out.block _ (by omega)]; exact HR0.out
      have q0 : wr.cell? ⟨w.heap.size + 1 + 1, 0, none⟩ = some (.int .i64 W) := by rw [Lib.cell_of_heap hh]; rfl
      have q1 : wr.cell? ⟨w.heap.size + 1 + 1, 1, none⟩ = some (.int .i64 H) := by rw [Lib.cell_of_heap hh]; rfl
      have q2 : wr.cell? ⟨w.heap.size + 1 + 1, 2, none⟩ = some (.slice a1 cs.length cp1) := by rw [Lib.cell_of_heap hh]; rfl
      have r0 : wr.cell? ⟨w.heap.size + 1, 0, none⟩ = some (.int .i64 0) := by rw [Lib.cell_of_heap HR1.out]; rfl
      have r1 : wr.cell? ⟨w.heap.size + 1, 1, none⟩ = some (.int .i64 0) := by rw [Lib.cell_of_heap HR1.out]; rfl
      have r2 : wr.cell? ⟨w.heap.size + 1, 2, none⟩ = some (.slice none 0 0) := by rw [Lib.cell_of_heap HR1.out]; rfl
      have f0 := Lib.frozen_of_heap HR1.out 0
      have f1 := Lib.frozen_of_heap HR1.out 1
      have f2 := Lib.frozen_of_heap HR1.out 2
      have HO := Lib.hid ho
      clear hh ho hne
      go_wp2_with fail
      obtain ⟨W5, hW5, hb5, hp5, hs5, hk5⟩ := pat_put HR1.out (HB0.out.trans (HB.out.mono (by omega))) (Nat.le_succ _) (.int .i64 W) (.int .i64 H) (.slice a1 cs.length cp1)
      rw [hW5]
      have t0 : W5.cell? ⟨w.heap.size + 1, 0, none⟩ = some (.int .i64 W) := by rw [Lib.cell_of_heap hp5]; rfl
      have t1 : W5.cell? ⟨w.heap.size + 1, 1, none⟩ = some (.int .i64 H) := by rw [Lib.cell_of_heap hp5]; rfl
      have t2 : W5.cell? ⟨w.heap.size + 1, 2, none⟩ = some (.slice a1 cs.length cp1) := by rw [Lib.cell_of_heap hp5]; rfl
      refine bodyPost_ret (v := _) (by simp [results, Tryz.results9, go_sem, t0, t1, t2]; rfl) rfl ?_
      obtain ⟨k1, k2, k3⟩ := own_ptsC rfl HO.out
      refine ⟨a1, cp1, by rw [HN.out], fun t c hc => ?_, hb5⟩
      obtain ⟨bk, off, e1, e2, e3, e4⟩ := k3 t c hc
      have hbk : bk ≠ w.heap.size + 1 := by
        rcases HO.out.2 with ⟨hv, _⟩ | ⟨g, cp, cur, hv, hge, _⟩
        · rw [e1] at hv; simp at hv
        · rw [e1] at hv
          obtain ⟨⟨rfl, _⟩, _⟩ : (bk = g ∧ off = 0) ∧ cp1 = cp := by simpa using hv
          omega
      refine ⟨bk, off, e1, by omega, ?_, ?_⟩
      · rw [World.cell?_of_block (hk5 bk hbk)]; exact e3
      · rw [World.cell?_of_block (hk5 bk hbk)]; exact e4
end Go.Proofs.YtjndfdhjipfijaaGreatDoor
