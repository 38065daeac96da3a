-- P08
import Derived.Test.YtaapkngpnlnjeaaGreatDoorP07
import Derived.Test.YtaapkngpnlnjeaaGreatDoorP02
section
namespace Go.Proofs.YtaapkngpnlnjeaaGreatDoor
open Go.RowKit Go.Maps
set_option maxRecDepth 100000

/-- What a block of one's own holds, beside a store's. -/
structure Ob (w : World) (sb g tb b : Nat) (o : Obj) : Prop where
  at_ : w.heap[b]? = some o
  sb_ : b ≠ sb
  g_ : b ≠ g
  tb_ : b ≠ tb
theorem Ob.lt {w : World} {sb g tb b : Nat} {o : Obj} (h : Ob w sb g tb b o) : b < w.heap.size := (Array.getElem?_eq_some_iff.1 h.at_).1
theorem Ob.later {w w' : World} {sb g tb b : Nat} {o : Obj} (h : Ob w sb g tb b o) (hb : Below w.heap.size w w') : Ob w' sb g tb b o := ⟨by rw [hb.block b h.lt]; exact h.at_, h.sb_, h.g_, h.tb_⟩
theorem Ob.new {w : World} {sb g tb cap most : Nat} {N : List Nd} (h : St w sb g tb cap most N) (cs : Array Value) (t : TypeId) : Ob (w.alloc (.cells cs t)) sb g tb w.heap.size (.cells cs t (0, 0)) := by
  obtain ⟨l1, l2, l3⟩ := h.lt
  exact ⟨heap_alloc_new w _, by omega, by omega, by omega⟩
def plO (sb x : Nat) : Obj := .cells #[.pointer (some ⟨sb, 0, none⟩), .int .u32 (x : Int)] 34 (0, 0)
def plV (sb x : Nat) : Value := .agg #[.pointer (some ⟨sb, 0, none⟩), .int .u32 (x : Int)]
def ptO (a b : Int) : Obj := .cells #[.int .i64 a, .int .i64 b] 55 (0, 0)
theorem pl_cells {w : World} {b sb x : Nat} (h : w.heap[b]? = some (plO sb x)) : w.cell? ⟨b, 0, none⟩ = some (.pointer (some ⟨sb, 0, none⟩)) ∧ w.cell? ⟨b, 1, none⟩ = some (.int .u32 (x : Int)) :=
  ⟨by rw [Lib.cell_of_heap h]; rfl, by rw [Lib.cell_of_heap h]; rfl⟩
theorem pt_cells {w : World} {b : Nat} {x y : Int} (h : w.heap[b]? = some (ptO x y)) : w.cell? ⟨b, 0, none⟩ = some (.int .i64 x) ∧ w.cell? ⟨b, 1, none⟩ = some (.int .i64 y) :=
  ⟨by rw [Lib.cell_of_heap h]; rfl, by rw [Lib.cell_of_heap h]; rfl⟩
theorem Sq.u32 {w : World} {sb g tb cap most : Nat} {N : List Nd} (h : St w sb g tb cap most N) {n x : Nat} (hx : Sq N n x) : x < 4294967296 := by
  have := hx.lt; have := h.room; have := h.most_le; omega
theorem Sq.le62 {N : List Nd} (hw : Wf N) {n x : Nat} (h : Sq N (n + 1) x) : n < 62 := by
  obtain ⟨nd, e, _, hl, _⟩ := h.node hw
  have := hw.lv_le e
  omega
theorem has_span (n : Nat) (a b : Int) (w : World) : Calls Tryz.prog 39 #[.agg #[.int .i64 (-2 ^ n), .int .i64 (-2 ^ n), .int .i64 (2 ^ n), .int .i64 (2 ^ n)], .agg #[.int .i64 a, .int .i64 b]] w fun e w' => e = .returned (.bool (inS n a && inS n b)) ∧ Below w.heap.size w w' := by
  have := has_any (-2 ^ n) (-2 ^ n) (2 ^ n) (2 ^ n) a b w
  rw [Bool.and_assoc] at this
  exact this
theorem right_sq {w : World} {sb g tb cap most : Nat} {N : List Nd} (h : St w sb g tb cap most N) {n x : Nat} (hx : Sq N (n + 1) x) (hn : 2 ≤ n) : Calls Tryz.prog 37 #[.agg #[.pointer (some ⟨sb, 0, none⟩), .int .u32 (x : Int)]] w fun e w' => e = .returned (.bool true) ∧ Below w.heap.size w w' := by
  have := right_any h x (Sq.u32 h hx)
  rw [decide_eq_true (show 3 ≤ lvZ N x by rw [show lvZ N x = ((n + 1 : Nat) : Int) from hx]; omega)] at this
  exact this
theorem of_sq {w : World} {sb g tb cap most : Nat} {N : List Nd} (h : St w sb g tb cap most N) {n x : Nat} (hx : Sq N (n + 1) x) :
    Calls Tryz.prog 41 #[.pointer (some ⟨sb, 0, none⟩), .int .u32 (x : Int)] w fun e w' => e = .returned (.tuple #[kv (kidZ N x), .bool true]) ∧ Below w.heap.size w w' := by
  obtain ⟨nd, e, _, hl, hk⟩ := hx.node h.wf
  rw [← hk]
  exact of_good h x (Sq.u32 h hx) e (by omega)
theorem qn_lt (r b : Bool) : qn r b < 4 := by cases r <;> cases b <;> decide
theorem kcell {w : World} {b : Nat} {k : K4} (h : KAt w b k) (r c : Bool) : w.cell? ⟨b, qn r c, none⟩ = some (.int .u32 (pick k r c : Int)) := by
  obtain ⟨c0, c1, c2, c3, _⟩ := h.cells
  cases r <;> cases c
  · exact c0
  · exact c2
  · exact c1
  · exact c3
theorem far_before {W w3 : World} {p : Addr} {v : Value} (h : W.cell? p = some v) (hb : Below W.drew.heap.size W.drew w3) : w3.cell? p = some v ∧ (∀ cs t, (w3.alloc (.cells cs t)).cell? p = some v) ∧ True ∧ True ∧ True ∧ True := by
  have hl := blk_lt h
  have h3 : w3.cell? p = some v := by rw [hb.cell (p := p) hl]; exact h
  refine ⟨h3, fun cs t => ?_, trivial, trivial, trivial, trivial⟩
  rw [(bel1 w3 (.cells cs t)).cell (p := p) (blk_lt h3)]; exact h3
theorem far_behind {W w3 : World} {p : Addr} {v : Value} (h : W.cell? p = some v) (hb : Below (W.alloc (.cells #[.int .i64 0, .int .i64 0] 55)).drew.heap.size (W.alloc (.cells #[.int .i64 0, .int .i64 0] 55)).drew w3) :
    w3.cell? p = some v ∧ (∀ x y, ((w3.setCell ⟨W.heap.size, 0, none⟩ x).setCell ⟨W.heap.size, 1, none⟩ y).cell? p = some v) ∧ w3.cell? ⟨W.heap.size, 0, none⟩ = some (.int .i64 0) ∧ w3.cell? ⟨W.heap.size, 1, none⟩ = some (.int .i64 0) ∧ w3.frozen? ⟨W.heap.size, 0, none⟩ = false ∧ w3.frozen? ⟨W.heap.size, 1, none⟩ = false := by
  have hl := blk_lt h
  have hA := (bel1 W (.cells #[.int .i64 0, .int .i64 0] 55))
  have hs : (W.alloc (.cells #[.int .i64 0, .int .i64 0] 55)).heap.size = W.heap.size + 1 := by simp
  have h3 : w3.cell? p = some v := by rw [hb.cell (p := p) (by show _ < (W.alloc _).heap.size; omega)]; show (W.alloc _).cell? p = _; rw [hA.cell (p := p) hl]; exact h
  obtain ⟨a1, a2, a3, a4⟩ := ((pt_new W 0 0 55).later (w' := w3) ⟨hb.os, hb.tape, hb.output, hb.size, hb.block⟩).two
  refine ⟨h3, fun x y => ?_, a1, a2, a3, a4⟩
  rw [World.cell?_setCell_other _ _ _ _ (by intro e; have e' := congrArg Addr.block e; simp at e'; omega), World.cell?_setCell_other _ _ _ _ (by intro e; have e' := congrArg Addr.block e; simp at e'; omega)]
  exact h3
theorem far_end1 {W w3 : World} {x y : Int} (hb : Below W.drew.heap.size W.drew w3) : Below W.heap.size W (w3.alloc (.cells #[.int .i64 x, .int .i64 y] 55)) ∧ (w3.alloc (.cells #[.int .i64 x, .int .i64 y] 55)).heap[w3.heap.size]? = some (ptO x y) := by
  have hb' : Below W.heap.size W w3 := ⟨hb.os, hb.tape, hb.output, hb.size, hb.block⟩
  exact ⟨hb'.trans ((bel1 _ _).mono hb'.size), heap_alloc_new _ _⟩
theorem far_end2 {W w3 : World} {x y : Int} (hb : Below (W.alloc (.cells #[.int .i64 0, .int .i64 0] 55)).drew.heap.size (W.alloc (.cells #[.int .i64 0, .int .i64 0] 55)).drew w3) :
    Below W.heap.size W ((w3.setCell ⟨W.heap.size, 0, none⟩ (.int .i64 x)).setCell ⟨W.heap.size, 1, none⟩ (.int .i64 y)) ∧ ((w3.setCell ⟨W.heap.size, 0, none⟩ (.int .i64 x)).setCell ⟨W.heap.size, 1, none⟩ (.int .i64 y)).heap[W.heap.size]? = some (ptO x y) := by
  have hb' : Below (W.alloc (.cells #[.int .i64 0, .int .i64 0] 55)).heap.size (W.alloc (.cells #[.int .i64 0, .int .i64 0] 55)) w3 := ⟨hb.os, hb.tape, hb.output, hb.size, hb.block⟩
  have h0 := bel1 W (.cells #[.int .i64 0, .int .i64 0] 55)
  have h1 := h0.trans (hb'.mono h0.size)
  have h3 : w3.heap[W.heap.size]? = some (ptO 0 0) := by rw [hb'.block _ (by simp)]; exact heap_alloc_new _ _
  refine ⟨(h1.setCell (p := ⟨W.heap.size, 0, none⟩) (by simp) _).setCell (p := ⟨W.heap.size, 1, none⟩) (by simp) _, ?_⟩
  simp only [World.setCell, Array.getElem?_modify, h3, ptO]
  simp
set_option maxHeartbeats 2000000 in
theorem get_any {w : World} {sb g tb cap most : Nat} {N : List Nd} (h : St w sb g tb cap most N) {n x : Nat} (hx : Sq N (n + 1) x) (hn : 2 ≤ n) (a b : Int) :
    Calls Tryz.prog 22 #[.agg #[.pointer (some ⟨sb, 0, none⟩), .int .u32 (x : Int)], .agg #[.int .i64 a, .int .i64 b]] w fun e w' => e = .returned (.bool (alK N n (kidZ N x) a b)) ∧ Below w.heap.size w w' := by
  have hxu := Sq.u32 h hx
  have hn62 : n < 62 := hx.le62 h.wf
  have HB := Lib.hid (bel2 w (.cells #[.pointer (some ⟨sb, 0, none⟩), .int .u32 (x : Int)] 34) (.cells #[.int .i64 a, .int .i64 b] 55))
  have HS := Lib.hid (h.later HB.out)
  have HP := Lib.hid ((Ob.new h #[.pointer (some ⟨sb, 0, none⟩), .int .u32 (x : Int)] 34).later (bel1 _ (.cells #[.int .i64 a, .int .i64 b] 55)))
  have HQ := Lib.hid (Ob.new (h.later (bel1 _ (.cells #[.pointer (some ⟨sb, 0, none⟩), .int .u32 (x : Int)] 34))) #[.int .i64 a, .int .i64 b] 55)
  have HX := Lib.hid hx
  have HLV := Lib.hid (fun W (hb : Below _ _ W) => level_any (HS.out.later hb) x hxu)
  rw [show lvZ N x = (n : Int) + 1 from hx] at HLV
  clear h hx
  go_enter Tryz.func22, Tryz.ntmps22
  go_wp2_with fail
  refine (HLV.out _ (Below.refl _ _)).mono ?_
  rintro e W1 ⟨rfl, rfl⟩
  go_wp2_with fail
  generalize (w.alloc (.cells #[.pointer (some ⟨sb, 0, none⟩), .int .u32 (x : Int)] 34)).alloc (.cells #[.int .i64 a, .int .i64 b] 55) = W0 at *
  obtain ⟨p0, p1⟩ := pl_cells HP.out.at_
  obtain ⟨q0, q1⟩ := pt_cells HQ.out.at_
  have hz : (w.alloc (.cells #[.pointer (some ⟨sb, 0, none⟩), .int .u32 (x : Int)] 34)).heap.size = w.heap.size + 1 := by simp
  rw [hz] at q0 q1
  clear hz
  have hne := Up.me W0
  have HR := Lib.hid (fun z : Up W0 => Up.calls (fun W hb => right_sq (HS.out.later hb) HX.out hn) z)
  have HSP := Lib.hid (fun z : Up W0 => Up.calls (fun W _ => span_any n hn62 W) z)
  have HHS := Lib.hid (fun z : Up W0 => Up.calls (fun W _ => has_span n a b W) z)
  have g0 := fun z : Up W0 => Up.cell p0 z
  have g1 := fun z : Up W0 => Up.cell p1 z
  have g2 := fun z : Up W0 => Up.cell q0 z
  have g3 := fun z : Up W0 => Up.cell q1 z
  cases hin : (inS n a && inS n b) with
  | false =>
    have HA : Hid (alK N n (kidZ N x) a b = false) := by
      show _ = _
      unfold alK; rw [hin]; rfl
    rw [hin] at HHS
    clear hin
    refine region_up (by kernel_rfl) (by kernel_rfl) ?_
    repeat (go_big_quiet_step ((first | (go_at_call 37; with_reducible exact HR.out _) | (go_at_call 38; with_reducible exact HSP.out _) | (go_at_call 39; with_reducible exact HHS.out _))))
    refine wpQuiet_nil ?_
    rintro w2 ⟨⟨W2, hW2⟩, rfl⟩
    go_wp2_with fail
    go_ret
    exact ⟨by rw [HA.out]; rfl, HB.out.trans (hW2.mono HB.out.size)⟩
  | true =>
    rw [hin] at HHS
    have HIN := Lib.hid hin
    clear hin
    refine region_up (by kernel_rfl) (by kernel_rfl) ?_
    repeat (go_big_quiet_step ((first | (go_at_call 37; with_reducible exact HR.out _) | (go_at_call 38; with_reducible exact HSP.out _) | (go_at_call 39; with_reducible exact HHS.out _))))
    refine wpQuiet_nil ?_
    rintro w2 ⟨⟨W2, hW2⟩, hw2⟩
    obtain rfl : w2 = W2 := hw2
    have HB2 := Lib.hid (HB.out.trans (hW2.mono HB.out.size))
    have HS2 := Lib.hid (HS.out.later hW2)
    have HP2 := Lib.hid (HP.out.later hW2)
    have HQ2 := Lib.hid (HQ.out.later hW2)
    clear HR HSP HHS g0 g1 g2 g3 hne p0 p1 q0 q1 hW2 HB HS HP HQ
    obtain ⟨p0, p1⟩ := pl_cells HP2.out.at_
    obtain ⟨q0, q1⟩ := pt_cells HQ2.out.at_
    have hz : (w.alloc (.cells #[.pointer (some ⟨sb, 0, none⟩), .int .u32 (x : Int)] 34)).heap.size = w.heap.size + 1 := by simp
    rw [hz] at q0 q1
    clear hz
    have hin := HIN.out
    rw [Bool.and_eq_true] at hin
    have HFC := Lib.hid (fun W => fromCorner_any a b n hn62 hin.1 hin.2 W)
    clear hin
    go_upto_region 4 with fail
    go_cut [6, 7] from 25 to 29 (fun v6 v7 wx => ∃ fb, v6 = .pointer (some ⟨fb, 0, none⟩) ∧ v7 = .int .u32 (x : Int) ∧ Below w2.heap.size w2 wx ∧ wx.heap[fb]? = some (ptO (a + 2 ^ n) (b + 2 ^ n)))
    case first =>
      -- DONE {
      have s1 : (w2.alloc (.cells #[.int .i64 0, .int .i64 0] 55)).cell? ⟨w.heap.size, 1, none⟩ = some (.int .u32 (x : Int)) := by rw [(bel1 w2 _).cell (p := ⟨w.heap.size, 1, none⟩) (blk_lt p1)]; exact p1
      have s2 : (w2.alloc (.cells #[.int .i64 0, .int .i64 0] 55)).cell? ⟨w.heap.size + 1, 0, none⟩ = some (.int .i64 a) := by rw [(bel1 w2 _).cell (p := ⟨w.heap.size + 1, 0, none⟩) (blk_lt q0)]; exact q0
      have s3 : (w2.alloc (.cells #[.int .i64 0, .int .i64 0] 55)).cell? ⟨w.heap.size + 1, 1, none⟩ = some (.int .i64 b) := by rw [(bel1 w2 _).cell (p := ⟨w.heap.size + 1, 1, none⟩) (blk_lt q1)]; exact q1
      go_region_with (first | (go_at_call 40; refine (HFC.out _).mono ?_; rintro e w3 ⟨rfl, hb3⟩; have HB3 := Lib.hid hb3; clear hb3; (first | (have HK := Lib.hid (far_before p1 HB3.out)) | (have HK := Lib.hid (far_behind p1 HB3.out))); obtain ⟨r1, r2, r3, r4, r5, r6⟩ := HK.out))
      all_goals go_wp2
      all_goals go_meet
      all_goals first | exact ⟨_, rfl, rfl, far_end1 HB3.out⟩ | exact ⟨_, rfl, rfl, far_end2 HB3.out⟩
      -- }
    case rest =>
      obtain ⟨fb, rfl, rfl, hb, hf⟩ := hcut
      have HB3 := Lib.hid (HB2.out.trans (hb.mono HB2.out.size))
      have HS3 := Lib.hid (HS2.out.later hb)
      have HP3 := Lib.hid (HP2.out.later hb)
      have HF3 := Lib.hid hf
      clear hb hf HB2 HS2 HP2 HQ2 HFC p0 p1 q0 q1
      have HA : Hid (alK N n (kidZ N x) a b = (getZ N (n + 1) x (a + 2 ^ n) (b + 2 ^ n) == 1)) := by
        show _ = _
        rw [al_root, HIN.out]; rfl
      clear HIN
      generalize a + 2 ^ n = X at *
      generalize b + 2 ^ n = Y at *
      go_wp2_with fail
      go_loopg [5, 7, 8, 9] (n + 1) (fun m lv xv kv tv wr => ∃ j y : Nat, m = j ∧ lv = .int .i64 (j : Int) ∧ xv = .int .u32 (y : Int) ∧ Sq N j y ∧ getZ N j y X Y = getZ N (n + 1) x X Y ∧ j ≤ n + 1 ∧ Below wc.heap.size wc wr)
      case atStart => exact ⟨n + 1, x, rfl, by simp, rfl, HX.out, rfl, Nat.le_refl _, Below.refl _ _⟩
      case round =>
        obtain ⟨j, y, hmj, rfl, rfl, hs, hg, hm, hb⟩ := hrel
        have HMJ := Lib.hid hmj
        clear hmj
        have HSQ := Lib.hid hs
        have HG := Lib.hid hg
        have HBL := Lib.hid hb
        have HS4 := Lib.hid (HS3.out.later hb)
        obtain ⟨p0, p1⟩ := pl_cells (HP3.out.later hb).at_
        have HF4 : Hid (wr.heap[fb]? = some (ptO X Y)) := by
          show _ = _
          rw [hb.block fb (Array.getElem?_eq_some_iff.1 HF3.out).1]; exact HF3.out
        clear hs hg hb HS3 HP3 HF3
        cases j with
        | zero =>
          have HY : Hid (alK N n (kidZ N x) a b = ((y : Int) == 1)) := by
            show _ = _
            rw [HA.out, ← HG.out]
            show (y == 1) = _
            by_cases hy : y = 1
            · subst hy; rfl
            · rw [beq_eq_false_iff_ne.2 hy, beq_eq_false_iff_ne.2 (by omega)]
          clear HG HA
          go_wp2
          go_ret
          exact ⟨by rw [HY.out]; rfl, HB3.out.trans (HBL.out.mono HB3.out.size)⟩
        | succ j =>
          have hgt : decide ((0 : Int) < ((j + 1 : Nat) : Int)) = true := by simp
          have hcast : ((j + 1 : Nat) : Int) = (j : Int) + 1 := by omega
          go_wp2_with fail
          refine (of_sq HS4.out HSQ.out).mono ?_
          rintro e w5 ⟨rfl, hb⟩
          have HB5 := Lib.hid hb
          have hf5 : w5.heap[fb]? = some (ptO X Y) := by
            rw [hb.block fb (Array.getElem?_eq_some_iff.1 HF4.out).1]; exact HF4.out
          obtain ⟨f0, f1⟩ := pt_cells (by rw [(bel1 w5 (.cells #[.int .u32 ((kidZ N y).1 : Int), .int .u32 ((kidZ N y).2.1 : Int), .int .u32 ((kidZ N y).2.2.1 : Int), .int .u32 ((kidZ N y).2.2.2 : Int)] 63)).block fb (Array.getElem?_eq_some_iff.1 hf5).1]; exact hf5)
          clear hb hf5
          unfold kv
          go_wp2_with fail
          have hj62 : j < 62 := by omega
          refine (quarter_any X Y j hj62 _).mono ?_
          rintro e w6 ⟨rfl, hb⟩
          have HB6 := Lib.hid ((bel1 w5 _).trans (hb.mono (by simp)))
          have kc := kcell ((k_new w5 (kidZ N y)).later hb) (qb j X) (qb j Y)
          have HGN : Hid (getZ N (j + 1) y X Y = getZ N j (pick (kidZ N y) (qb j X) (qb j Y)) X Y) := rfl
          have HSN := Lib.hid (HSQ.out.kid HS4.out.wf (qb j X) (qb j Y))
          have q4 := qn_lt (qb j X) (qb j Y)
          have q4' : ((qn (qb j X) (qb j Y) : Nat) : Int) < 4 := by omega
          have q0' : (0 : Int) ≤ ((qn (qb j X) (qb j Y) : Nat) : Int) := by omega
          clear hb
          generalize qn (qb j X) (qb j Y) = q at *
          generalize pick (kidZ N y) (qb j X) (qb j Y) = y2 at *
          go_wp2_with fail
          go_roundg j
          case measure => rw [HMJ.out]; omega
          case rel =>
            have hb5 := HBL.out.trans (HB5.out.mono HBL.out.size)
            exact ⟨j, y2, rfl, by go_num, rfl, HSN.out, by rw [← HGN.out, HG.out], by omega, hb5.trans (HB6.out.mono hb5.size)⟩
end Go.Proofs.YtaapkngpnlnjeaaGreatDoor
end

section
namespace Go.Proofs.YtaapkngpnlnjeaaGreatDoor
open Go.RowKit Go.Maps
set_option maxRecDepth 100000

/-- A store has gone on: its squares stay, at most c are new. -/
structure Nx (sb tb most : Nat) (w : World) (g : Nat) (N : List Nd) (c : Nat) (w' : World) (g' : Nat) (N' : List Nd) : Prop where
  st : ∃ cap, St w' sb g' tb cap most N'
  frm : Frm [sb, g, tb] w w'
  gin : g' = g ∨ w.heap.size ≤ g'
  ext : ∃ E, N' = N ++ E ∧ E.length ≤ c
theorem Nx.of_below {w w' : World} {sb g tb cap most : Nat} {N : List Nd} (h : St w sb g tb cap most N) (hb : Below w.heap.size w w') : Nx sb tb most w g N 0 w' g N :=
  ⟨⟨cap, h.later hb⟩, Frm.of_below hb, Or.inl rfl, [], by simp, by simp⟩
theorem Nx.trans {w w' w'' : World} {sb tb most g g' g'' c c' : Nat} {N N' N'' : List Nd} (h : Nx sb tb most w g N c w' g' N') (h' : Nx sb tb most w' g' N' c' w'' g'' N'') : Nx sb tb most w g N (c + c') w'' g'' N'' := by
  refine ⟨h'.st, h.frm.trans h'.frm (fun b hb => ?_), ?_, ?_⟩
  · simp only [List.mem_cons, List.not_mem_nil, or_false] at hb
    rcases hb with e | e | e
    · exact Or.inl (by simp [e])
    · rcases h.gin with e' | e'
      · exact Or.inl (by simp [e, e'])
      · exact Or.inr (by omega)
    · exact Or.inl (by simp [e])
  · rcases h'.gin with e | e
    · rw [e]; exact h.gin
    · exact Or.inr (Nat.le_trans h.frm.size e)
  · obtain ⟨E, e1, e2⟩ := h.ext
    obtain ⟨F, f1, f2⟩ := h'.ext
    exact ⟨E ++ F, by rw [f1, e1, List.append_assoc], by rw [List.length_append]; omega⟩
theorem Nx.mono {w w' : World} {sb tb most g g' c c' : Nat} {N N' : List Nd} (h : Nx sb tb most w g N c w' g' N') (hc : c ≤ c') : Nx sb tb most w g N c' w' g' N' := by
  obtain ⟨E, e1, e2⟩ := h.ext
  exact ⟨h.st, h.frm, h.gin, E, e1, Nat.le_trans e2 hc⟩
theorem Ob.nx {w w' : World} {sb tb most g g' c b : Nat} {N N' : List Nd} {o : Obj} (h : Ob w sb g tb b o) (hn : Nx sb tb most w g N c w' g' N') : Ob w' sb g' tb b o := by
  refine ⟨by rw [hn.frm.block b h.lt (by simp [h.sb_, h.g_, h.tb_])]; exact h.at_, h.sb_, ?_, h.tb_⟩
  rcases hn.gin with e | e
  · rw [e]; exact h.g_
  · have := h.lt; omega
theorem Nx.wf {w w' : World} {sb tb most g g' c : Nat} {N N' : List Nd} (h : Nx sb tb most w g N c w' g' N') : Wf N' := by obtain ⟨_, hs⟩ := h.st; exact hs.wf
theorem St.keep {w w' : World} {sb g tb cap most : Nat} {N : List Nd} (h : St w sb g tb cap most N) (h1 : w'.heap[sb]? = w.heap[sb]?) (h2 : w'.heap[g]? = w.heap[g]?) (h3 : w'.heap[tb]? = w.heap[tb]?) : St w' sb g tb cap most N := by
  refine ⟨by rw [h1]; exact h.blk, ⟨h.row.1, ?_⟩, h.tab.blk h3, h.wf, h.room, h.most_le, h.ne⟩
  rcases h.row.2 with ⟨hv, _⟩ | ⟨g', cp, cur, hv, h0, hg, hr⟩
  · cases hv
  · cases hv; exact Or.inr ⟨g, cap, cur, rfl, h0, by rw [h2]; exact hg, hr⟩
/-- A store into a block that was not there. -/
theorem Nx.set {w w' : World} {sb tb most g g' c b i : Nat} {N N' : List Nd} {o : Obj} (h : Nx sb tb most w g N c w' g' N') (hb : Ob w' sb g' tb b o) (hw : w.heap.size ≤ b) (v : Value) : Nx sb tb most w g N c (w'.setCell ⟨b, i, none⟩ v) g' N' := by
  obtain ⟨cap, hs⟩ := h.st
  refine ⟨⟨cap, hs.keep (Below.heap_setCell _ _ _ _ (Ne.symm hb.sb_)) (Below.heap_setCell _ _ _ _ (Ne.symm hb.g_)) (Below.heap_setCell _ _ _ _ (Ne.symm hb.tb_))⟩, ⟨h.frm.os, h.frm.tape, h.frm.output, by simpa using h.frm.size, fun b' hb' hn => ?_⟩, h.gin, h.ext⟩
  rw [Below.heap_setCell _ _ _ _ (by show b' ≠ b; omega)]
  exact h.frm.block b' hb' hn
/-- Make of four squares of a level. -/
theorem make_sq {w : World} {sb g tb cap most : Nat} {N : List Nd} (h : St w sb g tb cap most N) {n : Nat} (hn : n < 62) {k : K4} (hk : Fo N n k) :
    Calls Tryz.prog 58 #[.pointer (some ⟨sb, 0, none⟩), .agg #[.int .u32 (k.1 : Int), .int .u32 (k.2.1 : Int), .int .u32 (k.2.2.1 : Int), .int .u32 (k.2.2.2 : Int)]] w fun e w' => ∃ g' N', Nx sb tb most w g N 1 w' g' N' ∧
      ((∃ r : Nat, e = .returned (.tuple #[.int .u32 (r : Int), .nilIface]) ∧ Sq N' (n + 1) r ∧ kidZ N' r = k ∧ ((∃ x, Sq N (n + 1) x ∧ kidZ N x = k) → N' = N)) ∨ (e = .returned (.tuple #[.int .u32 0, .iface 48 (.int .i64 7)]) ∧ most ≤ N'.length)) := by
  have hin : InK k := by
    have h' := fo_iff.1 hk
    exact ⟨Sq.u32 h (h' 0 (by omega)), Sq.u32 h (h' 1 (by omega)), Sq.u32 h (h' 2 (by omega)), Sq.u32 h (h' 3 (by omega))⟩
  refine (make_any h k hin).mono ?_
  rintro e w' ⟨g', cap', rfl, hS, hF, hg⟩
  rcases mk_case (most := most) h.wf hn hk with ⟨hm, hfull⟩ | ⟨E, hm, hE, hsq, hkid, hth⟩
  · rw [hm] at hS ⊢
    exact ⟨g', N, ⟨⟨cap', hS⟩, hF, hg, [], by simp, by simp⟩, Or.inr ⟨rfl, hfull⟩⟩
  · rw [hm] at hS
    refine ⟨g', N ++ E, ⟨⟨cap', hS⟩, hF, hg, E, rfl, hE⟩, Or.inl ⟨(mkZ N most k).2.1, ?_, hsq, hkid, fun hx => by rw [hth hx, List.append_nil]⟩⟩
    rw [show (mkZ N most k).2.2 = 0 by rw [hm]]
    rfl
def kV (k : K4) : Value := .agg #[.int .u32 (k.1 : Int), .int .u32 (k.2.1 : Int), .int .u32 (k.2.2.1 : Int), .int .u32 (k.2.2.2 : Int)]
def kO (k : K4) : Obj := .cells #[.int .u32 (k.1 : Int), .int .u32 (k.2.1 : Int), .int .u32 (k.2.2.1 : Int), .int .u32 (k.2.2.2 : Int)] 63 (0, 0)
theorem k_cells {w : World} {b : Nat} {k : K4} (h : w.heap[b]? = some (kO k)) : w.cell? ⟨b, 0, none⟩ = some (.int .u32 (k.1 : Int)) ∧ w.cell? ⟨b, 1, none⟩ = some (.int .u32 (k.2.1 : Int)) ∧ w.cell? ⟨b, 2, none⟩ = some (.int .u32 (k.2.2.1 : Int)) ∧ w.cell? ⟨b, 3, none⟩ = some (.int .u32 (k.2.2.2 : Int)) :=
  ⟨by rw [Lib.cell_of_heap h]; rfl, by rw [Lib.cell_of_heap h]; rfl, by rw [Lib.cell_of_heap h]; rfl, by rw [Lib.cell_of_heap h]; rfl⟩
theorem k_cell {w : World} {b : Nat} {k : K4} (h : w.heap[b]? = some (kO k)) {i : Nat} (hi : i < 4) : w.cell? ⟨b, i, none⟩ = some (.int .u32 (kAt k i : Int)) ∧ w.frozen? ⟨b, i, none⟩ = false := by
  obtain ⟨c0, c1, c2, c3⟩ := k_cells h
  refine ⟨?_, Lib.frozen_of_heap h i⟩
  have : i = 0 ∨ i = 1 ∨ i = 2 ∨ i = 3 := by omega
  rcases this with rfl | rfl | rfl | rfl
  · exact c0
  · exact c1
  · exact c2
  · exact c3
theorem k_set {w : World} {b : Nat} {k : K4} (h : w.heap[b]? = some (kO k)) {i : Nat} (hi : i < 4) (v : Nat) : (w.setCell ⟨b, i, none⟩ (.int .u32 (v : Int))).heap[b]? = some (kO (mk4 fun j => if j = i then v else kAt k j)) := by
  have : i = 0 ∨ i = 1 ∨ i = 2 ∨ i = 3 := by omega
  rcases this with rfl | rfl | rfl | rfl <;> simp only [World.setCell, Array.getElem?_modify, h, kO, mk4, kAt] <;> simp
theorem kix (k : K4) {i : Nat} (hi : i < 4) (w : World) : (Instr.index 63 (.agg #[.int .u32 (k.1 : Int), .int .u32 (k.2.1 : Int), .int .u32 (k.2.2.1 : Int), .int .u32 (k.2.2.2 : Int)]) (.int .i64 (i : Int))).run Tryz.prog w = .ok (.int .u32 (kAt k i : Int)) w := by
  have : i = 0 ∨ i = 1 ∨ i = 2 ∨ i = 3 := by omega
  rcases this with rfl | rfl | rfl | rfl
  · exact kix0 _ _ _ _ w
  · exact kix1 _ _ _ _ w
  · exact kix2 _ _ _ _ w
  · exact kix3 _ _ _ _ w
/-- A store into a block of one's own, beside a store. -/
theorem Ob.set {w : World} {sb g tb b : Nat} {k : K4} (h : Ob w sb g tb b (kO k)) {i : Nat} (hi : i < 4) (v : Nat) : Ob (w.setCell ⟨b, i, none⟩ (.int .u32 (v : Int))) sb g tb b (kO (mk4 fun j => if j = i then v else kAt k j)) :=
  ⟨k_set h.at_ hi v, h.sb_, h.g_, h.tb_⟩
theorem Ob.other {w : World} {sb g tb b : Nat} {o : Obj} (h : Ob w sb g tb b o) {p : Addr} (hp : p.block ≠ b) (v : Value) : Ob (w.setCell p v) sb g tb b o :=
  ⟨by rw [Below.heap_setCell _ _ _ _ (Ne.symm hp)]; exact h.at_, h.sb_, h.g_, h.tb_⟩
/-- A block for a result that is a plane. -/
theorem res_cells {w : World} {b : Nat} {p v : Value} (h : w.heap[b]? = some (.cells #[p, v] 34 (0, 0))) : w.cell? ⟨b, 0, none⟩ = some p ∧ w.cell? ⟨b, 1, none⟩ = some v ∧ w.frozen? ⟨b, 0, none⟩ = false ∧ w.frozen? ⟨b, 1, none⟩ = false :=
  ⟨by rw [Lib.cell_of_heap h]; rfl, by rw [Lib.cell_of_heap h]; rfl, Lib.frozen_of_heap h 0, Lib.frozen_of_heap h 1⟩
theorem pl_set0 {w : World} {b : Nat} {p v : Value} (h : w.heap[b]? = some (.cells #[p, v] 34 (0, 0))) (p' : Value) : (w.setCell ⟨b, 0, none⟩ p').heap[b]? = some (.cells #[p', v] 34 (0, 0)) := by
  simp only [World.setCell, Array.getElem?_modify, h]; simp
theorem pl_set1 {w : World} {b : Nat} {p v : Value} (h : w.heap[b]? = some (.cells #[p, v] 34 (0, 0))) (v' : Value) : (w.setCell ⟨b, 1, none⟩ v').heap[b]? = some (.cells #[p, v'] 34 (0, 0)) := by
  simp only [World.setCell, Array.getElem?_modify, h]; simp
theorem hasEm_zero {N : List Nd} (hw : Wf N) : HasEm N 0 := fun j hj => by
  obtain rfl : j = 0 := by omega
  exact ⟨0, sq_dead hw, fun _ _ => rfl⟩
/-- A result that is a plane, written. -/
theorem put_pl {w w' : World} {sb tb most g g' c b : Nat} {N N' : List Nd} {p v : Value} (h : Nx sb tb most w g N c w' g' N') (hb : Ob w' sb g' tb b (.cells #[p, v] 34 (0, 0))) (hw : w.heap.size ≤ b) (p' v' : Value) :
    ∃ W, (w'.setCell ⟨b, 0, none⟩ p').setCell ⟨b, 1, none⟩ v' = W ∧ Nx sb tb most w g N c W g' N' ∧ Ob W sb g' tb b (.cells #[p', v'] 34 (0, 0)) ∧ W.cell? ⟨b, 0, none⟩ = some p' ∧ W.cell? ⟨b, 1, none⟩ = some v' := by
  have h0 : Ob (w'.setCell ⟨b, 0, none⟩ p') sb g' tb b (.cells #[p', v] 34 (0, 0)) := ⟨pl_set0 hb.at_ _, hb.sb_, hb.g_, hb.tb_⟩
  have h1 : Ob ((w'.setCell ⟨b, 0, none⟩ p').setCell ⟨b, 1, none⟩ v') sb g' tb b (.cells #[p', v'] 34 (0, 0)) := ⟨pl_set1 h0.at_ _, hb.sb_, hb.g_, hb.tb_⟩
  exact ⟨_, rfl, (h.set hb hw p').set h0 hw v', h1, (res_cells h1.at_).1, (res_cells h1.at_).2.1⟩
set_option maxHeartbeats 1000000 in
theorem inCorner_any {w : World} {sb g tb cap most : Nat} {N : List Nd} (h : St w sb g tb cap most N) {n x e0 at_ z : Nat} (hn : n < 62) (hx : Sq N n x) (he : Sq N n e0) (ha : at_ < 4) :
    Calls Tryz.prog 70 #[.agg #[.pointer (some ⟨sb, 0, none⟩), .int .u32 (z : Int)], .int .u32 (x : Int), .int .i64 (at_ : Int), .int .u32 (e0 : Int)] w fun e w' => ∃ g' N', Nx sb tb most w g N 1 w' g' N' ∧
      ((∃ r : Nat, e = .returned (.tuple #[.int .u32 (r : Int), .nilIface]) ∧ Sq N' (n + 1) r ∧ kidZ N' r = corn e0 x at_) ∨ (e = .returned (.tuple #[.int .u32 0, .iface 48 (.int .i64 7)]) ∧ most ≤ N'.length)) := by
  have HB := Lib.hid (bel2 w (.cells #[.pointer (some ⟨sb, 0, none⟩), .int .u32 (z : Int)] 34) (.cells #[.int .u32 (e0 : Int), .int .u32 (e0 : Int), .int .u32 (e0 : Int), .int .u32 (e0 : Int)] 63))
  have HS := Lib.hid h
  have HP := Lib.hid ((Ob.new h #[.pointer (some ⟨sb, 0, none⟩), .int .u32 (z : Int)] 34).later (bel1 _ (.cells #[.int .u32 (e0 : Int), .int .u32 (e0 : Int), .int .u32 (e0 : Int), .int .u32 (e0 : Int)] 63)))
  have hk0 := Ob.new (h.later (bel1 _ (.cells #[.pointer (some ⟨sb, 0, none⟩), .int .u32 (z : Int)] 34))) #[.int .u32 (e0 : Int), .int .u32 (e0 : Int), .int .u32 (e0 : Int), .int .u32 (e0 : Int)] 63
  have hz : (w.alloc (.cells #[.pointer (some ⟨sb, 0, none⟩), .int .u32 (z : Int)] 34)).heap.size = w.heap.size + 1 := by simp
  rw [hz] at hk0
  have hk1 : Ob _ sb g tb (w.heap.size + 1) (kO (e0, e0, e0, e0)) := hk0
  have HK := Lib.hid hk1
  have HX := Lib.hid hx
  have HE := Lib.hid he
  obtain ⟨f0, f1⟩ := k_cell HK.out.at_ ha
  have a4 : ((at_ : Nat) : Int) < 4 := by omega
  have a0 : (0 : Int) ≤ (at_ : Int) := by omega
  clear h hx he hk0 hk1 hz
  go_enter Tryz.func70, Tryz.ntmps70
  go_upto_region 2 with fail
  generalize (w.alloc (.cells #[.pointer (some ⟨sb, 0, none⟩), .int .u32 (z : Int)] 34)).alloc (.cells #[.int .u32 (e0 : Int), .int .u32 (e0 : Int), .int .u32 (e0 : Int), .int .u32 (e0 : Int)] 63) = W0 at *
  go_upto_region 3 with fail
  have HB1 := Lib.hid (HB.out.setCell (p := ⟨w.heap.size + 1, at_, none⟩) (by simp) (.int .u32 (x : Int)))
  have hk1 := HK.out.set ha x
  rw [show (mk4 fun j => if j = at_ then x else kAt (e0, e0, e0, e0) j) = corn e0 x at_ from mk4_ext fun i hi => by
    have : i = 0 ∨ i = 1 ∨ i = 2 ∨ i = 3 := by omega
    rcases this with rfl | rfl | rfl | rfl <;> rfl] at hk1
  have HK1 := Lib.hid hk1
  have HP1 := Lib.hid (HP.out.other (p := ⟨w.heap.size + 1, at_, none⟩) (by simp) (.int .u32 (x : Int)))
  clear hk1 HK HP f0 f1 HB
  generalize W0.setCell ⟨w.heap.size + 1, at_, none⟩ (.int .u32 (x : Int)) = W1 at *
  have HFO := Lib.hid (corn_fo (at_ := at_) HE.out HX.out)
  generalize hck : corn e0 x at_ = k at *
  have HCK := Lib.hid hck
  clear hck
  obtain ⟨p0, p1⟩ := pl_cells HP1.out.at_
  obtain ⟨k0, k1, k2, k3⟩ := k_cells HK1.out.at_
  have HS1 := Lib.hid (HS.out.later HB1.out)
  go_wp2_with fail
  refine (make_sq HS1.out hn HFO.out).mono ?_
  rintro e W2 ⟨g', N', hnx, ⟨r, rfl, hsq, hkd, _⟩ | ⟨rfl, hfull⟩⟩
  · have HN := Lib.hid ((Nx.of_below HS.out HB1.out).trans hnx)
    have HR := Lib.hid (And.intro hsq hkd)
    clear hnx hsq hkd
    go_wp2_with fail
    go_ret2
    exact ⟨g', N', HN.out.mono (by omega), Or.inl ⟨r, rfl, by rw [HCK.out]; exact HR.out⟩⟩
  · have HN := Lib.hid ((Nx.of_below HS.out HB1.out).trans hnx)
    have HR := Lib.hid hfull
    clear hnx hfull
    go_wp2_with fail
    go_ret2
    exact ⟨g', N', HN.out.mono (by omega), Or.inr ⟨rfl, HR.out⟩⟩
set_option maxHeartbeats 1000000 in
/-- The plane of four. -/
theorem of4_any {w : World} {sb g tb cap most : Nat} {N : List Nd} (h : St w sb g tb cap most N) {n z : Nat} (hn : n < 62) {k : K4} (hk : Fo N n k) :
    Calls Tryz.prog 66 #[.agg #[.pointer (some ⟨sb, 0, none⟩), .int .u32 (z : Int)], .agg #[.int .u32 (k.1 : Int), .int .u32 (k.2.1 : Int), .int .u32 (k.2.2.1 : Int), .int .u32 (k.2.2.2 : Int)]] w fun e w' => ∃ g' N', Nx sb tb most w g N 1 w' g' N' ∧
      ((∃ r : Nat, e = .returned (.tuple #[plV sb r, .nilIface]) ∧ Sq N' (n + 1) r ∧ kidZ N' r = k) ∨ (e = .returned (.tuple #[.agg #[.pointer none, .int .u32 0], .iface 48 (.int .i64 7)]) ∧ most ≤ N'.length)) := by
  have HS := Lib.hid h
  have HB := Lib.hid (bel3 w (.cells #[.pointer (some ⟨sb, 0, none⟩), .int .u32 (z : Int)] 34) (.cells #[.int .u32 (k.1 : Int), .int .u32 (k.2.1 : Int), .int .u32 (k.2.2.1 : Int), .int .u32 (k.2.2.2 : Int)] 63) (.cells #[.pointer none, .int .u32 0] 34))
  have HP := Lib.hid ((Ob.new h #[.pointer (some ⟨sb, 0, none⟩), .int .u32 (z : Int)] 34).later (bel2 _ (.cells #[.int .u32 (k.1 : Int), .int .u32 (k.2.1 : Int), .int .u32 (k.2.2.1 : Int), .int .u32 (k.2.2.2 : Int)] 63) (.cells #[.pointer none, .int .u32 0] 34)))
  have hr0 := Ob.new (h.later (bel2 w (.cells #[.pointer (some ⟨sb, 0, none⟩), .int .u32 (z : Int)] 34) (.cells #[.int .u32 (k.1 : Int), .int .u32 (k.2.1 : Int), .int .u32 (k.2.2.1 : Int), .int .u32 (k.2.2.2 : Int)] 63))) #[.pointer none, .int .u32 0] 34
  have hz : ((w.alloc (.cells #[.pointer (some ⟨sb, 0, none⟩), .int .u32 (z : Int)] 34)).alloc (.cells #[.int .u32 (k.1 : Int), .int .u32 (k.2.1 : Int), .int .u32 (k.2.2.1 : Int), .int .u32 (k.2.2.2 : Int)] 63)).heap.size = w.heap.size + 1 + 1 := by simp
  rw [hz] at hr0
  have HR := Lib.hid hr0
  have HFO := Lib.hid hk
  clear h hk hr0 hz
  go_enter Tryz.func66, Tryz.ntmps66
  go_wp2_with fail
  generalize ((w.alloc (.cells #[.pointer (some ⟨sb, 0, none⟩), .int .u32 (z : Int)] 34)).alloc (.cells #[.int .u32 (k.1 : Int), .int .u32 (k.2.1 : Int), .int .u32 (k.2.2.1 : Int), .int .u32 (k.2.2.2 : Int)] 63)).alloc (.cells #[.pointer none, .int .u32 0] 34) = W1 at *
  have HS1 := Lib.hid (HS.out.later HB.out)
  refine (make_sq HS1.out hn HFO.out).mono ?_
  rintro e W2 ⟨g', N', hnx, hres⟩
  have HN := Lib.hid ((Nx.of_below HS.out HB.out).trans hnx)
  have HP2 := Lib.hid (HP.out.nx hnx)
  have HR2 := Lib.hid (HR.out.nx hnx)
  clear hnx HP HR
  obtain ⟨p0, p1⟩ := pl_cells HP2.out.at_
  obtain ⟨r0, r1, rf0, rf1⟩ := res_cells HR2.out.at_
  rcases hres with ⟨r, rfl, hsq, hkd, _⟩ | ⟨rfl, hfull⟩
  · have HQ := Lib.hid (And.intro hsq hkd)
    clear hsq hkd
    go_wp2_with fail
    obtain ⟨W, hW, hN, _, q0, q1⟩ := put_pl HN.out HR2.out (by omega) (.pointer (some ⟨sb, 0, none⟩)) (.int .u32 (r : Int))
    rw [hW]
    refine bodyPost_ret (v := _) (by simp [results, Tryz.results66, go_sem, q0, q1]; rfl) rfl ?_
    exact ⟨g', N', hN.mono (by omega), Or.inl ⟨r, rfl, HQ.out⟩⟩
  · have HQ := Lib.hid hfull
    clear hfull
    go_wp2_with fail
    obtain ⟨W, hW, hN, _, q0, q1⟩ := put_pl HN.out HR2.out (by omega) (.pointer none) (.int .u32 0)
    rw [hW]
    refine bodyPost_ret (v := _) (by simp [results, Tryz.results66, go_sem, q0, q1]; rfl) rfl ?_
    exact ⟨g', N', hN.mono (by omega), Or.inr ⟨rfl, HQ.out⟩⟩
/-- Empty of a level. -/
theorem empty_sq {w : World} {sb g tb cap most : Nat} {N : List Nd} (h : St w sb g tb cap most N) {n L : Nat} (hn : n ≤ 62) (hL : HasEm N L) :
    Calls Tryz.prog 56 #[.pointer (some ⟨sb, 0, none⟩), .int .i64 (n : Int)] w fun e w' => ∃ g' N', Nx sb tb most w g N (n - L) w' g' N' ∧
      ((∃ r : Nat, e = .returned (.tuple #[.int .u32 (r : Int), .nilIface]) ∧ Em N' n r ∧ HasEm N' (max L n)) ∨ (e = .returned (.tuple #[.int .u32 0, .iface 48 (.int .i64 7)]) ∧ most ≤ N'.length)) := by
  refine (empty_any h n hn).mono ?_
  rintro e w' ⟨g', cap', rfl, hS, hF, hg⟩
  have hE0 : Em N 0 0 := ⟨sq_dead h.wf, fun _ _ => rfl⟩
  rcases em_case (most := most) n h.wf h.room hE0 (by omega) hL (hasEm_zero h.wf) with ⟨E, h1, h2, h3, _⟩ | ⟨E, h1, h2, h3, h4, _⟩
  · rw [h1] at hS ⊢
    exact ⟨g', N ++ E, ⟨⟨cap', hS⟩, hF, hg, E, rfl, by omega⟩, Or.inr ⟨rfl, h3⟩⟩
  · rw [h1] at hS
    refine ⟨g', N ++ E, ⟨⟨cap', hS⟩, hF, hg, E, rfl, by omega⟩, Or.inl ⟨(emZ most n N 0).2.1, ?_, by rw [Nat.zero_add] at h3; exact h3, by rw [Nat.zero_add] at h4; exact h4⟩⟩
    rw [show (emZ most n N 0).2.2 = 0 by rw [h1]]
    rfl
set_option maxHeartbeats 1000000 in
theorem qnew_any {w : World} {sb g tb cap most : Nat} {N : List Nd} (h : St w sb g tb cap most N) :
    Calls Tryz.prog 36 #[.pointer (some ⟨sb, 0, none⟩)] w fun e w' => ∃ g' N', Nx sb tb most w g N 3 w' g' N' ∧
      ((∃ r : Nat, e = .returned (.tuple #[plV sb r, .nilIface]) ∧ Em N' 3 r ∧ HasEm N' 3) ∨ (e = .returned (.tuple #[.agg #[.pointer none, .int .u32 0], .iface 48 (.int .i64 7)]) ∧ most ≤ N'.length)) := by
  have HS := Lib.hid h
  have HB := Lib.hid (bel1 w (.cells #[.pointer none, .int .u32 0] 34))
  have HR := Lib.hid (Ob.new h #[.pointer none, .int .u32 0] 34)
  have HL := Lib.hid (hasEm_zero h.wf)
  clear h
  go_enter Tryz.func36, Tryz.ntmps36
  go_wp2_with fail
  generalize w.alloc (.cells #[.pointer none, .int .u32 0] 34) = W1 at *
  have HS1 := Lib.hid (HS.out.later HB.out)
  refine (empty_sq (n := 3) HS1.out (by omega) HL.out).mono ?_
  rintro e W2 ⟨g', N', hnx, hres⟩
  have HN := Lib.hid ((Nx.of_below HS.out HB.out).trans hnx)
  have HR2 := Lib.hid (HR.out.nx hnx)
  clear hnx HR
  obtain ⟨r0, r1, rf0, rf1⟩ := res_cells HR2.out.at_
  rcases hres with ⟨r, rfl, hem, hl⟩ | ⟨rfl, hfull⟩
  · have HQ := Lib.hid (And.intro hem hl)
    clear hem hl
    go_wp2_with fail
    obtain ⟨W, hW, hN, _, q0, q1⟩ := put_pl HN.out HR2.out (by omega) (.pointer (some ⟨sb, 0, none⟩)) (.int .u32 (r : Int))
    rw [hW]
    refine bodyPost_ret (v := _) (by simp [results, Tryz.results36, go_sem, q0, q1]; rfl) rfl ?_
    exact ⟨g', N', hN.mono (by omega), Or.inl ⟨r, rfl, HQ.out⟩⟩
  · have HQ := Lib.hid hfull
    clear hfull
    go_wp2_with fail
    obtain ⟨W, hW, hN, _, q0, q1⟩ := put_pl HN.out HR2.out (by omega) (.pointer none) (.int .u32 0)
    rw [hW]
    refine bodyPost_ret (v := _) (by simp [results, Tryz.results36, go_sem, q0, q1]; rfl) rfl ?_
    exact ⟨g', N', hN.mono (by omega), Or.inr ⟨rfl, HQ.out⟩⟩
end Go.Proofs.YtaapkngpnlnjeaaGreatDoor
end

section
namespace Go.Proofs.YtaapkngpnlnjeaaGreatDoor
open Go.RowKit Go.Maps
set_option maxRecDepth 100000

theorem kept {w w' : World} {b : Nat} {o : Obj} (h : w.heap[b]? = some o) (hb : Below w.heap.size w w') : w'.heap[b]? = some o := by
  rw [hb.block b (Array.getElem?_eq_some_iff.1 h).1]; exact h
theorem new_2 (w : World) (o1 o2 : Obj) : ((w.alloc o1).alloc o2).heap[w.heap.size + 1]? = some o2 := by
  have := heap_alloc_new (w.alloc o1) o2
  rw [show (w.alloc o1).heap.size = w.heap.size + 1 by simp] at this
  exact this
theorem new_3 (w : World) (o1 o2 o3 : Obj) : (((w.alloc o1).alloc o2).alloc o3).heap[w.heap.size + 1 + 1]? = some o3 := by
  have := heap_alloc_new ((w.alloc o1).alloc o2) o3
  rw [show ((w.alloc o1).alloc o2).heap.size = w.heap.size + 1 + 1 by simp] at this
  exact this
theorem k_res2 {w W : World} {B b : Nat} {k : K4} (hb : Below B w W) (hB : B ≤ b) (h : W.heap[b]? = some (kO k)) (d : K4) :
    ∃ W', ((((W.setCell ⟨b, 0, none⟩ (.int .u32 (d.1 : Int))).setCell ⟨b, 1, none⟩ (.int .u32 (d.2.1 : Int))).setCell ⟨b, 2, none⟩ (.int .u32 (d.2.2.1 : Int))).setCell ⟨b, 3, none⟩ (.int .u32 (d.2.2.2 : Int))) = W' ∧ Below B w W' ∧ W'.heap[b]? = some (kO d) :=
  ⟨_, rfl, (((hb.setCell (p := ⟨b, 0, none⟩) hB _).setCell (p := ⟨b, 1, none⟩) hB _).setCell (p := ⟨b, 2, none⟩) hB _).setCell (p := ⟨b, 3, none⟩) hB _, KAt.put h d⟩
theorem of_sqk {w : World} {sb g tb cap most : Nat} {N : List Nd} (h : St w sb g tb cap most N) {n x : Nat} (hx : Sq N (n + 1) x) :
    Calls Tryz.prog 41 #[.pointer (some ⟨sb, 0, none⟩), .int .u32 (x : Int)] w fun e w' => e = .returned (.tuple #[.agg #[.int .u32 ((kidZ N x).1 : Int), .int .u32 ((kidZ N x).2.1 : Int), .int .u32 ((kidZ N x).2.2.1 : Int), .int .u32 ((kidZ N x).2.2.2 : Int)], .bool true]) ∧ Below w.heap.size w w' := of_sq h hx
set_option maxHeartbeats 2000000 in
theorem middle_any {w : World} {sb g tb cap most : Nat} {N : List Nd} (h : St w sb g tb cap most N) {n : Nat} {k : K4} (hk : Fo N (n + 1) k) :
    Calls Tryz.prog 65 #[.pointer (some ⟨sb, 0, none⟩), .agg #[.int .u32 (k.1 : Int), .int .u32 (k.2.1 : Int), .int .u32 (k.2.2.1 : Int), .int .u32 (k.2.2.2 : Int)]] w fun e w' => e = .returned (.agg #[.int .u32 ((midK N k).1 : Int), .int .u32 ((midK N k).2.1 : Int), .int .u32 ((midK N k).2.2.1 : Int), .int .u32 ((midK N k).2.2.2 : Int)]) ∧ Below w.heap.size w w' := by
  have HS := Lib.hid h
  have HK := Lib.hid hk
  clear h hk
  go_enter Tryz.func65, Tryz.ntmps65
  go_wp2_with fail
  go_loopg [6, 7, 8, 9, 11] 4 (fun m v6 v7 v8 v9 cnt wr => ∃ (j : Nat) (f : Nat → Nat), m = 4 - j ∧ j ≤ 4 ∧ cnt = .int .i64 (j : Int) ∧ wr.heap[w.heap.size + 1 + 1]? = some (kO (mk4 f)) ∧ (∀ i, i < j → f i = midF N k i) ∧ Below w.heap.size w wr ∧ wr.heap[w.heap.size + 1]? = some (kO (0, 0, 0, 0)))
  case atStart =>
    refine ⟨0, fun _ => 0, rfl, Nat.zero_le _, rfl, ?_, fun i hi => by omega, bel3 _ _ _ _, ?_⟩
    · exact new_3 _ _ _ _
    · exact kept (new_2 _ _ _) (bel1 _ _)
  case round =>
    obtain ⟨j, f, hm, hj, rfl, hb, hf, hB, hr⟩ := hrel
    have HM := Lib.hid hm
    have HBK := Lib.hid hb
    have HF := Lib.hid hf
    have HB := Lib.hid hB
    have HR := Lib.hid hr
    have HS1 := Lib.hid (HS.out.later hB)
    clear hm hb hf hB hr
    by_cases hlt : j < 4
    · have hgj : decide ((j : Int) < 4) = true := by simp; omega
      have hix := kix k hlt
      have HX := Lib.hid (fo_iff.1 HK.out j hlt)
      go_wp2_with fail
      refine (of_sqk HS1.out HX.out).mono ?_
      rintro e w5 ⟨rfl, hb⟩
      have HB5 := Lib.hid (HB.out.trans (hb.mono HB.out.size))
      have HBK5 := Lib.hid (kept HBK.out hb)
      have HR5 := Lib.hid (kept HR.out hb)
      clear hb HB HBK HR
      go_wp2_with fail
      refine (across_any j hlt _).mono ?_
      rintro e w6 ⟨rfl, rfl⟩
      have hk6 := k_cell (i := 3 - j) (k := kidZ N (kAt k j)) (heap_alloc_new w5 (.cells #[.int .u32 ((kidZ N (kAt k j)).1 : Int), .int .u32 ((kidZ N (kAt k j)).2.1 : Int), .int .u32 ((kidZ N (kAt k j)).2.2.1 : Int), .int .u32 ((kidZ N (kAt k j)).2.2.2 : Int)] 63)) (by omega)
      have HB6 := Lib.hid (HB5.out.trans ((bel1 w5 (.cells #[.int .u32 ((kidZ N (kAt k j)).1 : Int), .int .u32 ((kidZ N (kAt k j)).2.1 : Int), .int .u32 ((kidZ N (kAt k j)).2.2.1 : Int), .int .u32 ((kidZ N (kAt k j)).2.2.2 : Int)] 63)).mono HB5.out.size))
      have HBK6 := Lib.hid (kept HBK5.out (bel1 w5 (.cells #[.int .u32 ((kidZ N (kAt k j)).1 : Int), .int .u32 ((kidZ N (kAt k j)).2.1 : Int), .int .u32 ((kidZ N (kAt k j)).2.2.1 : Int), .int .u32 ((kidZ N (kAt k j)).2.2.2 : Int)] 63)))
      have HR6 := Lib.hid (kept HR5.out (bel1 w5 (.cells #[.int .u32 ((kidZ N (kAt k j)).1 : Int), .int .u32 ((kidZ N (kAt k j)).2.1 : Int), .int .u32 ((kidZ N (kAt k j)).2.2.1 : Int), .int .u32 ((kidZ N (kAt k j)).2.2.2 : Int)] 63)))
      have hm6 := k_cell HBK6.out hlt
      generalize w5.alloc (.cells #[.int .u32 ((kidZ N (kAt k j)).1 : Int), .int .u32 ((kidZ N (kAt k j)).2.1 : Int), .int .u32 ((kidZ N (kAt k j)).2.2.1 : Int), .int .u32 ((kidZ N (kAt k j)).2.2.2 : Int)] 63) = W6 at *
      clear HBK5 HR5 HB5
      have hcast : (3 : Int) - (j : Int) = ((3 - j : Nat) : Int) := by omega
      obtain ⟨t1, t2⟩ := hk6
      obtain ⟨t3, t4⟩ := hm6
      have i1 : (0 : Int) ≤ ((3 - j : Nat) : Int) := by omega
      have i2 : ((3 - j : Nat) : Int) < 4 := by omega
      have i3 : (0 : Int) ≤ (j : Int) := by omega
      have i4 : (j : Int) < 4 := by omega
      rw [hcast]
      clear hcast
      have HV : Hid (kAt (kidZ N (kAt k j)) (3 - j) = midF N k j) := rfl
      generalize kAt (kidZ N (kAt k j)) (3 - j) = v at *
      generalize 3 - j = q at *
      go_wp2_with fail
      go_roundg (4 - (j + 1))
      case measure => rw [HM.out]; omega
      case rel =>
        refine ⟨j + 1, fun i => if i = j then v else f i, rfl, by omega, by go_num, ?_, fun i hi => ?_, HB6.out.setCell (p := ⟨w.heap.size + 1 + 1, j, none⟩) (by show _ ≤ _ + 1 + 1; omega) _, ?_⟩
        · rw [k_set HBK6.out hlt v]
          refine congrArg some (congrArg kO (mk4_ext fun i hi => ?_))
          show (if i = j then v else kAt (mk4 f) i) = _
          rw [kAt_mk4 _ hi]
        · show (if i = j then v else f i) = _
          by_cases e : i = j
          · subst e; rw [if_pos rfl]; exact HV.out
          · rw [if_neg e]; exact HF.out i (by omega)
        · rw [Below.heap_setCell _ _ _ _ (by simp)]; exact HR6.out
    · obtain rfl : j = 4 := by omega
      have hgj : decide (((4 : Nat) : Int) < 4) = false := by simp
      have HE : Hid (mk4 f = midK N k) := mk4_ext HF.out
      rw [HE.out] at HBK
      obtain ⟨c0, c1, c2, c3⟩ := k_cells HBK.out
      obtain ⟨r0, r1, r2, r3, q0, q1, q2, q3⟩ := KAt.cells (k := (0, 0, 0, 0)) HR.out
      go_wp2_with fail
      obtain ⟨W, hW, hb, hk⟩ := k_res2 HB.out (by omega) HR.out (midK N k)
      rw [hW]
      obtain ⟨t0, t1, t2, t3⟩ := k_cells hk
      refine bodyPost_ret (v := _) (by simp [results, Tryz.results65, go_sem, t0, t1, t2, t3]; rfl) rfl ?_
      exact ⟨rfl, hb⟩
end Go.Proofs.YtaapkngpnlnjeaaGreatDoor
end
