/- Package quad: Get: contract. -/
import Derived.Test.YtgciceogggldhaaUp
namespace Go.Proofs.Ytgciceogggldhaa
open Go.RowKit Go.Maps
set_option maxRecDepth 100000

/-- What a block of one's own holds, beside a store's. -/
structure Ob (w : World) (sb g tb b : Nat) (o : Obj) : Prop where
  at_ : w.heap[b]? = some o
  sb_ : b ≠ sb
  g_ : b ≠ g
  tb_ : b ≠ tb
theorem Ob.lt {w : World} {sb g tb b : Nat} {o : Obj} (h : Ob w sb g tb b o) : b < w.heap.size := (Array.getElem?_eq_some_iff.1 h.at_).1
theorem Ob.later {w w' : World} {sb g tb b : Nat} {o : Obj} (h : Ob w sb g tb b o) (hb : Below w.heap.size w w') : Ob w' sb g tb b o := ⟨by rw [hb.block b h.lt]; exact h.at_, h.sb_, h.g_, h.tb_⟩
theorem Ob.new {w : World} {sb g tb cap most : Nat} {N : List Nd} (h : St w sb g tb cap most N) (cs : Array Value) (t : TypeId) : Ob (w.alloc (.cells cs t)) sb g tb w.heap.size (.cells cs t (0, 0)) := by
  obtain ⟨l1, l2, l3⟩ := h.lt
  exact ⟨heap_alloc_new w _, by omega, by omega, by omega⟩
def plO (sb x : Nat) : Obj := .cells #[.pointer (some ⟨sb, 0, none⟩), .int .u32 (x : Int)] 36 (0, 0)
def plV (sb x : Nat) : Value := .agg #[.pointer (some ⟨sb, 0, none⟩), .int .u32 (x : Int)]
def ptO (a b : Int) : Obj := .cells #[.int .i64 a, .int .i64 b] 27 (0, 0)
theorem pl_cells {w : World} {b sb x : Nat} (h : w.heap[b]? = some (plO sb x)) : w.cell? ⟨b, 0, none⟩ = some (.pointer (some ⟨sb, 0, none⟩)) ∧ w.cell? ⟨b, 1, none⟩ = some (.int .u32 (x : Int)) :=
  ⟨by rw [Lib.cell_of_heap h]; rfl, by rw [Lib.cell_of_heap h]; rfl⟩
theorem pt_cells {w : World} {b : Nat} {x y : Int} (h : w.heap[b]? = some (ptO x y)) : w.cell? ⟨b, 0, none⟩ = some (.int .i64 x) ∧ w.cell? ⟨b, 1, none⟩ = some (.int .i64 y) :=
  ⟨by rw [Lib.cell_of_heap h]; rfl, by rw [Lib.cell_of_heap h]; rfl⟩
theorem Sq.u32 {w : World} {sb g tb cap most : Nat} {N : List Nd} (h : St w sb g tb cap most N) {n x : Nat} (hx : Sq N n x) : x < 4294967296 := by
  have := hx.lt; have := h.room; have := h.most_le; omega
theorem Sq.le62 {N : List Nd} (hw : Wf N) {n x : Nat} (h : Sq N (n + 1) x) : n < 62 := by
  obtain ⟨nd, e, _, hl, _⟩ := h.node hw
  have := hw.lv_le e
  omega
theorem has_span (n : Nat) (a b : Int) (w : World) : Calls Try.prog 29 #[.agg #[.int .i64 (-2 ^ n), .int .i64 (-2 ^ n), .int .i64 (2 ^ n), .int .i64 (2 ^ n)], .agg #[.int .i64 a, .int .i64 b]] w fun e w' => e = .returned (.bool (inS n a && inS n b)) ∧ Below w.heap.size w w' := by
  have := has_any (-2 ^ n) (-2 ^ n) (2 ^ n) (2 ^ n) a b w
  rw [Bool.and_assoc] at this
  exact this
theorem right_sq {w : World} {sb g tb cap most : Nat} {N : List Nd} (h : St w sb g tb cap most N) {n x : Nat} (hx : Sq N (n + 1) x) (hn : 2 ≤ n) : Calls Try.prog 27 #[.agg #[.pointer (some ⟨sb, 0, none⟩), .int .u32 (x : Int)]] w fun e w' => e = .returned (.bool true) ∧ Below w.heap.size w w' := by
  have := right_any h x (Sq.u32 h hx)
  rw [decide_eq_true (show 3 ≤ lvZ N x by rw [show lvZ N x = ((n + 1 : Nat) : Int) from hx]; omega)] at this
  exact this
theorem of_sq {w : World} {sb g tb cap most : Nat} {N : List Nd} (h : St w sb g tb cap most N) {n x : Nat} (hx : Sq N (n + 1) x) :
    Calls Try.prog 22 #[.pointer (some ⟨sb, 0, none⟩), .int .u32 (x : Int)] w fun e w' => e = .returned (.tuple #[kv (kidZ N x), .bool true]) ∧ Below w.heap.size w w' := by
  obtain ⟨nd, e, _, hl, hk⟩ := hx.node h.wf
  rw [← hk]
  exact of_good h x (Sq.u32 h hx) e (by omega)
theorem qn_lt (r b : Bool) : qn r b < 4 := by cases r <;> cases b <;> decide
theorem kcell {w : World} {b : Nat} {k : K4} (h : KAt w b k) (r c : Bool) : w.cell? ⟨b, qn r c, none⟩ = some (.int .u32 (pick k r c : Int)) := by
  obtain ⟨c0, c1, c2, c3, _⟩ := h.cells
  cases r <;> cases c
  · exact c0
  · exact c2
  · exact c1
  · exact c3
theorem far_before {W w3 : World} {p : Addr} {v : Value} (h : W.cell? p = some v) (hb : Below W.drew.heap.size W.drew w3) : w3.cell? p = some v ∧ (∀ cs t, (w3.alloc (.cells cs t)).cell? p = some v) ∧ True ∧ True ∧ True ∧ True := by
  have hl := blk_lt h
  have h3 : w3.cell? p = some v := by rw [hb.cell (p := p) hl]; exact h
  refine ⟨h3, fun cs t => ?_, trivial, trivial, trivial, trivial⟩
  rw [(bel1 w3 (.cells cs t)).cell (p := p) (blk_lt h3)]; exact h3
theorem far_behind {W w3 : World} {p : Addr} {v : Value} (h : W.cell? p = some v) (hb : Below (W.alloc (.cells #[.int .i64 0, .int .i64 0] 27)).drew.heap.size (W.alloc (.cells #[.int .i64 0, .int .i64 0] 27)).drew w3) :
    w3.cell? p = some v ∧ (∀ x y, ((w3.setCell ⟨W.heap.size, 0, none⟩ x).setCell ⟨W.heap.size, 1, none⟩ y).cell? p = some v) ∧ w3.cell? ⟨W.heap.size, 0, none⟩ = some (.int .i64 0) ∧ w3.cell? ⟨W.heap.size, 1, none⟩ = some (.int .i64 0) ∧ w3.frozen? ⟨W.heap.size, 0, none⟩ = false ∧ w3.frozen? ⟨W.heap.size, 1, none⟩ = false := by
  have hl := blk_lt h
  have hA := (bel1 W (.cells #[.int .i64 0, .int .i64 0] 27))
  have hs : (W.alloc (.cells #[.int .i64 0, .int .i64 0] 27)).heap.size = W.heap.size + 1 := by simp
  have h3 : w3.cell? p = some v := by rw [hb.cell (p := p) (by show _ < (W.alloc _).heap.size; omega)]; show (W.alloc _).cell? p = _; rw [hA.cell (p := p) hl]; exact h
  obtain ⟨a1, a2, a3, a4⟩ := ((pt_new W 0 0 27).later (w' := w3) ⟨hb.os, hb.tape, hb.output, hb.size, hb.block⟩).two
  refine ⟨h3, fun x y => ?_, a1, a2, a3, a4⟩
  rw [World.cell?_setCell_other _ _ _ _ (by intro e; have e' := congrArg Addr.block e; simp at e'; omega), World.cell?_setCell_other _ _ _ _ (by intro e; have e' := congrArg Addr.block e; simp at e'; omega)]
  exact h3
theorem far_end1 {W w3 : World} {x y : Int} (hb : Below W.drew.heap.size W.drew w3) : Below W.heap.size W (w3.alloc (.cells #[.int .i64 x, .int .i64 y] 27)) ∧ (w3.alloc (.cells #[.int .i64 x, .int .i64 y] 27)).heap[w3.heap.size]? = some (ptO x y) := by
  have hb' : Below W.heap.size W w3 := ⟨hb.os, hb.tape, hb.output, hb.size, hb.block⟩
  exact ⟨hb'.trans ((bel1 _ _).mono hb'.size), heap_alloc_new _ _⟩
theorem far_end2 {W w3 : World} {x y : Int} (hb : Below (W.alloc (.cells #[.int .i64 0, .int .i64 0] 27)).drew.heap.size (W.alloc (.cells #[.int .i64 0, .int .i64 0] 27)).drew w3) :
    Below W.heap.size W ((w3.setCell ⟨W.heap.size, 0, none⟩ (.int .i64 x)).setCell ⟨W.heap.size, 1, none⟩ (.int .i64 y)) ∧ ((w3.setCell ⟨W.heap.size, 0, none⟩ (.int .i64 x)).setCell ⟨W.heap.size, 1, none⟩ (.int .i64 y)).heap[W.heap.size]? = some (ptO x y) := by
  have hb' : Below (W.alloc (.cells #[.int .i64 0, .int .i64 0] 27)).heap.size (W.alloc (.cells #[.int .i64 0, .int .i64 0] 27)) w3 := ⟨hb.os, hb.tape, hb.output, hb.size, hb.block⟩
  have h0 := bel1 W (.cells #[.int .i64 0, .int .i64 0] 27)
  have h1 := h0.trans (hb'.mono h0.size)
  have h3 : w3.heap[W.heap.size]? = some (ptO 0 0) := by rw [hb'.block _ (by simp)]; exact heap_alloc_new _ _
  refine ⟨(h1.setCell (p := ⟨W.heap.size, 0, none⟩) (by simp) _).setCell (p := ⟨W.heap.size, 1, none⟩) (by simp) _, ?_⟩
  simp only [World.setCell, Array.getElem?_modify, h3, ptO]
  simp
set_option maxHeartbeats 2000000 in
theorem get_any {w : World} {sb g tb cap most : Nat} {N : List Nd} (h : St w sb g tb cap most N) {n x : Nat} (hx : Sq N (n + 1) x) (hn : 2 ≤ n) (a b : Int) :
    Calls Try.prog 15 #[.agg #[.pointer (some ⟨sb, 0, none⟩), .int .u32 (x : Int)], .agg #[.int .i64 a, .int .i64 b]] w fun e w' => e = .returned (.bool (alK N n (kidZ N x) a b)) ∧ Below w.heap.size w w' := by
  have hxu := Sq.u32 h hx
  have hn62 : n < 62 := hx.le62 h.wf
  have HB := Lib.hid (bel2 w (.cells #[.pointer (some ⟨sb, 0, none⟩), .int .u32 (x : Int)] 36) (.cells #[.int .i64 a, .int .i64 b] 27))
  have HS := Lib.hid (h.later HB.out)
  have HP := Lib.hid ((Ob.new h #[.pointer (some ⟨sb, 0, none⟩), .int .u32 (x : Int)] 36).later (bel1 _ (.cells #[.int .i64 a, .int .i64 b] 27)))
  have HQ := Lib.hid (Ob.new (h.later (bel1 _ (.cells #[.pointer (some ⟨sb, 0, none⟩), .int .u32 (x : Int)] 36))) #[.int .i64 a, .int .i64 b] 27)
  have HX := Lib.hid hx
  have HLV := Lib.hid (fun W (hb : Below _ _ W) => level_any (HS.out.later hb) x hxu)
  rw [show lvZ N x = (n : Int) + 1 from hx] at HLV
  clear h hx
  go_enter Try.func15, Try.ntmps15
  go_wp2_with fail
  refine (HLV.out _ (Below.refl _ _)).mono ?_
  rintro e W1 ⟨rfl, rfl⟩
  go_wp2_with fail
  generalize (w.alloc (.cells #[.pointer (some ⟨sb, 0, none⟩), .int .u32 (x : Int)] 36)).alloc (.cells #[.int .i64 a, .int .i64 b] 27) = W0 at *
  obtain ⟨p0, p1⟩ := pl_cells HP.out.at_
  obtain ⟨q0, q1⟩ := pt_cells HQ.out.at_
  have hz : (w.alloc (.cells #[.pointer (some ⟨sb, 0, none⟩), .int .u32 (x : Int)] 36)).heap.size = w.heap.size + 1 := by simp
  rw [hz] at q0 q1
  clear hz
  have hne := Up.me W0
  have HR := Lib.hid (fun z : Up W0 => Up.calls (fun W hb => right_sq (HS.out.later hb) HX.out hn) z)
  have HSP := Lib.hid (fun z : Up W0 => Up.calls (fun W _ => span_any n hn62 W) z)
  have HHS := Lib.hid (fun z : Up W0 => Up.calls (fun W _ => has_span n a b W) z)
  have g0 := fun z : Up W0 => Up.cell p0 z
  have g1 := fun z : Up W0 => Up.cell p1 z
  have g2 := fun z : Up W0 => Up.cell q0 z
  have g3 := fun z : Up W0 => Up.cell q1 z
  cases hin : (inS n a && inS n b) with
  | false =>
    have HA : Hid (alK N n (kidZ N x) a b = false) := by
      show _ = _
      unfold alK; rw [hin]; rfl
    rw [hin] at HHS
    clear hin
    refine region_up (by kernel_rfl) (by kernel_rfl) ?_
    repeat (go_big_quiet_step ((first | (go_at_call 27; with_reducible exact HR.out _) | (go_at_call 28; with_reducible exact HSP.out _) | (go_at_call 29; with_reducible exact HHS.out _))))
    refine wpQuiet_nil ?_
    rintro w2 ⟨⟨W2, hW2⟩, rfl⟩
    go_wp2_with fail
    go_ret
    exact ⟨by rw [HA.out]; rfl, HB.out.trans (hW2.mono HB.out.size)⟩
  | true =>
    rw [hin] at HHS
    have HIN := Lib.hid hin
    clear hin
    refine region_up (by kernel_rfl) (by kernel_rfl) ?_
    repeat (go_big_quiet_step ((first | (go_at_call 27; with_reducible exact HR.out _) | (go_at_call 28; with_reducible exact HSP.out _) | (go_at_call 29; with_reducible exact HHS.out _))))
    refine wpQuiet_nil ?_
    rintro w2 ⟨⟨W2, hW2⟩, hw2⟩
    obtain rfl : w2 = W2 := hw2
    have HB2 := Lib.hid (HB.out.trans (hW2.mono HB.out.size))
    have HS2 := Lib.hid (HS.out.later hW2)
    have HP2 := Lib.hid (HP.out.later hW2)
    have HQ2 := Lib.hid (HQ.out.later hW2)
    clear HR HSP HHS g0 g1 g2 g3 hne p0 p1 q0 q1 hW2 HB HS HP HQ
    obtain ⟨p0, p1⟩ := pl_cells HP2.out.at_
    obtain ⟨q0, q1⟩ := pt_cells HQ2.out.at_
    have hz : (w.alloc (.cells #[.pointer (some ⟨sb, 0, none⟩), .int .u32 (x : Int)] 36)).heap.size = w.heap.size + 1 := by simp
    rw [hz] at q0 q1
    clear hz
    have hin := HIN.out
    rw [Bool.and_eq_true] at hin
    have HFC := Lib.hid (fun W => fromCorner_any a b n hn62 hin.1 hin.2 W)
    clear hin
    go_upto_region 4 with fail
    go_cut [6, 7] from 25 to 29 (fun v6 v7 wx => ∃ fb, v6 = .pointer (some ⟨fb, 0, none⟩) ∧ v7 = .int .u32 (x : Int) ∧ Below w2.heap.size w2 wx ∧ wx.heap[fb]? = some (ptO (a + 2 ^ n) (b + 2 ^ n)))
    case first =>
      -- DONE {
      have s1 : (w2.alloc (.cells #[.int .i64 0, .int .i64 0] 27)).cell? ⟨w.heap.size, 1, none⟩ = some (.int .u32 (x : Int)) := by rw [(bel1 w2 _).cell (p := ⟨w.heap.size, 1, none⟩) (blk_lt p1)]; exact p1
      have s2 : (w2.alloc (.cells #[.int .i64 0, .int .i64 0] 27)).cell? ⟨w.heap.size + 1, 0, none⟩ = some (.int .i64 a) := by rw [(bel1 w2 _).cell (p := ⟨w.heap.size + 1, 0, none⟩) (blk_lt q0)]; exact q0
      have s3 : (w2.alloc (.cells #[.int .i64 0, .int .i64 0] 27)).cell? ⟨w.heap.size + 1, 1, none⟩ = some (.int .i64 b) := by rw [(bel1 w2 _).cell (p := ⟨w.heap.size + 1, 1, none⟩) (blk_lt q1)]; exact q1
      go_region_with (first | (go_at_call 30; refine (HFC.out _).mono ?_; rintro e w3 ⟨rfl, hb3⟩; have HB3 := Lib.hid hb3; clear hb3; (first | (have HK := Lib.hid (far_before p1 HB3.out)) | (have HK := Lib.hid (far_behind p1 HB3.out))); obtain ⟨r1, r2, r3, r4, r5, r6⟩ := HK.out))
      all_goals go_wp2
      all_goals go_meet
      all_goals first | exact ⟨_, rfl, rfl, far_end1 HB3.out⟩ | exact ⟨_, rfl, rfl, far_end2 HB3.out⟩
      -- }
    case rest =>
      obtain ⟨fb, rfl, rfl, hb, hf⟩ := hcut
      have HB3 := Lib.hid (HB2.out.trans (hb.mono HB2.out.size))
      have HS3 := Lib.hid (HS2.out.later hb)
      have HP3 := Lib.hid (HP2.out.later hb)
      have HF3 := Lib.hid hf
      clear hb hf HB2 HS2 HP2 HQ2 HFC p0 p1 q0 q1
      have HA : Hid (alK N n (kidZ N x) a b = (getZ N (n + 1) x (a + 2 ^ n) (b + 2 ^ n) == 1)) := by
        show _ = _
        rw [al_root, HIN.out]; rfl
      clear HIN
      generalize a + 2 ^ n = X at *
      generalize b + 2 ^ n = Y at *
      go_wp2_with fail
      go_loopg [5, 7, 8, 9] (n + 1) (fun m lv xv kv tv wr => ∃ j y : Nat, m = j ∧ lv = .int .i64 (j : Int) ∧ xv = .int .u32 (y : Int) ∧ Sq N j y ∧ getZ N j y X Y = getZ N (n + 1) x X Y ∧ j ≤ n + 1 ∧ Below wc.heap.size wc wr)
      case atStart => exact ⟨n + 1, x, rfl, by simp, rfl, HX.out, rfl, Nat.le_refl _, Below.refl _ _⟩
      case round =>
        obtain ⟨j, y, hmj, rfl, rfl, hs, hg, hm, hb⟩ := hrel
        have HMJ := Lib.hid hmj
        clear hmj
        have HSQ := Lib.hid hs
        have HG := Lib.hid hg
        have HBL := Lib.hid hb
        have HS4 := Lib.hid (HS3.out.later hb)
        obtain ⟨p0, p1⟩ := pl_cells (HP3.out.later hb).at_
        have HF4 : Hid (wr.heap[fb]? = some (ptO X Y)) := by
          show _ = _
          rw [hb.block fb (Array.getElem?_eq_some_iff.1 HF3.out).1]; exact HF3.out
        clear hs hg hb HS3 HP3 HF3
        cases j with
        | zero =>
          have HY : Hid (alK N n (kidZ N x) a b = ((y : Int) == 1)) := by
            show _ = _
            rw [HA.out, ← HG.out]
            show (y == 1) = _
            by_cases hy : y = 1
            · subst hy; rfl
            · rw [beq_eq_false_iff_ne.2 hy, beq_eq_false_iff_ne.2 (by omega)]
          clear HG HA
          go_wp2
          go_ret
          exact ⟨by rw [HY.out]; rfl, HB3.out.trans (HBL.out.mono HB3.out.size)⟩
        | succ j =>
          have hgt : decide ((0 : Int) < ((j + 1 : Nat) : Int)) = true := by simp
          have hcast : ((j + 1 : Nat) : Int) = (j : Int) + 1 := by omega
          go_wp2_with fail
          refine (of_sq HS4.out HSQ.out).mono ?_
          rintro e w5 ⟨rfl, hb⟩
          have HB5 := Lib.hid hb
          have hf5 : w5.heap[fb]? = some (ptO X Y) := by
            rw [hb.block fb (Array.getElem?_eq_some_iff.1 HF4.out).1]; exact HF4.out
          obtain ⟨f0, f1⟩ := pt_cells (by rw [(bel1 w5 (.cells #[.int .u32 ((kidZ N y).1 : Int), .int .u32 ((kidZ N y).2.1 : Int), .int .u32 ((kidZ N y).2.2.1 : Int), .int .u32 ((kidZ N y).2.2.2 : Int)] 68)).block fb (Array.getElem?_eq_some_iff.1 hf5).1]; exact hf5)
          clear hb hf5
          unfold kv
          go_wp2_with fail
          have hj62 : j < 62 := by omega
          refine (quarter_any X Y j hj62 _).mono ?_
          rintro e w6 ⟨rfl, hb⟩
          have HB6 := Lib.hid ((bel1 w5 _).trans (hb.mono (by simp)))
          have kc := kcell ((k_new w5 (kidZ N y)).later hb) (qb j X) (qb j Y)
          have HGN : Hid (getZ N (j + 1) y X Y = getZ N j (pick (kidZ N y) (qb j X) (qb j Y)) X Y) := rfl
          have HSN := Lib.hid (HSQ.out.kid HS4.out.wf (qb j X) (qb j Y))
          have q4 := qn_lt (qb j X) (qb j Y)
          have q4' : ((qn (qb j X) (qb j Y) : Nat) : Int) < 4 := by omega
          have q0' : (0 : Int) ≤ ((qn (qb j X) (qb j Y) : Nat) : Int) := by omega
          clear hb
          generalize qn (qb j X) (qb j Y) = q at *
          generalize pick (kidZ N y) (qb j X) (qb j Y) = y2 at *
          go_wp2_with fail
          go_roundg j
          case measure => rw [HMJ.out]; omega
          case rel =>
            have hb5 := HBL.out.trans (HB5.out.mono HBL.out.size)
            exact ⟨j, y2, rfl, by go_num, rfl, HSN.out, by rw [← HGN.out, HG.out], by omega, hb5.trans (HB6.out.mono hb5.size)⟩
end Go.Proofs.Ytgciceogggldhaa
