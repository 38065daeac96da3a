/- The law RlePatterns: its walk. -/
import Derived.Test.YtjndfdhjipfijaaGreatDoorMp
import Derived.BigRegion
import Derived.Test.YtjndfdhjipfijaaGreatDoorDet
namespace Go.Proofs.YtjndfdhjipfijaaGreatDoor
open Go.RowKit Go.Maps

/-- The least and greatest so far, as the law keeps them. -/
def lowZ (zs : List (Int × Int)) : Int × Int := match zs with | [] => (0, 0) | c :: r => (c :: r).foldl loF c
def highZ (zs : List (Int × Int)) : Int × Int := match zs with | [] => (0, 0) | c :: r => (c :: r).foldl hiF c
theorem low_next {zs : List (Int × Int)} {j : Nat} {d : Int × Int} (h : zs[j]? = some d) : lowZ (zs.take (j + 1)) = loF (if j = 0 then d else lowZ (zs.take j)) d := by
  cases zs with
  | nil => simp at h
  | cons c r =>
    cases j with
    | zero =>
      obtain rfl : c = d := by simpa using h
      simp [lowZ]
    | succ j =>
      have := fold_next (f := loF) (a := c) h
      simp only [List.take_succ_cons] at this ⊢
      simpa [lowZ] using this
theorem high_next {zs : List (Int × Int)} {j : Nat} {d : Int × Int} (h : zs[j]? = some d) : highZ (zs.take (j + 1)) = hiF (if j = 0 then d else highZ (zs.take j)) d := by
  cases zs with
  | nil => simp at h
  | cons c r =>
    cases j with
    | zero =>
      obtain rfl : c = d := by simpa using h
      simp [highZ]
    | succ j =>
      have := fold_next (f := hiF) (a := c) h
      simp only [List.take_succ_cons] at this ⊢
      simpa [highZ] using this
theorem fits_on (d : Int × Int) : (onP d.1 && onP d.2) = true ↔ fits d := by
  unfold onP fits
  simp only [Bool.and_eq_true, decide_eq_true_eq]
  omega
theorem Pts.some_at {w : World} {B : Nat} {a : Option Addr} {zs : List (Int × Int)} (h : Pts w B a zs) {j : Nat} {d : Int × Int} (hd : zs[j]? = some d) : ∃ bk off, a = some ⟨bk, off, none⟩ ∧ bk < B := by
  obtain ⟨bk, off, h1, h2, _⟩ := h j d hd
  exact ⟨bk, off, h1, h2⟩
/-- 'm[p] = true' at the operation. -/
theorem wp_put (w : World) {ops : Array Oper} {rest : List Oper} {o : Oper} {a : Act} {Q : Exit → Act → World → Prop}
    (hg : o.guard = none) (m x v : Operand) (hop : o.op = Op.mapUpdate 24 m x v) (b : Nat) (zs : List (Int × Int)) (z : Int × Int) (hm : a.eval m = .map (some b)) (hx : a.eval x = pv z) (hv : a.eval v = .bool true)
    (h : PSet w b zs) (hz : fits z) (hl : zs.length ≤ 20000) (hK : ∀ w', PSet w' b (zs ++ [z]) → w.grownBy w' (some b) → wpList Tryz.prog ops Q rest (a.put o.dst undef) w') :
    wpList Tryz.prog ops Q (o :: rest) a w := by
  refine wpList_plain hg fun K' hK' => ?_
  obtain ⟨w', hrun, r1, r2⟩ := h.put z hz hl
  unfold Oper.wp
  simp [execOp, hop, hm, hx, hv, hrun, Result.andThen]
  exact hK' _ _ (hK w' r1 r2)
/-- The state of the first loop: the map in block mb, the least and the greatest behind it. -/
structure L1 (w : World) (mb : Nat) (zs : List (Int × Int)) (lo hi : Int × Int) (W : World) : Prop where
  bel : Below w.heap.size w W
  set : PSet W mb zs
  low : PzAt W (mb + 1) lo
  high : PzAt W (mb + 2) hi
  le : w.heap.size ≤ mb
theorem L1.later {w W W' : World} {mb : Nat} {zs : List (Int × Int)} {lo hi : Int × Int} (h : L1 w mb zs lo hi W) (hb : Below W.heap.size W W') : L1 w mb zs lo hi W' :=
  ⟨h.bel.trans (hb.mono h.bel.size), h.set.later hb, h.low.later hb, h.high.later hb, h.le⟩
theorem l1_start {w w1 : World} (hb : Below w.heap.size w w1) : L1 w w1.heap.size [] (0, 0) (0, 0) (((w1.alloc (.map #[] 0)).alloc (.cells #[.int .i64 0, .int .i64 0] 26)).alloc (.cells #[.int .i64 0, .int .i64 0] 26)) := by
  have p1 := pz_new (w1.alloc (.map #[] 0)) (0, 0)
  have p2 := pz_new ((w1.alloc (.map #[] 0)).alloc (.cells #[.int .i64 0, .int .i64 0] 26)) (0, 0)
  rw [World.size_alloc] at p1
  rw [World.size_alloc, World.size_alloc] at p2
  have hbb : Below w1.heap.size w1 (((w1.alloc (.map #[] 0)).alloc (.cells #[.int .i64 0, .int .i64 0] 26)).alloc (.cells #[.int .i64 0, .int .i64 0] 26)) := by go_grown
  exact ⟨hb.trans (hbb.mono hb.size), ((pset_new w1).later (bel1 _ _)).later (bel1 _ _), p1.later (bel1 _ _), p2, hb.size⟩
theorem L1.put {w W : World} {mb : Nat} {zs : List (Int × Int)} {lo hi : Int × Int} (h : L1 w mb zs lo hi W) (x y : Int × Int) :
    L1 w mb zs x y ((((W.setCell ⟨mb + 1, 0, none⟩ (.int .i64 x.1)).setCell ⟨mb + 1, 1, none⟩ (.int .i64 x.2)).setCell ⟨mb + 2, 0, none⟩ (.int .i64 y.1)).setCell ⟨mb + 2, 1, none⟩ (.int .i64 y.2)) := by
  have hle := h.le
  refine ⟨(((h.bel.setCell (p := ⟨mb + 1, 0, none⟩) (by simp; omega) _).setCell (p := ⟨mb + 1, 1, none⟩) (by simp; omega) _).setCell (p := ⟨mb + 2, 0, none⟩) (by simp; omega) _).setCell (p := ⟨mb + 2, 1, none⟩) (by simp; omega) _, h.set.blk ?_, (h.low.put x).other (mb + 2) (by omega) _ _, (h.high.other (mb + 1) (by omega) _ _).put y, h.le⟩
  rw [Below.heap_setCell _ _ _ _ (by simp), Below.heap_setCell _ _ _ _ (by simp), Below.heap_setCell _ _ _ _ (by simp), Below.heap_setCell _ _ _ _ (by simp)]
theorem L1.putLow {w W : World} {mb : Nat} {zs : List (Int × Int)} {lo hi : Int × Int} (h : L1 w mb zs lo hi W) (x : Int × Int) :
    L1 w mb zs x hi ((W.setCell ⟨mb + 1, 0, none⟩ (.int .i64 x.1)).setCell ⟨mb + 1, 1, none⟩ (.int .i64 x.2)) := by
  have hle := h.le
  refine ⟨(h.bel.setCell (p := ⟨mb + 1, 0, none⟩) (by simp; omega) _).setCell (p := ⟨mb + 1, 1, none⟩) (by simp; omega) _, h.set.blk ?_, h.low.put x, h.high.other (mb + 1) (by omega) _ _, h.le⟩
  rw [Below.heap_setCell _ _ _ _ (by simp), Below.heap_setCell _ _ _ _ (by simp)]
theorem L1.putHigh {w W : World} {mb : Nat} {zs : List (Int × Int)} {lo hi : Int × Int} (h : L1 w mb zs lo hi W) (y : Int × Int) :
    L1 w mb zs lo y ((W.setCell ⟨mb + 2, 0, none⟩ (.int .i64 y.1)).setCell ⟨mb + 2, 1, none⟩ (.int .i64 y.2)) := by
  have hle := h.le
  refine ⟨(h.bel.setCell (p := ⟨mb + 2, 0, none⟩) (by simp; omega) _).setCell (p := ⟨mb + 2, 1, none⟩) (by simp; omega) _, h.set.blk ?_, h.low.other (mb + 2) (by omega) _ _, h.high.put y, h.le⟩
  rw [Below.heap_setCell _ _ _ _ (by simp), Below.heap_setCell _ _ _ _ (by simp)]
theorem L1.drew {w W : World} {mb : Nat} {zs : List (Int × Int)} {lo hi : Int × Int} (h : L1 w mb zs lo hi W) : L1 w mb zs lo hi W.drew := ⟨h.bel.drew, h.set.blk rfl, h.low, h.high, h.le⟩

theorem L1.turn {w W W' : World} {mb : Nat} {zs zs' : List (Int × Int)} {lo hi : Int × Int} (h : L1 w mb zs lo hi W) (hs : PSet W' mb zs') (hg : W.grownBy W' (some mb)) : L1 w mb zs' lo hi W' := by
  have hle := h.le
  have h1 := h.low.lt
  have h2 := h.high.lt
  refine ⟨h.bel.grown hg (by have := h.bel.size; omega) (fun k hk => by cases hk; exact hle), hs, ?_, ?_, hle⟩
  · unfold PzAt; rw [hg.block _ h1 (by simp)]; exact h.low
  · unfold PzAt; rw [hg.block _ h2 (by simp)]; exact h.high

/-- The law's last statement: both patterns in their blocks, their cells. -/
structure KS (w : World) (qb sb : Nat) (W H : Nat) (cs : List (Nat × Nat)) (ac ad : Option Addr) (cc cd : Nat) (X : World) : Prop where
  bel : Below w.heap.size w X
  p : PatAt X qb (.int .i64 (W : Int)) (.int .i64 (H : Int)) (.slice ac cs.length cc)
  q : PatAt X sb (.int .i64 (W : Int)) (.int .i64 (H : Int)) (.slice ad cs.length cd)
  pp : Pts X X.heap.size ac (cs.map zc)
  qp : Pts X X.heap.size ad (cs.map zc)
theorem KS.later {w X X' : World} {qb sb W H : Nat} {cs : List (Nat × Nat)} {ac ad : Option Addr} {cc cd : Nat} (h : KS w qb sb W H cs ac ad cc cd X) (hb : Below X.heap.size X X') : KS w qb sb W H cs ac ad cc cd X' :=
  ⟨h.bel.trans (hb.mono h.bel.size), h.p.later hb, h.q.later hb, (h.pp.later hb (Nat.le_refl _)).mono hb.size, (h.qp.later hb (Nat.le_refl _)).mono hb.size⟩
theorem KS.drew {w X : World} {qb sb W H : Nat} {cs : List (Nat × Nat)} {ac ad : Option Addr} {cc cd : Nat} (h : KS w qb sb W H cs ac ad cc cd X) : KS w qb sb W H cs ac ad cc cd X.drew := ⟨h.bel.drew, h.p, h.q, h.pp, h.qp⟩
/-- What the cells of points are good for. -/
theorem cells_good (d : Int × Int) (r : List (Int × Int)) (lo hi : Int × Int) (hlo : (d :: r).foldl loF d = lo) (hhi : (d :: r).foldl hiF d = hi) (_hg : hi.1 - lo.1 < 1024 ∧ hi.2 - lo.2 < 1024) :
    okFrom (hi.1 - lo.1 + 1).toNat (hi.2 - lo.2 + 1).toNat 0 0 (cellsN (d :: r) lo) ∧ (cellsN (d :: r) lo).map zc = cellsZ (d :: r) lo ∧ (cellsN (d :: r) lo).length = (cellsZ (d :: r) lo).length ∧ lo.1 ≤ hi.1 ∧ lo.2 ≤ hi.2 := by
  obtain ⟨⟨l1, l2⟩, l3⟩ := lo_le (d :: r) d
  obtain ⟨⟨h1, h2⟩, h3⟩ := hi_ge (d :: r) d
  rw [hlo] at l1 l2 l3
  rw [hhi] at h1 h2 h3
  refine ⟨?_, cellsN_zc _ _ l3, by unfold cellsN; simp, by omega, by omega⟩
  refine ok_of_strict _ _ (cellsZ (d :: r) lo) 0 0 (cellsZ_strict _ _) (fun c hc => ?_) (fun c hc => ?_)
  · have hm := (cellsZ_mem _ _ _).1 hc
    have a1 := l3 _ hm
    have a2 := h3 _ hm
    simp only at a1 a2
    omega
  · have hm := (cellsZ_mem _ _ _).1 hc
    have a1 := l3 _ hm
    simp only at a1
    omega

theorem lex_at {cs : List (Nat × Nat)} (h : (cs.map zc).Pairwise lexZ) {i : Nat} {b c : Nat × Nat} (hb : cs[i]? = some b) (hc : cs[i + 1]? = some c) : b.2 < c.2 ∨ (b.2 = c.2 ∧ b.1 < c.1) := by
  have h1 : i < cs.length := (List.getElem?_eq_some_iff.1 hb).1
  have h2 : i + 1 < cs.length := (List.getElem?_eq_some_iff.1 hc).1
  have h3 := List.pairwise_iff_getElem.1 h i (i + 1) (by simpa using h1) (by simpa using h2) (by omega)
  rw [List.getElem_map, List.getElem_map, (List.getElem?_eq_some_iff.1 hb).2, (List.getElem?_eq_some_iff.1 hc).2] at h3
  unfold lexZ zc at h3
  simp only at h3
  omega

set_option maxRecDepth 100000 in
set_option maxHeartbeats 4000000 in
theorem rp_walk (zs : List (Int × Int)) (a : Option Addr) (n cap : Nat) (w : World) (h : Pts w w.heap.size a zs) (ha : a = none ∨ ∃ bk off, a = some ⟨bk, off, none⟩) (hn : n = zs.length) (hm : n ≤ maxLen) (ht : Tab w) :
    Calls Tryz.prog 3 #[.slice a n cap] w fun e w' => e = .returned (.bool true) ∧ Below w.heap.size w w' := by
  have HLV := Lib.hid lives5_any
  have HP := Lib.hid h
  have HA := Lib.hid ha
  have HN := Lib.hid hn
  have HM := Lib.hid hm
  have HT := Lib.hid ht
  clear h ha hn hm ht
  have hmm := @run_makeMap Tryz.prog
  go_enter Tryz.func3, Tryz.ntmps3
  go_wp2_with fail
  refine (HLV.out _).mono ?_
  rintro e w1 ⟨rfl, hb⟩
  have HB := Lib.hid hb
  clear hb
  by_cases hbig : 300 < n
  · have hg : decide ((300 : Int) < (n : Int)) = true := by simp; omega
    go_wp2_with fail
    refine (HLV.out _).mono ?_
    rintro e w2 ⟨rfl, hb⟩
    have HB2 := Lib.hid (HB.out.trans (hb.mono HB.out.size))
    clear hb
    go_wp2_with fail
    go_ret
    exact ⟨rfl, HB2.out⟩
  have hg : decide ((300 : Int) < (n : Int)) = false := by simp; omega
  go_upto_region 5 with fail
  have HL1 := Lib.hid (l1_start HB.out)
  generalize ((w1.alloc (.map #[] 0)).alloc (.cells #[.int .i64 0, .int .i64 0] 26)).alloc (.cells #[.int .i64 0, .int .i64 0] 26) = w2 at *
  generalize w1.heap.size = mb at *
  clear HB hg hmm
  go_wp2_with fail
  go_loopg [6, 7, 29] n (fun k pi pp i wr => ∃ j : Nat, k = n - j ∧ j ≤ n ∧ i = .int .i64 (j : Int) ∧ L1 w mb (zs.take j) (lowZ (zs.take j)) (highZ (zs.take j)) wr ∧ ∀ c ∈ zs.take j, fits c)
  case atStart => exact ⟨0, rfl, by omega, rfl, HL1.out, by simp⟩
  case round =>
    obtain ⟨j, hk, hj, rfl, hs, hf⟩ := hrel
    have HK := Lib.hid hk
    have HS := Lib.hid hs
    have HF := Lib.hid hf
    clear hk hs hf HL1
    by_cases hlt : j < n
    · obtain ⟨d, hd⟩ : ∃ d, zs[j]? = some d := ⟨zs[j]'(by have := HN.out; omega), List.getElem?_eq_getElem _⟩
      obtain ⟨bk, off, rfl, hbk⟩ := HP.out.some_at hd
      obtain ⟨x0, x1⟩ := (HP.out.later HS.out.bel (Nat.le_refl _)).atj hd
      have HLN := Lib.hid (low_next hd)
      have HHN := Lib.hid (high_next hd)
      have HTK : Hid (zs.take (j + 1) = zs.take j ++ [d]) := by show _ = _; rw [List.take_add_one, hd]; rfl
      have HTL : Hid ((zs.take j).length ≤ 20000) := by show _ ≤ _; rw [List.length_take]; omega
      have hg : decide ((j : Int) < (n : Int)) = true := by simp; omega
      have hi1 : (j : Int) < (n : Int) := by omega
      clear hd
      generalize lowZ (zs.take j) = lo at *
      generalize highZ (zs.take j) = hi at *
      go_upto_region 8 with fail
      have hbl := bel1 wr (.cells #[.int .i64 d.1, .int .i64 d.2] 26)
      have HS2 := Lib.hid (HS.out.later hbl)
      have HD2 := Lib.hid (pz_new wr d)
      have hpl : mb + 2 < wr.heap.size := HS.out.high.lt
      clear hbl x0 x1 HS
      generalize wr.alloc (.cells #[.int .i64 d.1, .int .i64 d.2] 26) = w3 at *
      generalize hpb : wr.heap.size = pb at *
      clear hpb
      obtain ⟨b0, b1, b2, b3⟩ := HD2.out.cells
      have HR := Lib.hid (fun w => pright_any d.1 d.2 w)
      go_wp2_with fail
      refine (HR.out _).mono ?_
      rintro e w4 ⟨rfl, hb⟩
      have HS4 := Lib.hid (HS2.out.later hb)
      have HD4 := Lib.hid (HD2.out.later hb)
      clear hb b0 b1 b2 b3 HD2 HS2 HR
      cases hon : onP d.1 && onP d.2 with
      | false =>
        go_wp2_with fail
        go_ret
        exact ⟨rfl, HS4.out.bel⟩
      | true =>
        have HFD := Lib.hid ((fits_on d).1 hon)
        clear hon
        generalize zs.take j = ds at *
        have n1 : ¬ mb + 1 = mb + 2 := by omega
        have n2 : ¬ mb + 2 = mb + 1 := by omega
        have n3 : ¬ pb = mb + 1 := by omega
        have n4 : ¬ pb = mb + 2 := by omega
        have n5 : ¬ mb + 1 = pb := by omega
        have n6 : ¬ mb + 2 = pb := by omega
        obtain ⟨b0, b1, b2, b3⟩ := HD4.out.cells
        obtain ⟨p0, p1, p2, p3⟩ := HS4.out.low.cells
        obtain ⟨q0, q1, q2, q3⟩ := HS4.out.high.cells
        go_upto_if 38 with fail
        go_cut [] from 30 to 40 (fun wx => L1 w mb ds (if j = 0 then d else lo) (if j = 0 then d else hi) wx ∧ PzAt wx pb d)
        case first =>
          by_cases hj0 : j = 0
          · have hz : ((j : Int) == 0) = true := by simp; omega
            have HJ0 := Lib.hid hj0
            clear hj0
            go_wp2_with fail
            go_region
            all_goals go_wp2_with fail
            all_goals go_meet
            all_goals rw [if_pos HJ0.out, if_pos HJ0.out]
            all_goals exact ⟨(HS4.out.put d d).drew, (HD4.out.other (mb + 1) (by omega) _ _).other (mb + 2) (by omega) _ _⟩
          · have hz : ((j : Int) == 0) = false := by simp; omega
            have HJ0 := Lib.hid hj0
            clear hj0
            go_wp2_with fail
            go_meet
            rw [if_neg HJ0.out, if_neg HJ0.out]
            exact ⟨HS4.out, HD4.out⟩
        case rest =>
        obtain ⟨h1, h2⟩ := hcut
        have HS5 := Lib.hid h1
        have HD5 := Lib.hid h2
        clear h1 h2 b0 b1 b2 b3 p0 p1 p2 p3 q0 q1 q2 q3 HS4 HD4
        generalize (if j = 0 then d else lo) = lo' at *
        generalize (if j = 0 then d else hi) = hi' at *
        obtain ⟨b0, b1, b2, b3⟩ := HD5.out.cells
        obtain ⟨p0, p1, p2, p3⟩ := HS5.out.low.cells
        obtain ⟨q0, q1, q2, q3⟩ := HS5.out.high.cells
        have hm1 := min_if lo'.1 d.1
        have hm2 := min_if lo'.2 d.2
        have hm3 := max_if hi'.1 d.1
        have hm4 := max_if hi'.2 d.2
        go_upto_region 12 with fail
        go_cut [] from 30 to 62 (fun wx => L1 w mb ds (loF lo' d) (hiF hi' d) wx ∧ PzAt wx pb d)
        case first =>
          clear b0 b1 b2 b3 p0 p1 p2 p3 q0 q1 q2 q3
          refine region_two 22 23 (fun W => L1 w mb ds lo' hi' W ∧ PzAt W pb d) (fun W => L1 w mb ds (loF lo' d) hi' W ∧ PzAt W pb d) (fun W => L1 w mb ds (loF lo' d) (hiF hi' d) W ∧ PzAt W pb d) [0, 1, 2, 3, 4, 5, 6, 7, 8, 9, 10, 11, 12, 13, 14, 15, 16, 17, 18, 19, 20, 21, 22, 23] (by kernel_rfl) (by kernel_rfl) rfl (by kernel_rfl) ⟨HS5.out.drew, HD5.out⟩ ?_
          iterate 11
            refine ⟨_, ?_, rfl, two_early 30 (by kernel_rfl) (by kernel_rfl) rfl rfl (by rfl) ?_, ?_⟩
            rotate_left
            · rintro W ⟨hL, hP⟩
              obtain ⟨b0, b1, b2, b3⟩ := hP.cells
              obtain ⟨p0, p1, p2, p3⟩ := hL.low.cells
              go_simp
              first | done | rfl
            conv => arg 7; simp only [Act.put, List.setIfInBounds_toArray, List.set_cons_zero, List.set_cons_succ]
          iterate 11
            refine ⟨_, ?_, rfl, two_mid 30 (by kernel_rfl) rfl rfl (by rfl) ?_, ?_⟩
            rotate_left
            · intro W hW
              have hX : L1 w mb ds lo' hi' W ∧ PzAt W pb d ∨ L1 w mb ds (loF lo' d) hi' W ∧ PzAt W pb d := hW
              obtain ⟨hH, hP⟩ : PzAt W (mb + 2) hi' ∧ PzAt W pb d := by
                rcases hX with ⟨hL, hP⟩ | ⟨hL, hP⟩
                · exact ⟨hL.high, hP⟩
                · exact ⟨hL.high, hP⟩
              clear hW hX
              obtain ⟨b0, b1, b2, b3⟩ := hP.cells
              obtain ⟨q0, q1, q2, q3⟩ := hH.cells
              go_simp
              first | done | rfl
            conv => arg 7; simp only [Act.put, List.setIfInBounds_toArray, List.set_cons_zero, List.set_cons_succ]
          refine ⟨_, undef, rfl, two_one 30 (by kernel_rfl) rfl (by rfl) ?_, ?_⟩
          · rintro W ⟨hL, hP⟩
            obtain ⟨p0, p1, p2, p3⟩ := hL.low.cells
            refine ⟨_, by go_simp; rfl, hL.putLow (loF lo' d), hP.other (mb + 1) (by omega) _ _⟩
          conv => arg 7; simp only [Act.put, List.setIfInBounds_toArray, List.set_cons_zero, List.set_cons_succ]
          refine ⟨_, undef, rfl, two_two 30 (by kernel_rfl) (by rfl) ?_, ?_⟩
          · rintro W ⟨hL, hP⟩
            obtain ⟨q0, q1, q2, q3⟩ := hL.high.cells
            refine ⟨_, by go_simp; rfl, hL.putHigh (hiF hi' d), hP.other (mb + 2) (by omega) _ _⟩
          conv => arg 7; simp only [Act.put, List.setIfInBounds_toArray, List.set_cons_zero, List.set_cons_succ]
          rintro W hW
          go_wp2_with fail
          go_meet
          exact hW
        case rest =>
        obtain ⟨h1, h2⟩ := hcut
        have HS6 := Lib.hid h1
        have HD6 := Lib.hid h2
        clear h1 h2 b0 b1 b2 b3 p0 p1 p2 p3 q0 q1 q2 q3 HS5 HD5 hm1 hm2 hm3 hm4
        obtain ⟨b0, b1, b2, b3⟩ := HD6.out.cells
        have hwj : IntKind.i64.wrap ((j : Int) + 1) = (j : Int) + 1 := IntWalk.i64_in _ (by omega)
        go_wp2_with (at_mapUpdate; refine wp_put _ rfl _ _ _ rfl mb ds d rfl rfl rfl HS6.out.set HFD.out HTL.out ?_; intro w7 hs7 hg7; have HS7 : Hid (L1 w mb (ds ++ [d]) (loF lo' d) (hiF hi' d) w7) := HS6.out.turn hs7 hg7; clear hs7 hg7)
        go_roundg (n - (j + 1))
        case measure => rw [HK.out]; omega
        case rel => exact ⟨j + 1, rfl, hlt, by go_num, by rw [HTK.out, ← HTK.out, HLN.out, HHN.out, HTK.out]; exact HS7.out, by rw [HTK.out]; intro c hc; rcases List.mem_append.1 hc with hc | hc; exact HF.out c hc; (obtain rfl : c = d := by simpa using hc); exact HFD.out⟩
    · have hje : zs.take j = zs := List.take_of_length_le (by have := HN.out; omega)
      have hg : decide ((j : Int) < (n : Int)) = false := by simp; omega
      rw [hje] at HS HF
      clear hje hj HK
      go_upto_region 15 with fail
      clear hlt hg
      have HCL : Hid (∀ W, Below w.heap.size w W → Calls Tryz.prog 7 #[.slice a n cap] W fun e w' => ∃ a' cap', e = .returned (.slice a' n cap') ∧ Pts w' w'.heap.size a' zs ∧ Below W.heap.size W w') := fun W hb => clone_any zs a n cap W ((HP.out.later hb (Nat.le_refl _)).mono hb.size) HA.out HN.out (by omega)
      have HPL : Hid (∀ W, Calls Tryz.prog 9 #[.agg #[.int .i64 0, .int .i64 0, .slice none 0 0]] W fun e w' => ∃ a' cap', e = .returned (.agg #[.int .i64 0, .int .i64 0, .slice a' 0 cap']) ∧ Below W.heap.size W w') := fun W => by
        refine (plain_any 0 0 [] W 0 0 none Pts.nil rfl (by omega)).mono ?_
        rintro e w' ⟨a', cap', rfl, _, hb⟩
        exact ⟨a', cap', rfl, hb⟩
      have HSM : Hid (∀ (W : World) (a' : Option Addr) (c : Nat), Calls Tryz.prog 8 #[.agg #[.int .i64 0, .int .i64 0, .slice a' 0 c], .agg #[.int .i64 0, .int .i64 0, .slice none 0 0]] W fun e w' => e = .returned (.bool true) ∧ Below W.heap.size W w') := fun W a' c => same_any 0 0 [] a' none 0 c 0 W Pts.nil Pts.nil rfl (by omega)
      generalize hlo : lowZ zs = lo at *
      generalize hhi : highZ zs = hi at *
      by_cases hno : n = 0 ∨ ¬ (hi.1 - lo.1 < 1024 ∧ hi.2 - lo.2 < 1024)
      · have HNW : Hid (∀ (W : World) (a' : Option Addr) (c : Nat), Pts W W.heap.size a' zs → Calls Tryz.prog 6 #[.slice a' n c] W fun e w' => e = .returned (.tuple #[.agg #[.int .i64 0, .int .i64 0, .slice none 0 0], .agg #[.int .i64 0, .int .i64 0], .bool false]) ∧ Below W.heap.size W w') := fun W a' c hp => by
          have hn := HN.out
          have hf := HF.out
          cases zs with
          | nil => rw [hn]; exact new_none a' c W
          | cons d r =>
            have h0 : ¬ n = 0 := by rw [hn]; simp
            rcases hno with h | h
            · exact absurd h h0
            · exact new_great d r a' n c W hp (by simpa using hn) (by omega) hf (by rw [← hlo, ← hhi] at h; exact h)
        go_wp2_with fail
        refine (HCL.out _ HS.out.bel).mono ?_
        rintro e w5 ⟨a', cap', rfl, hp, hb⟩
        have HS5 := Lib.hid (HS.out.later hb)
        have HP5 := Lib.hid hp
        clear hb hp HS
        go_wp2_with fail
        refine (HNW.out _ _ _ HP5.out).mono ?_
        rintro e w6 ⟨rfl, hb⟩
        have HS6 := Lib.hid (HS5.out.later hb)
        clear hb HS5 HP5
        go_upto_region 16 with fail
        have HS7 := Lib.hid ((HS6.out.later (bel1 w6 (.cells #[.int .i64 0, .int .i64 0, .slice none 0 0] 28))).later (bel1 _ (.cells #[.int .i64 0, .int .i64 0] 26)))
        have HQ7 : Hid (PatAt ((w6.alloc (.cells #[.int .i64 0, .int .i64 0, .slice none 0 0] 28)).alloc (.cells #[.int .i64 0, .int .i64 0] 26)) w6.heap.size (.int .i64 0) (.int .i64 0) (.slice none 0 0)) := PatAt.later (heap_alloc_new w6 _) (bel1 _ _)
        have HZ7 : Hid (PzAt ((w6.alloc (.cells #[.int .i64 0, .int .i64 0, .slice none 0 0] 28)).alloc (.cells #[.int .i64 0, .int .i64 0] 26)) (w6.heap.size + 1) (0, 0)) := by
          have := pz_new (w6.alloc (.cells #[.int .i64 0, .int .i64 0, .slice none 0 0] 28)) (0, 0)
          rw [World.size_alloc] at this
          exact this
        generalize (w6.alloc (.cells #[.int .i64 0, .int .i64 0, .slice none 0 0] 28)).alloc (.cells #[.int .i64 0, .int .i64 0] 26) = w7 at *
        generalize w6.heap.size = qb at *
        clear HS6 HNW HCL
        obtain ⟨p0, p1, p2, p3⟩ := HS7.out.low.cells
        obtain ⟨q0, q1, q2, q3⟩ := HS7.out.high.cells
        obtain ⟨hfl, hfh⟩ : fits lo ∧ fits hi := by
          have hf := HF.out
          rw [← hlo, ← hhi]
          cases zs with
          | nil => exact ⟨⟨by decide, by decide, by decide, by decide⟩, by decide, by decide, by decide, by decide⟩
          | cons d r => exact ⟨lo_fits (d :: r) d (hf d (by simp)) hf, hi_fits (d :: r) d (hf d (by simp)) hf⟩
        unfold fits at hfl hfh
        have hw1 : IntKind.i64.wrap (hi.1 - lo.1) = hi.1 - lo.1 := IntWalk.i64_in _ (by omega)
        have hw2 : IntKind.i64.wrap (hi.2 - lo.2) = hi.2 - lo.2 := IntWalk.i64_in _ (by omega)
        have HFL := Lib.hid hfl
        have HFH := Lib.hid hfh
        have HNO := Lib.hid hno
        have HLO := Lib.hid hlo
        have HHI := Lib.hid hhi
        clear hfl hfh hno hlo hhi
        go_cut [91] from 73 to 90 (fun c wx => c = .bool true ∧ wx = w7)
        case first =>
          by_cases h0 : n = 0
          · have hz : ((n : Int) == 0) = true := by simp; omega
            go_wp2_with fail
            go_meet
            exact ⟨rfl, rfl⟩
          · have hz : ((n : Int) == 0) = false := by simp; omega
            by_cases hx : 1024 ≤ hi.1 - lo.1
            · have hgx : decide (1024 ≤ hi.1 - lo.1) = true := by simp; omega
              have HX := Lib.hid hx
              clear hx h0
              go_wp2_with fail
              go_meet
              exact ⟨rfl, rfl⟩
            · have hgx : decide (1024 ≤ hi.1 - lo.1) = false := by simp; omega
              have hgy : decide (1024 ≤ hi.2 - lo.2) = true := by have := HNO.out; simp; omega
              clear hx h0
              go_wp2_with fail
              go_meet
              exact ⟨rfl, rfl⟩
        case rest =>
        obtain ⟨rfl, rfl⟩ := hcut
        clear p0 p1 p2 p3 q0 q1 q2 q3 hw1 hw2
        obtain ⟨p0, p1, p2, p3⟩ := HQ7.out.cells
        obtain ⟨q0, q1, q2, q3⟩ := HZ7.out.cells
        have HB7 := Lib.hid HS7.out.bel
        go_wp2_with fail
        refine (HPL.out _).mono ?_
        rintro e w8 ⟨a8, c8, rfl, hb⟩
        have HB8 := Lib.hid (HB7.out.trans (hb.mono HB7.out.size))
        clear hb HB7
        go_wp2_with fail
        refine (HSM.out _ _ _).mono ?_
        rintro e w9 ⟨rfl, hb⟩
        have HB9 := Lib.hid (HB8.out.trans (hb.mono HB8.out.size))
        clear hb HB8
        go_wp2_with fail
        go_ret
        exact ⟨rfl, HB9.out⟩
      · obtain ⟨hn0, hgd⟩ : ¬ n = 0 ∧ (hi.1 - lo.1 < 1024 ∧ hi.2 - lo.2 < 1024) := by
          refine ⟨fun e => hno (Or.inl e), ?_⟩
          by_cases h : hi.1 - lo.1 < 1024 ∧ hi.2 - lo.2 < 1024
          · exact h
          · exact absurd (Or.inr h) hno
        obtain ⟨d, r, rfl⟩ : ∃ d r, zs = d :: r := by
          cases zs with
          | nil => exact absurd HN.out hn0
          | cons d r => exact ⟨d, r, rfl⟩
        obtain ⟨hok, hzc, hcl, hle1, hle2⟩ := cells_good d r lo hi hlo hhi hgd
        have hln := cellsZ_len (d :: r) lo
        have HNW : Hid (∀ (W : World) (a' : Option Addr) (c : Nat), Pts W W.heap.size a' (d :: r) → Calls Tryz.prog 6 #[.slice a' n c] W fun e w' => (∃ v, e = .returned (.tuple #[v, .agg #[.int .i64 lo.1, .int .i64 lo.2], .bool true]) ∧ PatV w' (hi.1 - lo.1 + 1).toNat (hi.2 - lo.2 + 1).toNat (cellsN (d :: r) lo) v) ∧ Below W.heap.size W w') := fun W a' c hp =>
          new_good d r a' n c W hp (by have := HN.out; simpa using this) (by omega) HF.out lo hi hlo hhi hgd
        have hcN : (cellsN (d :: r) lo).length ≤ 300 := by have := HN.out; omega
        have hfl := lo_fits (d :: r) d (HF.out d (by simp)) HF.out
        have hfh := hi_fits (d :: r) d (HF.out d (by simp)) HF.out
        rw [show (d :: r).foldl loF d = lo from hlo] at hfl
        rw [show (d :: r).foldl hiF d = hi from hhi] at hfh
        unfold fits at hfl hfh
        have hWI : (((hi.1 - lo.1 + 1).toNat : Nat) : Int) = hi.1 - lo.1 + 1 := by omega
        have hHI : (((hi.2 - lo.2 + 1).toNat : Nat) : Int) = hi.2 - lo.2 + 1 := by omega
        have hW : (hi.1 - lo.1 + 1).toNat ≤ 1024 := by omega
        have hH : (hi.2 - lo.2 + 1).toNat ≤ 1024 := by omega
        have hw1 : IntKind.i64.wrap (hi.1 - lo.1) = hi.1 - lo.1 := IntWalk.i64_in _ (by omega)
        have hw2 : IntKind.i64.wrap (hi.2 - lo.2) = hi.2 - lo.2 := IntWalk.i64_in _ (by omega)
        have hw3 : IntKind.i64.wrap (hi.1 - lo.1 + 1) = hi.1 - lo.1 + 1 := IntWalk.i64_in _ (by omega)
        have hw4 : IntKind.i64.wrap (hi.2 - lo.2 + 1) = hi.2 - lo.2 + 1 := IntWalk.i64_in _ (by omega)
        have HFL := Lib.hid hfl
        have HFH := Lib.hid hfh
        have HOK := Lib.hid hok
        have HZC := Lib.hid hzc
        have HCN := Lib.hid hcl
        have HLE := Lib.hid hcN
        have HWl := Lib.hid hW
        have HHl := Lib.hid hH
        have hgx : decide (1024 ≤ hi.1 - lo.1) = false := by simp; omega
        have hgy : decide (1024 ≤ hi.2 - lo.2) = false := by simp; omega
        have hz : ((n : Int) == 0) = false := by simp; omega
        have t1 : ((((hi.1 - lo.1 + 1).toNat : Nat) : Int) != hi.1 - lo.1 + 1) = false := by rw [hWI]; simp
        have t2 : ((((hi.2 - lo.2 + 1).toNat : Nat) : Int) != hi.2 - lo.2 + 1) = false := by rw [hHI]; simp
        have HWI := Lib.hid hWI
        have HHI := Lib.hid hHI
        clear hfl hfh hok hzc hcl hcN hW hH hle1 hle2 hln hno hn0 hgd hlo hhi hWI hHI
        generalize (hi.1 - lo.1 + 1).toNat = W at *
        generalize (hi.2 - lo.2 + 1).toNat = H at *
        generalize cellsN (d :: r) lo = cs at *
        go_wp2_with fail
        refine (HCL.out _ HS.out.bel).mono ?_
        rintro e w5 ⟨a', cap', rfl, hp, hb⟩
        have HS5 := Lib.hid (HS.out.later hb)
        have HP5 := Lib.hid hp
        clear hb hp HS
        go_wp2_with fail
        refine (HNW.out _ _ _ HP5.out).mono ?_
        rintro e w6 ⟨⟨v, rfl, ac, cc, rfl, hc1, hc2, hpc⟩, hb⟩
        have HS6 := Lib.hid (HS5.out.later hb)
        have HPC := Lib.hid hpc
        clear hb HS5 HP5 hpc
        go_upto_region 16 with fail
        have HS7 := Lib.hid ((HS6.out.later (bel1 w6 (.cells #[.int .i64 (W : Int), .int .i64 (H : Int), .slice ac cs.length cc] 28))).later (bel1 _ (.cells #[.int .i64 lo.1, .int .i64 lo.2] 26)))
        have HQ7 : Hid (PatAt ((w6.alloc (.cells #[.int .i64 (W : Int), .int .i64 (H : Int), .slice ac cs.length cc] 28)).alloc (.cells #[.int .i64 lo.1, .int .i64 lo.2] 26)) w6.heap.size (.int .i64 (W : Int)) (.int .i64 (H : Int)) (.slice ac cs.length cc)) := PatAt.later (heap_alloc_new w6 _) (bel1 _ _)
        have HZ7 : Hid (PzAt ((w6.alloc (.cells #[.int .i64 (W : Int), .int .i64 (H : Int), .slice ac cs.length cc] 28)).alloc (.cells #[.int .i64 lo.1, .int .i64 lo.2] 26)) (w6.heap.size + 1) lo) := by
          have := pz_new (w6.alloc (.cells #[.int .i64 (W : Int), .int .i64 (H : Int), .slice ac cs.length cc] 28)) lo
          rw [World.size_alloc] at this
          exact this
        have HP7 : Hid (Pts ((w6.alloc (.cells #[.int .i64 (W : Int), .int .i64 (H : Int), .slice ac cs.length cc] 28)).alloc (.cells #[.int .i64 lo.1, .int .i64 lo.2] 26)) w6.heap.size ac (cs.map zc)) := HPC.out.later ((bel1 w6 _).trans ((bel1 _ _).mono (by simp))) (Nat.le_refl _)
        generalize (w6.alloc (.cells #[.int .i64 (W : Int), .int .i64 (H : Int), .slice ac cs.length cc] 28)).alloc (.cells #[.int .i64 lo.1, .int .i64 lo.2] 26) = w7 at *
        generalize w6.heap.size = qb at *
        clear HS6 HNW HCL HPC
        obtain ⟨p0, p1, p2, p3⟩ := HS7.out.low.cells
        obtain ⟨q0, q1, q2, q3⟩ := HS7.out.high.cells
        go_upto_region 18 with fail
        have HLN := Lib.hid (fun ty => HS7.out.set.len lo ty)
        have hlen := HS7.out.set.len lo 3
        rw [← HCN.out] at hlen
        have t3 : ((cs.length : Int) != (cs.length : Int)) = false := by simp
        have t4 : (lo.1 == lo.1) = true := by simp
        have t5 : (lo.2 == lo.2) = true := by simp
        obtain ⟨x0, x1, x2, _, _, _⟩ := HQ7.out.cells
        obtain ⟨y0, y1, _, _⟩ := HZ7.out.cells
        go_wp2_with fail
        clear p0 p1 p2 p3 q0 q1 q2 q3 x0 x1 x2 y0 y1 hlen t1 t2 t3 hgx hgy hz hw1 hw2 hw3 hw4
        go_loopg [11, 12, 145] cs.length (fun k pi pp i wr => ∃ j : Nat, k = cs.length - j ∧ j ≤ cs.length ∧ i = .int .i64 (j : Int) ∧ Below w7.heap.size w7 wr)
        case atStart => exact ⟨0, rfl, Nat.zero_le _, rfl, Below.refl _ _⟩
        case round =>
          obtain ⟨j, hk, hj, rfl, hb⟩ := hrel
          have HK := Lib.hid hk
          have HS8 := Lib.hid (HS7.out.later hb)
          have HQ8 := Lib.hid (HQ7.out.later hb)
          have HP8 := Lib.hid (HP7.out.later hb (by have := HQ7.out.lt; omega))
          have HBW := Lib.hid hb
          clear hk hb
          by_cases hlt : j < cs.length
          · obtain ⟨c, hc⟩ : ∃ c, cs[j]? = some c := ⟨cs[j]'hlt, List.getElem?_eq_getElem _⟩
            obtain ⟨bk, off, rfl, hbk⟩ := HP8.out.some_at (j := j) (d := zc c) (by simp [hc])
            obtain ⟨x0, x1⟩ := HP8.out.atj (j := j) (c := zc c) (by simp [hc])
            have y0 : wr.cell? ⟨bk, off + j * 2, none⟩ = some (.int .i64 (c.1 : Int)) := x0
            have y1 : wr.cell? ⟨bk, off + j * 2 + 1, none⟩ = some (.int .i64 (c.2 : Int)) := x1
            have hg : decide ((j : Int) < (cs.length : Int)) = true := by simp; omega
            have hi1 : (j : Int) < (cs.length : Int) := by omega
            have HC := Lib.hid hc
            clear hc x0 x1
            have HMEM : Hid ((lo.1 + (c.1 : Int), lo.2 + (c.2 : Int)) ∈ d :: r) := by
              have h1 : zc c ∈ cs.map zc := List.mem_map_of_mem (List.mem_of_getElem? HC.out)
              rw [HZC.out] at h1
              exact (cellsZ_mem _ _ _).1 h1
            have hff : fits (lo.1 + (c.1 : Int), lo.2 + (c.2 : Int)) := HF.out _ HMEM.out
            have hff2 := hff
            unfold fits at hff2
            simp only at hff2
            have hwx : IntKind.i64.wrap (lo.1 + (c.1 : Int)) = lo.1 + (c.1 : Int) := IntWalk.i64_in _ (by omega)
            have hwy : IntKind.i64.wrap (lo.2 + (c.2 : Int)) = lo.2 + (c.2 : Int) := IntWalk.i64_in _ (by omega)
            have HFF := Lib.hid hff
            clear hff hff2
            have hwj : IntKind.i64.wrap ((j : Int) + 1) = (j : Int) + 1 := IntWalk.i64_in _ (by have := HLE.out; omega)
            go_upto_region 23 with fail
            have hbl := bel1 wr (.cells #[.int .i64 (c.1 : Int), .int .i64 (c.2 : Int)] 26)
            have HS9 := Lib.hid (HS8.out.later hbl)
            have HQ9 := Lib.hid (HQ8.out.later hbl)
            have HP9 := Lib.hid (HP8.out.later hbl (by have := HQ8.out.lt; omega))
            have HD9 : Hid (PzAt (wr.alloc (.cells #[.int .i64 (c.1 : Int), .int .i64 (c.2 : Int)] 26)) wr.heap.size ((c.1 : Int), (c.2 : Int))) := pz_new wr ((c.1 : Int), (c.2 : Int))
            have HB9 := Lib.hid (HBW.out.trans (hbl.mono HBW.out.size))
            clear hbl y0 y1
            generalize wr.alloc (.cells #[.int .i64 (c.1 : Int), .int .i64 (c.2 : Int)] 26) = w9 at *
            generalize wr.heap.size = pb at *
            clear HS8 HQ8 HP8 HBW
            have hlk : (Instr.lookup 24 (.map (some mb)) (.agg #[.int .i64 (lo.1 + (c.1 : Int)), .int .i64 (lo.2 + (c.2 : Int))]) false).run Tryz.prog w9 = .ok (.bool true) w9 := HS9.out.set.look _ HFF.out HMEM.out
            have hlk2 : ∀ q, (Instr.lookup 24 (.map (some mb)) (.agg #[.int .i64 (lo.1 + (c.1 : Int)), .int .i64 (lo.2 + (c.2 : Int))]) false).run Tryz.prog (w9.drewN q) = .ok (.bool true) (w9.drewN q) := fun q => (PSet.blk (w' := w9.drewN q) HS9.out.set rfl).look _ HFF.out HMEM.out
            obtain ⟨b0, b1, _, _⟩ := HD9.out.cells
            obtain ⟨p0, p1, _, _⟩ := HS9.out.low.cells
            obtain ⟨_, _, q2, _, _, _⟩ := HQ9.out.cells
            go_cut [203] from 147 to 202 (fun v wx => v = .bool false ∧ Below w7.heap.size w7 wx)
            case first =>
              by_cases hj0 : j = 0
              · have hg0 : decide (0 < j) = false := by simp; omega
                clear hj0
                go_quiet (fail)
                go_wp2_with fail
                go_meet
                exact ⟨rfl, below_drewN HB9.out _⟩
              · have hg0 : decide (0 < j) = true := by simp; omega
                obtain ⟨i, hij⟩ : ∃ i, j = i + 1 := ⟨j - 1, by omega⟩
                obtain ⟨b, hb⟩ : ∃ b, cs[i]? = some b := ⟨cs[i]'(by omega), List.getElem?_eq_getElem _⟩
                obtain ⟨x0, x1⟩ := HP9.out.atj (j := i) (c := zc b) (by simp [hb])
                have d0 : w9.cell? ⟨bk, off + i * 2, none⟩ = some (.int .i64 (b.1 : Int)) := x0
                have d1 : w9.cell? ⟨bk, off + i * 2 + 1, none⟩ = some (.int .i64 (b.2 : Int)) := x1
                have hlex := lex_at (HZC.out ▸ cellsZ_strict (d :: r) lo) hb (by rw [← hij]; exact HC.out)
                have hwi : IntKind.i64.wrap ((j : Int) - 1) = (i : Int) := by rw [IntWalk.i64_in _ (by have := HLE.out; omega)]; omega
                have hii : (i : Int) < (cs.length : Int) := by omega
                have e0 : decide (c.2 < b.2) = false := by simp; omega
                clear x0 x1 hb hij hj0
                by_cases hey : c.2 = b.2
                · have e1 : (c.2 == b.2) = true := by simp [hey]
                  have e3 : ((c.2 : Int) == (b.2 : Int)) = true := by simp [hey]
                  have e2 : decide (c.1 ≤ b.1) = false := by simp; omega
                  clear hey hlex
                  go_quiet (fail)
                  go_wp2_with fail
                  go_meet
                  exact ⟨rfl, below_drewN HB9.out _⟩
                · have e1 : (c.2 == b.2) = false := by simp [hey]
                  have e3 : ((c.2 : Int) == (b.2 : Int)) = false := by rw [beq_eq_false_iff_ne]; omega
                  clear hey hlex
                  go_quiet (fail)
                  go_wp2_with fail
                  go_meet
                  exact ⟨rfl, below_drewN HB9.out _⟩
            case rest =>
            obtain ⟨rfl, hb⟩ := hcut
            have HBc := Lib.hid hb
            clear hb hlk hlk2 b0 b1 p0 p1 q2
            go_wp2_with fail
            go_roundg (cs.length - (j + 1))
            case measure => rw [HK.out]; omega
            case rel => exact ⟨j + 1, rfl, hlt, by go_num, HBc.out⟩
          · have hg : decide ((j : Int) < (cs.length : Int)) = false := by simp; omega
            have HTW : Hid (Tab wr) := HT.out.later HS8.out.bel HT.out.lt
            have HTX := Lib.hid (text_any W H cs wr cs.length cc ac (HP8.out.mono (by have := HQ8.out.lt; omega)) rfl hc1 hc2 HTW.out HWl.out HHl.out HOK.out (by have := HLE.out; omega))
            have HPA := Lib.hid (fun X => parse_any W H (bodyL cs) cs 0 X HWl.out HHl.out (textL_len W H HWl.out HHl.out cs HOK.out (by have := HLE.out; omega)) (runsP_body W H HWl.out HHl.out cs HOK.out (by have := HLE.out; omega) _))
            have HPA : Hid (∀ X, Calls Tryz.prog 11 #[.string ⟨(textL W H cs).toArray⟩] X fun e w' => (∃ v, e = .returned (.tuple #[v, .nilIface]) ∧ PatV w' W H cs v) ∧ Below X.heap.size X w') := HPA
            have HPL : Hid (∀ (X : World) (a : Option Addr) (c : Nat), Pts X X.heap.size a (cs.map zc) → Calls Tryz.prog 9 #[.agg #[.int .i64 (W : Int), .int .i64 (H : Int), .slice a cs.length c]] X fun e w' => ∃ a' cap', e = .returned (.agg #[.int .i64 (W : Int), .int .i64 (H : Int), .slice a' cs.length cap']) ∧ Pts w' w'.heap.size a' (cs.map zc) ∧ Below X.heap.size X w') := fun X a c hp => plain_any W H cs X cs.length c a hp rfl (by have := HLE.out; omega)
            have HRT : Hid (∀ (X : World) (a : Option Addr) (c : Nat), Pts X X.heap.size a (cs.map zc) → Calls Tryz.prog 12 #[.agg #[.int .i64 (W : Int), .int .i64 (H : Int), .slice a cs.length c]] X fun e w' => e = .returned (.string ⟨(textL W H cs).toArray⟩) ∧ Below X.heap.size X w') := fun X a c hp => rtext_any W H cs X cs.length c a hp rfl HWl.out HHl.out HOK.out (by have := HLE.out; omega)
            have HSM : Hid (∀ (X : World) (a b : Option Addr) (c e : Nat), Pts X X.heap.size a (cs.map zc) → Pts X X.heap.size b (cs.map zc) → Calls Tryz.prog 8 #[.agg #[.int .i64 (W : Int), .int .i64 (H : Int), .slice a cs.length c], .agg #[.int .i64 (W : Int), .int .i64 (H : Int), .slice b cs.length e]] X fun e w' => e = .returned (.bool true) ∧ Below X.heap.size X w') := fun X a b c e h1 h2 => same_any W H (cs.map zc) a b cs.length c e X h1 h2 (by simp) (by have := HLE.out; omega)
            generalize (⟨(textL W H cs).toArray⟩ : ByteArray) = S at *
            obtain ⟨p0, p1, p2, _, _, _⟩ := HQ8.out.cells
            go_upto_region 26 with fail
            clear hlt hg
            go_wp2_with fail
            refine HTX.out.mono ?_
            rintro e w9 ⟨rfl, hb⟩
            have HB9 := Lib.hid (HS8.out.bel.trans (hb.mono HS8.out.bel.size))
            have HQ9 := Lib.hid (HQ8.out.later hb)
            have HP9 := Lib.hid (HP8.out.later hb (by have := HQ8.out.lt; omega))
            clear hb p0 p1 p2
            go_wp2_with fail
            refine (HPA.out _).mono ?_
            rintro e w10 ⟨⟨v, rfl, ad, cd, rfl, hd1, hd2, hpd⟩, hb⟩
            have HB10 := Lib.hid (HB9.out.trans (hb.mono HB9.out.size))
            have HQ10 := Lib.hid (HQ9.out.later hb)
            have HP10 := Lib.hid (HP9.out.later hb (by have := HQ9.out.lt; omega))
            have HPD := Lib.hid hpd
            clear hb hpd
            go_upto_region 28 with fail
            have HK11 : Hid (KS w qb w10.heap.size W H cs ac ad cc cd (w10.alloc (.cells #[.int .i64 (W : Int), .int .i64 (H : Int), .slice ad cs.length cd] 28))) :=
              ⟨HB10.out.trans ((bel1 w10 _).mono HB10.out.size), HQ10.out.later (bel1 w10 _), heap_alloc_new w10 _, (HP10.out.later (bel1 w10 _) (by have := HQ10.out.lt; omega)).mono (by have := HQ10.out.lt; simp; omega), (HPD.out.later (bel1 w10 _) (Nat.le_refl _)).mono (by simp)⟩
            clear HB10 HQ10 HP10 HPD HQ9 HP9 HB9 HTX HPA HTW HQ8 HP8 HS8 HBW
            generalize w10.alloc (.cells #[.int .i64 (W : Int), .int .i64 (H : Int), .slice ad cs.length cd] 28) = w11 at *
            generalize w10.heap.size = sb at *
            have HK12 := Lib.hid HK11.out.drew
            obtain ⟨p0, p1, p2, _, _, _⟩ := HK11.out.p.cells
            obtain ⟨q0, q1, q2, _, _, _⟩ := HK11.out.q.cells
            go_region_with (first
              | (go_at_call 9; refine (HPL.out _ _ _ ?_).mono ?_; (exact HK12.out.pp); rintro e w13 ⟨a13, c13, rfl, hp13, hb13⟩; have HK13 := Lib.hid (HK12.out.later hb13); have HA13 := Lib.hid hp13; clear hp13 hb13)
              | (go_at_call 12; refine (HRT.out _ _ _ ?_).mono ?_; (exact HA13.out); rintro e w14 ⟨rfl, hb14⟩; have HK14 := Lib.hid (HK13.out.later hb14); obtain ⟨r0, r1, r2, _, _, _⟩ := HK14.out.p.cells; obtain ⟨s0, s1, s2, _, _, _⟩ := HK14.out.q.cells; clear hb14)
              | (go_at_call 9; refine (HPL.out _ _ _ ?_).mono ?_; (exact HK14.out.pp); rintro e w15 ⟨a15, c15, rfl, hp15, hb15⟩; have HK15 := Lib.hid (HK14.out.later hb15); have HA15 := Lib.hid hp15; obtain ⟨u0, u1, u2, _, _, _⟩ := HK15.out.q.cells; clear hp15 hb15)
              | (go_at_call 9; refine (HPL.out _ _ _ ?_).mono ?_; (exact HK15.out.qp); rintro e w16 ⟨a16, c16, rfl, hp16, hb16⟩; have HK16 := Lib.hid (HK15.out.later hb16); have HA16 := Lib.hid hp16; have HA17 := Lib.hid ((HA15.out.later hb16 (Nat.le_refl _)).mono hb16.size); clear hp16 hb16)
              | (go_at_call 8; refine (HSM.out _ _ _ _ _ ?_ ?_).mono ?_; (exact HA17.out); (exact HA16.out); rintro e w18 ⟨rfl, hb18⟩; have HB18 := Lib.hid (HK16.out.later hb18).bel; clear hb18))
            all_goals go_wp2_with fail
            all_goals go_ret
            all_goals exact ⟨rfl, HB18.out⟩
end Go.Proofs.YtjndfdhjipfijaaGreatDoor
