-- P15
import Derived.Test.YtaapkngpnlnjeaaGreatDoorP14
import Derived.Test.YtaapkngpnlnjeaaGreatDoorP13
section
namespace Go.Proofs.YtaapkngpnlnjeaaGreatDoor
open Go.RowKit Go.Maps
set_option maxRecDepth 100000

theorem grown_other {w w' : World} {b c : Nat} {o : Obj} (h : w.grownBy w' (some b)) (hc : w.heap[c]? = some o) (hne : c ≠ b) : w'.heap[c]? = some o := by
  rw [h.block c (Array.getElem?_eq_some_iff.1 hc).1 (by simpa using hne)]; exact hc
theorem grown_bel {w w' : World} {b B : Nat} {W : World} (h : w.grownBy w' (some b)) (hb : Below B W w) (hW : B ≤ W.heap.size) (hB : B ≤ b) : Below B W w' :=
  hb.grown h (by have := hb.size; omega) (fun k hk => by cases hk; exact hB)
set_option maxHeartbeats 8000000 in
theorem same_anyB {w : World} {sb g tb cap most : Nat} {M : List Nd} (h : St w sb g tb cap most M) {n x : Nat} (hx : Sq M (n + 1) x) (hn : 2 ≤ n) (l : List (Int × Int)) (a : Option Addr) (cap' : Nat) (hr : Ro w a l) (hl : l.length ≤ 20000) (hd : l.Nodup)
    (hon : ∀ c, c ∈ l → (onP c.1 && onP c.2) = true) (hal : ∀ p q, alK M n (kidZ M x) p q = decide ((p, q) ∈ l)) :
    Calls Tryz.prog 16 #[.agg #[.pointer (some ⟨sb, 0, none⟩), .int .u32 (x : Int)], .slice a l.length cap'] w fun e w' => e = .returned (.bool true) ∧ Below w.heap.size w w' := by
  have hxu := Sq.u32 h hx
  have HB := Lib.hid (bel2 w (.cells #[.pointer (some ⟨sb, 0, none⟩), .int .u32 (x : Int)] 34) (.map #[] 0))
  have HS := Lib.hid h
  have HX := Lib.hid hx
  have HR := Lib.hid hr
  have HON := Lib.hid hon
  have HAL := Lib.hid hal
  have HP : Hid (((w.alloc (.cells #[.pointer (some ⟨sb, 0, none⟩), .int .u32 (x : Int)] 34)).alloc (.map #[] 0)).heap[w.heap.size]? = some (plO sb x)) := keptR (heap_alloc_new _ _) (bel1 _ _)
  have hm0 := pset_new (w.alloc (.cells #[.pointer (some ⟨sb, 0, none⟩), .int .u32 (x : Int)] 34))
  rw [show (w.alloc (.cells #[.pointer (some ⟨sb, 0, none⟩), .int .u32 (x : Int)] 34)).heap.size = w.heap.size + 1 by simp] at hm0
  have HMP := Lib.hid hm0
  have hct : ctZ M x = l.length := by
    rw [ct_list h.wf hx hd (fun p q => by rw [hal]; simp)]
    unfold topN; omega
  have HCT := Lib.hid hct
  have hmm := @run_makeMap Tryz.prog
  clear h hx hr hon hal hm0 hct
  go_enter Tryz.func16, Tryz.ntmps16
  go_wp2_with fail
  generalize (w.alloc (.cells #[.pointer (some ⟨sb, 0, none⟩), .int .u32 (x : Int)] 34)).alloc (.map #[] 0) = W0 at *
  go_loopg [7, 15] l.length (fun m v7 cnt wr => ∃ j : Nat, m = l.length - j ∧ j ≤ l.length ∧ cnt = .int .i64 (j : Int) ∧ PSet wr (w.heap.size + 1) (l.take j) ∧ wr.heap[w.heap.size]? = some (plO sb x) ∧ Below w.heap.size w wr)
  case atStart => exact ⟨0, rfl, Nat.zero_le _, rfl, HMP.out, HP.out, HB.out⟩
  case round =>
    clear HMP HP HB
    obtain ⟨j, hm, hj, rfl, hmp, hp, hb⟩ := hrel
    have HM := Lib.hid hm
    have HMP := Lib.hid hmp
    have HP := Lib.hid hp
    have HB := Lib.hid hb
    have HR1 := Lib.hid (HR.out.later hb)
    clear hm hmp hp hb
    by_cases hlt : j < l.length
    · obtain ⟨c, hc⟩ : ∃ c, l[j]? = some c := ⟨l[j], List.getElem?_eq_getElem hlt⟩
      obtain ⟨bk, ha, c0, c1⟩ := HR1.out j c hc
      have HTK : Hid (l.take (j + 1) = l.take j ++ [c]) := by show _ = _; rw [List.take_add_one, hc]; rfl
      have hfit : fits7 c := by
        have := HON.out c (List.mem_of_getElem? hc)
        rw [Bool.and_eq_true] at this
        unfold onP at this
        simp only [Bool.and_eq_true, decide_eq_true_eq] at this
        unfold fits7; omega
      have hbA := bel1 wr (.cells #[.int .i64 c.1, .int .i64 c.2] 73)
      obtain ⟨w3, hup, hset, hgr⟩ := (HMP.out.later hbA).put c hfit (by rw [List.length_take]; omega)
      have HSET := Lib.hid hset
      have HGR := Lib.hid hgr
      have HBA := Lib.hid hbA
      unfold pv7 at hup
      subst ha
      clear hc hset hgr hbA hfit
      have hgj : decide ((j : Int) < (l.length : Int)) = true := by simp; omega
      have i1 : (0 : Int) ≤ (j : Int) := by omega
      have i2 : (j : Int) < (l.length : Int) := by omega
      go_wp2_with fail
      go_roundg (l.length - (j + 1))
      case measure => rw [HM.out]; omega
      case rel =>
        have hb2 := HB.out.trans (HBA.out.mono HB.out.size)
        exact ⟨j + 1, rfl, hlt, by go_num, by rw [HTK.out]; exact HSET.out, grown_other HGR.out (keptR HP.out HBA.out) (by omega), grown_bel HGR.out hb2 (Nat.le_refl _) (by omega)⟩
    · obtain rfl : j = l.length := by omega
      rw [List.take_length] at HMP
      have hgj : decide ((l.length : Int) < (l.length : Int)) = false := by simp
      go_wp2_with fail
      clear hgj
      generalize hWA : wr = WA at *
      clear hWA wr
      go_loopg [9, 10, 11, 24] l.length (fun m v9 v10 v11 cnt wr => ∃ j : Nat, m = l.length - j ∧ j ≤ l.length ∧ cnt = .int .i64 (j : Int) ∧ Below WA.heap.size WA wr)
      case atStart => exact ⟨0, rfl, Nat.zero_le _, rfl, Below.refl _ _⟩
      case round =>
        obtain ⟨j, hm2, hj2, rfl, hb⟩ := hrel
        have HM2 := Lib.hid hm2
        have HBA := Lib.hid hb
        clear hm2 hb
        generalize hWB : wr = WB at *
        clear hWB wr
        by_cases hlt : j < l.length
        · obtain ⟨c, hc⟩ : ∃ c, l[j]? = some c := ⟨l[j], List.getElem?_eq_getElem hlt⟩
          obtain ⟨bk, ha, c0, c1⟩ := (HR1.out.later HBA.out) j c hc
          have HCO : Hid ((-2305843009213693952 < c.1 ∧ c.1 < 2305843009213693952) ∧ (-2305843009213693952 < c.2 ∧ c.2 < 2305843009213693952)) := by
            have := HON.out c (List.mem_of_getElem? hc)
            rw [Bool.and_eq_true] at this
            unfold onP at this
            simp only [Bool.and_eq_true, decide_eq_true_eq] at this
            exact this
          subst ha
          have hgj : decide ((j : Int) < (l.length : Int)) = true := by simp; omega
          have i1 : (0 : Int) ≤ (j : Int) := by omega
          have i2 : (j : Int) < (l.length : Int) := by omega
          have HCB : Hid ((WB.alloc (.cells #[.int .i64 c.1, .int .i64 c.2] 73)).heap[WB.heap.size]? = some (ptO7 c.1 c.2)) := heap_alloc_new _ _
          have HBC := Lib.hid (HBA.out.trans ((bel1 WB (.cells #[.int .i64 c.1, .int .i64 c.2] 73)).mono HBA.out.size))
          go_wp2_with fail
          generalize WB.alloc (.cells #[.int .i64 c.1, .int .i64 c.2] 73) = WC at *
          generalize WB.heap.size = cb at *
          clear hgj i1 i2 c0 c1
          go_loopg [10, 11, 28] 9 (fun m v10 v11 cnt wr => ∃ s : Nat, m = 9 - s ∧ s ≤ 9 ∧ cnt = .int .i64 (s : Int) ∧ Below WC.heap.size WC wr)
          case atStart => exact ⟨0, rfl, Nat.zero_le _, rfl, Below.refl _ _⟩
          case round =>
            obtain ⟨s, hm3, hs, rfl, hb⟩ := hrel
            have HM3 := Lib.hid hm3
            have HBS := Lib.hid hb
            have HCB2 := Lib.hid (keptR HCB.out hb)
            clear hm3 hb
            by_cases hlt3 : s < 9
            · have hgs : decide ((s : Int) < 9) = true := by simp; omega
              obtain ⟨c0, c1⟩ := pt_cells7 HCB2.out
              obtain ⟨⟨o1, o2⟩, o3, o4⟩ := HCO.out
              have hw1 : wrap64 (c.1 + (s : Int) % 3) = c.1 + (s : Int) % 3 := IntWalk.wrap64_in _ (by omega)
              have hw2 : wrap64 (c.1 + (s : Int) % 3 - 1) = c.1 + (s : Int) % 3 - 1 := IntWalk.wrap64_in _ (by omega)
              have hw3 : wrap64 (c.2 + (s : Int) / 3) = c.2 + (s : Int) / 3 := IntWalk.wrap64_in _ (by omega)
              have hw4 : wrap64 (c.2 + (s : Int) / 3 - 1) = c.2 + (s : Int) / 3 - 1 := IntWalk.wrap64_in _ (by omega)
              have HFT : Hid (fits7 (c.1 + (s : Int) % 3 - 1, c.2 + (s : Int) / 3 - 1)) := by
                show fits7 _
                unfold fits7
                simp only
                omega
              clear o1 o2 o3 o4
              go_upto_region 14 with fail
              clear hw1 hw2 hw3 hw4 c0 c1 hgs
              generalize c.1 + (s : Int) % 3 - 1 = X at *
              generalize c.2 + (s : Int) / 3 - 1 = Y at *
              have hbq := bel1 wr (.cells #[.int .i64 X, .int .i64 Y] 55)
              have HQ : Hid ((wr.alloc (.cells #[.int .i64 X, .int .i64 Y] 55)).heap[wr.heap.size]? = some (ptO X Y)) := heap_alloc_new _ _
              have HBQ := Lib.hid (HBS.out.trans (hbq.mono HBS.out.size))
              have hbA := HBC.out.trans (HBQ.out.mono HBC.out.size)
              have hbW := HB.out.trans (hbA.mono HB.out.size)
              have HSQ := Lib.hid (HS.out.later hbW)
              have HPQ := Lib.hid (keptR HP.out hbA)
              have HMQ := Lib.hid (HMP.out.later hbA)
              clear hbq hbA hbW
              generalize wr.alloc (.cells #[.int .i64 X, .int .i64 Y] 55) = WQ at *
              generalize wr.heap.size = qb at *
              obtain ⟨q0, q1⟩ := pt_cells HQ.out
              obtain ⟨p0, p1⟩ := pl_cells HPQ.out
              have hne := Up.me WQ
              have HGE := Lib.hid (fun z : Up WQ => Up.calls (fun W hb => get_any (HSQ.out.later hb) HX.out hn X Y) z)
              rw [HAL.out X Y] at HGE
              have HOF := Lib.hid (fun z : Up WQ => Up.calls (fun W _ => of_law X Y W) z)
              have hlk : ∀ z : Up WQ, (Instr.lookup 87 (.map (some (w.heap.size + 1))) (.agg #[.int .i64 X, .int .i64 Y]) false).run Tryz.prog z.1 = .ok (.bool (decide ((X, Y) ∈ l))) z.1 := fun z => PSet.look (HMQ.out.later z.2) (X, Y) HFT.out
              have g0 := fun z : Up WQ => Up.cell p0 z
              have g1 := fun z : Up WQ => Up.cell p1 z
              have g2 := fun z : Up WQ => Up.cell q0 z
              have g3 := fun z : Up WQ => Up.cell q1 z
              generalize decide ((X, Y) ∈ l) = bv at *
              have hbv : (bv != bv) = false := by simp
              refine region_up (by kernel_rfl) (by kernel_rfl) ?_
              repeat (go_big_quiet_step ((first | (go_at_call 22; with_reducible exact HGE.out _) | (go_at_call 32; with_reducible exact HOF.out _))))
              refine wpQuiet_nil ?_
              rintro w2 ⟨⟨W2, hW2⟩, hw2⟩
              obtain rfl : w2 = W2 := hw2
              have HB2 := Lib.hid (HBQ.out.trans (hW2.mono HBQ.out.size))
              clear HGE HOF hlk g0 g1 g2 g3 hne hW2
              go_wp2_with fail
              go_roundg (9 - (s + 1))
              case measure => rw [HM3.out]; omega
              case rel => exact ⟨s + 1, rfl, by omega, by go_num, HB2.out⟩
            · obtain rfl : s = 9 := by omega
              have hgs : decide (((9 : Nat) : Int) < 9) = false := by simp
              go_wp2_with fail
              go_roundg (l.length - (j + 1))
              case measure => rw [HM2.out]; omega
              case rel => exact ⟨j + 1, rfl, hlt, by go_num, HBC.out.trans (HBS.out.mono HBC.out.size)⟩
        · obtain rfl : j = l.length := by omega
          have hgj : decide ((l.length : Int) < (l.length : Int)) = false := by simp
          have hbw := HB.out.trans (HBA.out.mono HB.out.size)
          have HBW := Lib.hid hbw
          obtain ⟨p0, p1⟩ := pl_cells (keptR HP.out HBA.out)
          have HCA := Lib.hid (count_any (HS.out.later hbw) x hxu)
          rw [HCT.out] at HCA
          have hcv : IntKind.u64.wrap (l.length : Int) = (l.length : Int) := IntWalk.u64_in _ (by omega)
          clear hbw
          go_wp2_with fail
          refine HCA.out.mono ?_
          rintro e w9 ⟨rfl, hw9⟩
          rw [← hw9]
          clear hw9 HCA w9
          go_wp2_with fail
          go_ret
          exact ⟨by simp, HBW.out⟩
theorem same_any {w : World} {sb g tb cap most : Nat} {M : List Nd} (h : St w sb g tb cap most M) {n x : Nat} (hx : Sq M (n + 1) x) (hn : 2 ≤ n) (l : List (Int × Int)) (a : Option Addr) (cap' : Nat) (hr : Ro w a l) (hl : l.length ≤ 100) (hd : l.Nodup)
    (hon : ∀ c, c ∈ l → (onP c.1 && onP c.2) = true) (hal : ∀ p q, alK M n (kidZ M x) p q = decide ((p, q) ∈ l)) :
    Calls Tryz.prog 16 #[.agg #[.pointer (some ⟨sb, 0, none⟩), .int .u32 (x : Int)], .slice a l.length cap'] w fun e w' => e = .returned (.bool true) ∧ Below w.heap.size w w' := same_anyB h hx hn l a cap' hr (by omega) hd hon hal
end Go.Proofs.YtaapkngpnlnjeaaGreatDoor
end

section
namespace Go.Proofs.YtaapkngpnlnjeaaGreatDoor
open Go.RowKit Go.Maps
set_option maxRecDepth 100000

/-- A plane of level n + 1 that has just these cells. -/
structure Bd (M : List Nd) (n x : Nat) (l : List (Int × Int)) : Prop where
  sq : Sq M (n + 1) x
  two : 2 ≤ n
  em : HasEm M (n - 1)
  nd : l.Nodup
  on : ∀ c, c ∈ l → (onP c.1 && onP c.2) = true
  al : ∀ p q, alK M n (kidZ M x) p q = decide ((p, q) ∈ l)
theorem Bd.nx {w w' : World} {sb tb most g g' c n x : Nat} {M M' : List Nd} {l : List (Int × Int)} (h : Bd M n x l) (hw : Wf M) (hn : Nx sb tb most w g M c w' g' M') : Bd M' n x l := by
  refine ⟨hn.sq h.sq, h.two, ?_, h.nd, h.on, fun p q => by rw [hn.al hw h.sq]; exact h.al p q⟩
  obtain ⟨E, rfl, _⟩ := hn.ext
  exact h.em.app hw E
/-- Cells that came in a row, in blocks beside a store's. -/
def Rw7 (w : World) (sb g tb : Nat) (a : Option Addr) (l : List (Int × Int)) : Prop := Ro w a l ∧ ∀ bk off, a = some ⟨bk, off, none⟩ → bk ≠ sb ∧ bk ≠ g ∧ bk ≠ tb ∧ bk < w.heap.size
theorem cell_blk {w w' : World} {b i : Nat} (h : w'.heap[b]? = w.heap[b]?) : w'.cell? ⟨b, i, none⟩ = w.cell? ⟨b, i, none⟩ := by simp only [World.cell?, h]
theorem Rw7.nx {w w' : World} {sb tb most g g' c : Nat} {M M' : List Nd} {a : Option Addr} {l : List (Int × Int)} (h : Rw7 w sb g tb a l) (hn : Nx sb tb most w g M c w' g' M') : Rw7 w' sb g' tb a l := by
  have hk : ∀ bk off, a = some ⟨bk, off, none⟩ → w'.heap[bk]? = w.heap[bk]? := fun bk off e => by
    obtain ⟨h1, h2, h3, h4⟩ := h.2 bk off e
    exact hn.frm.block bk h4 (by simp [h1, h2, h3])
  refine ⟨fun j c hc => ?_, fun bk off e => ?_⟩
  · obtain ⟨bk, e, h1, h2⟩ := h.1 j c hc
    exact ⟨bk, e, by rw [cell_blk (hk bk 0 e)]; exact h1, by rw [cell_blk (hk bk 0 e)]; exact h2⟩
  · obtain ⟨h1, h2, h3, h4⟩ := h.2 bk off e
    refine ⟨h1, ?_, h3, Nat.lt_of_lt_of_le h4 hn.frm.size⟩
    rcases hn.gin with e' | e'
    · rw [e']; exact h2
    · omega
theorem Rw7.later {w w' : World} {sb g tb : Nat} {a : Option Addr} {l : List (Int × Int)} (h : Rw7 w sb g tb a l) (hb : Below w.heap.size w w') : Rw7 w' sb g tb a l :=
  ⟨h.1.later hb, fun bk off e => by obtain ⟨h1, h2, h3, h4⟩ := h.2 bk off e; exact ⟨h1, h2, h3, Nat.lt_of_lt_of_le h4 hb.size⟩⟩
theorem Rw7.other {w : World} {sb g tb b i : Nat} {a : Option Addr} {l : List (Int × Int)} (h : Rw7 w sb g tb a l) (hb : ∀ off, a ≠ some ⟨b, off, none⟩) (v : Value) : Rw7 (w.setCell ⟨b, i, none⟩ v) sb g tb a l := by
  refine ⟨fun j c hc => ?_, fun bk off e => by obtain ⟨h1, h2, h3, h4⟩ := h.2 bk off e; exact ⟨h1, h2, h3, by simpa using h4⟩⟩
  obtain ⟨bk, e, h1, h2⟩ := h.1 j c hc
  have hne : bk ≠ b := fun e' => hb 0 (by rw [e, e'])
  exact ⟨bk, e, by rw [cell_blk (Below.heap_setCell _ _ _ _ hne)]; exact h1, by rw [cell_blk (Below.heap_setCell _ _ _ _ hne)]; exact h2⟩
theorem Rw7.nil (w : World) (sb g tb : Nat) : Rw7 w sb g tb none [] := ⟨Ro.nil _ _, fun bk off e => by cases e⟩
/-- The level that the document says. -/
theorem lev_ex (n : Nat) (hn : n ≤ 61) (l : List (Int × Int)) : ∃ L, n ≤ L ∧ L ≤ 61 ∧ (L = 61 ∨ fitB L l = true) ∧ ∀ i, n ≤ i → i < L → fitB i l = false := by
  have hp : ∃ L, n ≤ L ∧ L ≤ 61 ∧ (L = 61 ∨ fitB L l = true) := ⟨61, hn, Nat.le_refl _, Or.inl rfl⟩
  obtain ⟨L, hL⟩ := hp
  induction L using Nat.strongRecOn with
  | _ L ih =>
    by_cases hm : ∀ i, n ≤ i → i < L → fitB i l = false
    · exact ⟨L, hL.1, hL.2.1, hL.2.2, hm⟩
    · obtain ⟨i, hi⟩ := Classical.not_forall.1 hm
      obtain ⟨hi1, hi2⟩ := Classical.not_imp.1 hi
      obtain ⟨hi3, hi4⟩ := Classical.not_imp.1 hi2
      exact ih i hi3 ⟨hi1, by omega, Or.inr (by cases hh : fitB i l with | true => rfl | false => exact absurd hh hi4)⟩
theorem fit_one (n : Nat) (a b : Int) : fitB n [(a, b)] = (inS n a && inS n b) := by simp [fitB]
theorem far_of {n L : Nat} {a b : Int} (h0 : n ≤ L) (h1 : L ≤ 61) (h2 : L = 61 ∨ fitB L [(a, b)] = true) (h3 : ∀ i, n ≤ i → i < L → fitB i [(a, b)] = false) (hab : (onP a && onP b) = true) : Far n (L - n) a b := by
  refine ⟨by omega, ?_, fun i hi => ?_⟩
  · rw [show n + (L - n) = L by omega]
    rcases h2 with rfl | h2
    · rw [Bool.and_eq_true] at hab; rw [onP_in hab.1, onP_in hab.2]; rfl
    · rw [fit_one] at h2; exact h2
  · have := h3 (n + i) (by omega) (by omega)
    rw [fit_one] at this; exact this
theorem Bd.n61 {M : List Nd} {n x : Nat} {l : List (Int × Int)} (h : Bd M n x l) (hw : Wf M) : n ≤ 61 := by have := h.sq.le62 hw; omega
theorem setL_nodup {l : List (Int × Int)} (h : l.Nodup) (p : Int × Int) (alive : Bool) : (setL l p alive).Nodup := by
  unfold setL
  rw [List.nodup_append]
  refine ⟨h.filter _, by cases alive <;> simp, fun a ha b hb => ?_⟩
  cases alive
  · simp at hb
  · simp at hb ha
    rintro rfl
    exact ha.2 hb
theorem setL_mem {l : List (Int × Int)} {p c : Int × Int} {alive : Bool} : c ∈ setL l p alive ↔ (if c = p then alive = true else c ∈ l) := by
  unfold setL
  rw [List.mem_append, List.mem_filter]
  by_cases e : c = p
  · subst e
    cases alive <;> simp
  · rw [if_neg e]
    cases alive <;> simp [e]
theorem setL_len {l : List (Int × Int)} (p : Int × Int) (alive : Bool) : (setL l p alive).length ≤ l.length + 1 := by
  unfold setL
  rw [List.length_append]
  have := List.length_filter_le (fun c => !decide (c = p)) l
  cases alive <;> simp <;> omega
/-- What a call leaves. -/
theorem Bd.set {M M' : List Nd} {n x : Nat} {l : List (Int × Int)} (h : Bd M n x l) {a b : Int} {alive : Bool} {d t : Nat} (hab : (onP a && onP b) = true) (hsq : Sq M' (n + d + 1) t) (hal : ∀ p q, alK M' (n + d) (kidZ M' t) p q = if p = a ∧ q = b then alive else alK M n (kidZ M x) p q) (hem : HasEm M' (n - 1 + d)) : Bd M' (n + d) t (setL l (a, b) alive) := by
  refine ⟨hsq, by have := h.two; omega, hem.mono (by omega), setL_nodup h.nd _ _, fun c hc => ?_, fun p q => ?_⟩
  · rw [setL_mem] at hc
    split at hc
    · rename_i e; rw [e]; exact hab
    · exact h.on c hc
  · rw [hal, h.al]
    by_cases e : p = a ∧ q = b
    · rw [if_pos e, Bool.eq_iff_iff]
      simp only [decide_eq_true_eq, setL_mem, if_pos (show (p, q) = (a, b) by rw [e.1, e.2])]
    · rw [if_neg e, Bool.eq_iff_iff]
      simp only [decide_eq_true_eq, setL_mem, if_neg (show ¬ (p, q) = (a, b) by intro hh; simp at hh; exact e hh)]
theorem Bd.up {M M' : List Nd} {n x : Nat} {l : List (Int × Int)} (h : Bd M n x l) {m t L : Nat} (hm : 2 ≤ m) (hL : m - 1 ≤ L) (hsq : Sq M' (m + 1) t) (hal : ∀ p q, alK M' m (kidZ M' t) p q = alK M n (kidZ M x) p q) (hem : HasEm M' L) : Bd M' m t l :=
  ⟨hsq, hm, hem.mono hL, h.nd, h.on, fun p q => by rw [hal]; exact h.al p q⟩
theorem Bd.fits {M : List Nd} {n x : Nat} {l : List (Int × Int)} (h : Bd M n x l) : fitB n l = true := by
  unfold fitB
  rw [List.all_eq_true]
  intro c hc
  have := h.al c.1 c.2
  rw [decide_eq_true hc] at this
  unfold alK at this
  simp only [Bool.and_eq_true] at this ⊢
  exact this.1
theorem trim_lev {M : List Nd} {n x m : Nat} {l : List (Int × Int)} (h : Bd M n x l) (hm : m = 2 ∨ ∃ a b, alK M n (kidZ M x) a b = true ∧ ¬ (inS (m - 1) a = true ∧ inS (m - 1) b = true)) : ∀ i, 2 ≤ i → i < m → fitB i l = false := by
  intro i h2 hi
  rcases hm with rfl | ⟨a, b, hab, hno⟩
  · omega
  · rw [h.al] at hab
    have hin : (a, b) ∈ l := of_decide_eq_true hab
    cases hf : fitB i l with
    | false => rfl
    | true =>
      exfalso
      unfold fitB at hf
      rw [List.all_eq_true] at hf
      have := hf (a, b) hin
      simp only [Bool.and_eq_true] at this
      exact hno ⟨inS_mono (by omega) this.1, inS_mono (by omega) this.2⟩
end Go.Proofs.YtaapkngpnlnjeaaGreatDoor
end
