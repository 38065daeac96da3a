/- Package clock: the chapter's example. -/
import Derived.Test.YtaapkngpnlnjeaaGreatDoorMe11
import Derived.Test.YtaapkngpnlnjeaaGreatDoorEv
import Derived.Test.YtaapkngpnlnjeaaGreatDoorP16
namespace Go.Proofs.YtaapkngpnlnjeaaGreatDoor
open Go.RowKit Go.Maps Go.Shelf
set_option maxRecDepth 100000

def eg11 : List (Int × Int) := [(-1, 0), (0, 0), (1, 0)]
theorem eg_nr : ∀ c ∈ eg11, Nr11 c := by
  intro c hc
  simp only [eg11, List.mem_cons, List.not_mem_nil, or_false] at hc
  rcases hc with rfl | rfl | rfl <;> (unfold Nr11; decide)
theorem eg_in : ∀ c ∈ eg11, (inS 2 c.1 && inS 2 c.2) = true := by decide
theorem bd_pg {M : List Nd} {n x : Nat} {l : List (Int × Int)} (h : Bd M n x l) : PG M n x (plL l) := by
  refine ⟨h.sq, h.two, fun p q => ?_, h.em, plL_bin l⟩
  rw [h.al]
  unfold plL
  by_cases hm : (p, q) ∈ l
  · simp [hm]
  · simp [hm]
theorem eg_made : made11 eg11 = [(-1, 0), (0, 0), (1, 0)] := by decide
theorem eg_wid : Wid (plL (made11 eg11)) 4 := by
  intro p q e
  rw [eg_made] at e
  unfold plL at e
  split at e
  · rename_i hm
    simp only [List.mem_cons, List.not_mem_nil, or_false, Prod.mk.injEq] at hm
    omega
  · cases e
theorem eg_up : gens 1 (plL (made11 eg11)) 0 1 = 1 ∧ gens 1 (plL (made11 eg11)) 0 (-1) = 1 ∧ gens 1 (plL (made11 eg11)) 1 0 = 0 := by
  rw [eg_made]
  decide +kernel
theorem eg_pts (w : World) (t : TypeId) : Pt11 (w.alloc (.cells #[.int .i64 (-1), .int .i64 0, .int .i64 0, .int .i64 0, .int .i64 1, .int .i64 0] t)) (w.alloc (.cells #[.int .i64 (-1), .int .i64 0, .int .i64 0, .int .i64 0, .int .i64 1, .int .i64 0] t)).heap.size (some ⟨w.heap.size, 0, none⟩) eg11 := by
  intro j c hc
  have hn := heap_alloc_new w (.cells #[.int .i64 (-1), .int .i64 0, .int .i64 0, .int .i64 0, .int .i64 1, .int .i64 0] t)
  match j, hc with
  | 0, hc => simp [eg11] at hc; subst hc; exact ⟨_, _, rfl, by simp, by rw [Lib.cell_of_heap hn]; rfl, by rw [Lib.cell_of_heap hn]; rfl⟩
  | 1, hc => simp [eg11] at hc; subst hc; exact ⟨_, _, rfl, by simp, by rw [Lib.cell_of_heap hn]; rfl, by rw [Lib.cell_of_heap hn]; rfl⟩
  | 2, hc => simp [eg11] at hc; subst hc; exact ⟨_, _, rfl, by simp, by rw [Lib.cell_of_heap hn]; rfl, by rw [Lib.cell_of_heap hn]; rfl⟩
  | j + 3, hc => simp [eg11] at hc
theorem st_put3 {w : World} {sb g tb cap most b : Nat} {N : List Nd} {p v z : Value} (h : St w sb g tb cap most N) (hb : Ob w sb g tb b (.cells #[p, v, z] 37 (0, 0))) (p' v' z' : Value) :
    ∃ W, ((w.setCell ⟨b, 0, none⟩ p').setCell ⟨b, 1, none⟩ v').setCell ⟨b, 2, none⟩ z' = W ∧ St W sb g tb cap most N ∧ Ob W sb g tb b (.cells #[p', v', z'] 37 (0, 0)) ∧ (∀ B a, B ≤ b → Below B a w → Below B a W) ∧ W.heap.size = w.heap.size ∧ ∀ q, q ≠ b → W.heap[q]? = w.heap[q]? := by
  have h0 : Ob (w.setCell ⟨b, 0, none⟩ p') sb g tb b (.cells #[p', v, z] 37 (0, 0)) := ⟨by have := hb.at_; simp only [World.setCell, Array.getElem?_modify, this]; simp, hb.sb_, hb.g_, hb.tb_⟩
  have h1 : Ob ((w.setCell ⟨b, 0, none⟩ p').setCell ⟨b, 1, none⟩ v') sb g tb b (.cells #[p', v', z] 37 (0, 0)) := ⟨by have := h0.at_; simp only [World.setCell, Array.getElem?_modify] at this ⊢; rw [this]; simp, hb.sb_, hb.g_, hb.tb_⟩
  have h2 : Ob (((w.setCell ⟨b, 0, none⟩ p').setCell ⟨b, 1, none⟩ v').setCell ⟨b, 2, none⟩ z') sb g tb b (.cells #[p', v', z'] 37 (0, 0)) := ⟨by have := h1.at_; simp only [World.setCell, Array.getElem?_modify] at this ⊢; rw [this]; simp, hb.sb_, hb.g_, hb.tb_⟩
  have hk : ∀ (w' : World) (i : Nat) (u : Value), St w' sb g tb cap most N → St (w'.setCell ⟨b, i, none⟩ u) sb g tb cap most N := fun w' i u hs => hs.keep (Below.heap_setCell _ _ _ _ (Ne.symm hb.sb_)) (Below.heap_setCell _ _ _ _ (Ne.symm hb.g_)) (Below.heap_setCell _ _ _ _ (Ne.symm hb.tb_))
  exact ⟨_, rfl, hk _ _ _ (hk _ _ _ (hk _ _ _ h)), h2, fun B a hB h => ((h.setCell (p := ⟨b, 0, none⟩) hB p').setCell (p := ⟨b, 1, none⟩) hB v').setCell (p := ⟨b, 2, none⟩) hB z', by simp, fun q hq => by rw [Below.heap_setCell _ _ _ _ hq, Below.heap_setCell _ _ _ _ hq, Below.heap_setCell _ _ _ _ hq]⟩
/-- Behind the step. -/
def Li5 (w : World) (v6 v7 : Value) (W : World) : Prop := ∃ (sb g tb cap ub n r : Nat) (N : List Nd), v6 = .pointer (some ⟨ub, 0, none⟩) ∧ v7 = .nilIface ∧ St W sb g tb cap 5000 N ∧ PG N n r (gens 1 (plL (made11 eg11))) ∧ Ob W sb g tb ub (.cells #[.pointer (some ⟨sb, 0, none⟩), .int .u32 (r : Int), .int .u64 1] 37 (0, 0)) ∧ Below w.heap.size w W
set_option maxHeartbeats 8000000 in
theorem lives11_any (w : World) (hV : 0 < w.heap.size) (hT : TabAt 0 Lib.deBruijn64tab w) :
    Calls Tryz.prog 6 #[] w fun e w' => e = .returned (.bool true) ∧ Below w.heap.size w w' := by
  have HT := Lib.hid hT
  clear hT
  go_enter Tryz.func6, Tryz.ntmps6
  go_wp2_with fail
  refine (new_good 5000 (by omega) (by omega) _).mono ?_
  rintro e W2 ⟨sb, g, tb, rfl, hS, hB2, l1, l2, l3⟩
  have HL := Lib.hid (And.intro l1 (And.intro l2 l3))
  have HBA := Lib.hid (bel1 W2 (.cells #[.int .i64 (-1), .int .i64 0, .int .i64 0, .int .i64 0, .int .i64 1, .int .i64 0] 55))
  have HS3 := Lib.hid (hS.later HBA.out)
  have HB3 := Lib.hid (hB2.trans (HBA.out.mono hB2.size))
  have HPT := Lib.hid (eg_pts W2 55)
  have HLT := Lib.hid hS.lt
  clear hS hB2 l1 l2 l3 HBA
  go_wp2_with fail
  generalize W2.alloc (.cells #[.int .i64 (-1), .int .i64 0, .int .i64 0, .int .i64 0, .int .i64 1, .int .i64 0] 55) = W3 at *
  generalize W2.heap.size = ab at *
  have HMD := Lib.hid (made_clock HS3.out eg11 (some ⟨ab, 0, none⟩) 3 HPT.out (fun bk off e => Or.inr (by cases e; have := HLT.out; omega)) (by decide) eg_nr)
  refine HMD.out.mono ?_
  rintro e W4 ⟨c4, g4, N4, hnx, hres⟩
  obtain ⟨hb4, l4⟩ := hnx.bel HL.out.1 HL.out.2.1 HL.out.2.2 HB3.out.size
  have HB4 := Lib.hid (HB3.out.trans hb4)
  have HL4 : Hid (w.heap.size ≤ sb ∧ w.heap.size ≤ g4 ∧ w.heap.size ≤ tb) := ⟨HL.out.1, l4, HL.out.2.2⟩
  obtain ⟨cap4, hs4⟩ := hnx.st
  have HS4 := Lib.hid hs4
  clear hnx hs4 hb4 l4 HMD HPT HLT HB3 HS3 HL
  rcases hres with ⟨n, x, l, a, c', rfl, hbd, hrw, hl, hn, hlen, hone⟩ | ⟨A, k, c', rfl, hfull⟩
  case inr =>
    have h1 := hfull.1
    have h2 := hfull.2 eg_in
    simp only [N0, List.length_cons, List.length_nil, eg11] at h2
    omega
  obtain ⟨rfl, hlen4⟩ := hone eg_in
  have HLN : Hid (N4.length ≤ 17) := hlen4
  subst hl
  have HPG := Lib.hid (bd_pg hbd)
  clear hbd hrw hlen hone hlen4 hn
  have hb5 := bel1 W4 (.cells #[.pointer (some ⟨sb, 0, none⟩), .int .u32 (x : Int), .int .u64 0] 37)
  have HP5 := Lib.hid (Ob.new HS4.out #[.pointer (some ⟨sb, 0, none⟩), .int .u32 (x : Int), .int .u64 0] 37)
  have HS5 := Lib.hid (HS4.out.later hb5)
  have HB5 := Lib.hid (HB4.out.trans (hb5.mono HB4.out.size))
  clear hb5 HS4 HB4
  go_upto_region 3 with fail
  generalize W4.alloc (.cells #[.pointer (some ⟨sb, 0, none⟩), .int .u32 (x : Int), .int .u64 0] 37) = W5 at *
  generalize W4.heap.size = pb at *
  obtain ⟨⟨s0, s1, s2⟩, _, _, _⟩ := tm3_cells HP5.out.at_
  have HPC := Lib.hid (And.intro s0 (And.intro s1 s2))
  have hns := neSt11 sb
  go_upto_region 5 with fail
  clear s0 s1 s2 hns
  have HTN : Hid (∀ W, Below W5.heap.size W5 W → TabAt 0 Lib.deBruijn64tab W) := fun W hW => tab_below HT.out (HB5.out.trans (hW.mono HB5.out.size)) hV
  go_cut [6, 7] from 30 to 36 (fun v6 v7 wx => Li5 w v6 v7 wx)
  case first =>
    refine region_tq 3 (fun W => Below W5.heap.size W5 W) (.one 0 2 (.one 1 1 (.two 2 0 (.two 3 3 (.one 4 1 (.one 5 1 (.one 6 1 (.one 7 3 (.one 8 3 (.one 9 1 .nil)))))) 7 0 (.one 3 3 (.one 4 1 (.one 5 1 (.one 6 1 (.one 8 3 (.one 9 1 .nil))))))) 7 0 (.one 2 0 (.one 3 3 (.one 4 1 (.one 5 1 (.one 6 1 (.one 8 3 (.one 9 1 .nil)))))))))) (by kernel_rfl) (by kernel_rfl) (by intro c a d v w h; cases d <;> exact h) (by kernel_rfl) (by kernel_rfl) (below_drewN (Below.refl _ W5) 1) ?_
    refine ⟨_, ?_, rfl, by rfl, ?_, ?_⟩
    rotate_left
    · intro W hW
      obtain ⟨s0, s1, s2⟩ := HPC.out
      have e0 := (hW.cell (p := ⟨pb, 0, none⟩) HP5.out.lt).trans s0
      have e1 := (hW.cell (p := ⟨pb, 1, none⟩) HP5.out.lt).trans s1
      have e2 := (hW.cell (p := ⟨pb, 2, none⟩) HP5.out.lt).trans s2
      go_simp; first | done | rfl
    conv => arg 6; simp only [Act.put, List.setIfInBounds_toArray, List.set_cons_zero, List.set_cons_succ]
    refine ⟨_, ?_, rfl, by rfl, ?_, ?_⟩
    rotate_left
    · intro W; go_simp; first | done | rfl
    conv => arg 6; simp only [Act.put, List.setIfInBounds_toArray, List.set_cons_zero, List.set_cons_succ]
    refine ⟨⟨_, rfl, by rfl, fun K hK => ?_⟩, ⟨_, rfl, by rfl, fun K hK => ?_⟩⟩
    · go_simp
      refine (enew_any (HS5.out.later (below_drewN (Below.refl _ W5) 1))).mono ?_
      rintro e W6 ⟨mb, rfl, hmb, hme, hb6⟩
      have HM6 := Lib.hid hme
      have hbb := (below_drewN (Below.refl W5.heap.size W5) 1).trans (hb6.mono (below_drewN (Below.refl W5.heap.size W5) 1).size)
      have HB6 := Lib.hid (HB5.out.trans (hbb.mono HB5.out.size))
      have HAB : Hid (Abv w.heap.size sb g4 tb mb FbT.no) := by
        obtain ⟨a1, a2, a3⟩ := HL4.out
        have h1 := HB5.out.size
        have h2 := (below_drewN (Below.refl W5.heap.size W5) 1).size
        exact ⟨a1, a2, a3, by omega, fun b e => absurd e no_bl⟩
      have HT6 := Lib.hid (HTN.out _ hbb)
      refine hK _ _ (fun _ => hbb) ?_
      have HBB := Lib.hid hbb
      clear hK K hme hb6 hbb
      conv => arg 6; simp only [Act.put, List.setIfInBounds_toArray, List.set_cons_zero, List.set_cons_succ]
      refine ⟨⟨_, rfl, by rfl, fun K hK => ?_⟩, ⟨_, rfl, by rfl, fun K hK => ?_⟩⟩
      · go_simp
        refine (step_clock HM6.out HPG.out (by omega) (r0 := 1) (by omega) HB6.out.size hV HAB.out HT6.out).mono ?_
        rintro e W7 ⟨c7, g7, N7, fb7, m7, hmx, hroom, hres⟩
        have HL7 : Hid (N7.length ≤ 4789) := by
          have h1 := hroom rfl eg_wid
          have h2 := HLN.out
          show _ ≤ _
          omega
        have HB7 := Lib.hid (HAB.out.below HB6.out HB6.out.size hmx)
        have HM7 := Lib.hid hmx.me
        clear hroom hmx
        rcases hres with ⟨n7, r7, rfl, hpg7, hlow7⟩ | ⟨rfl, hfull⟩
        case inr => have := HL7.out; omega
        have HPG7 := Lib.hid hpg7
        clear hpg7 hlow7
        refine hK _ _ (fun h => nomatch h) ?_
        clear hK K
        conv => arg 6; simp only [Act.put, List.setIfInBounds_toArray, List.set_cons_zero, List.set_cons_succ]
        refine ⟨_, ?_, rfl, by rfl, ?_, ?_⟩
        rotate_left
        · intro W; go_simp; first | done | rfl
        conv => arg 6; simp only [Act.put, List.setIfInBounds_toArray, List.set_cons_zero, List.set_cons_succ]
        refine ⟨_, ?_, rfl, by rfl, ?_, ?_⟩
        rotate_left
        · intro W; go_simp; first | done | rfl
        conv => arg 6; simp only [Act.put, List.setIfInBounds_toArray, List.set_cons_zero, List.set_cons_succ]
        refine ⟨_, ?_, rfl, by rfl, ?_, ?_⟩
        rotate_left
        · intro W; go_simp; first | done | rfl
        conv => arg 6; simp only [Act.put, List.setIfInBounds_toArray, List.set_cons_zero, List.set_cons_succ]
        refine ⟨_, rfl, by rfl, fun K hK => ?_⟩
        go_simp
        have hb8 := bel1 W7 (.cells #[.pointer none, .int .u32 0, .int .u64 0] 37)
        have HP8 := Lib.hid (Oe.new HM7.out #[.pointer none, .int .u32 0, .int .u64 0] 37)
        have HX8 := Lib.hid (Mx.of_below HM7.out hb8)
        have HB8 := Lib.hid (HB7.out.trans (hb8.mono HB7.out.size))
        refine hK _ _ ?_
        clear hK K hb8
        conv => arg 6; simp only [Act.put, List.setIfInBounds_toArray, List.set_cons_zero, List.set_cons_succ]
        refine ⟨_, rfl, by rfl, fun K hK => ?_⟩
        obtain ⟨⟨s0, s1, s2⟩, s3, s4, s5⟩ := tm3_cells HP8.out.at_
        go_simp
        refine hK _ _ ?_
        clear hK K s0 s1 s2 s3 s4 s5
        conv => arg 6; simp only [Act.put, List.setIfInBounds_toArray, List.set_cons_zero, List.set_cons_succ]
        refine ⟨_, ?_, rfl, by rfl, ?_, ?_⟩
        rotate_left
        · intro W; go_simp; first | done | rfl
        conv => arg 6; simp only [Act.put, List.setIfInBounds_toArray, List.set_cons_zero, List.set_cons_succ]
        unfold wpT
        go_wp2_with fail
        go_meet
        have hb8 := bel1 W7 (.cells #[.pointer (some ⟨sb, 0, none⟩), .int .u32 (r7 : Int), .int .u64 1] 37)
        obtain ⟨capW, hsW⟩ := (HM7.out.later hb8).st
        have hob := Oe.new HM7.out #[.pointer (some ⟨sb, 0, none⟩), .int .u32 (r7 : Int), .int .u64 1] 37
        exact ⟨sb, g7, tb, capW, _, n7, r7, N7, rfl, rfl, hsW, HPG7.out, ⟨hob.at_, hob.sb_, hob.g_, hob.tb_⟩, HB7.out.trans (hb8.mono HB7.out.size)⟩
      · go_simp
        have hbz := bel1 W6 (.cells #[.pointer none, .int .u32 0, .int .u64 0] 37)
        have HU := Lib.hid (Oe.new HM6.out #[.pointer none, .int .u32 0, .int .u64 0] 37)
        have HMb := Lib.hid (HM6.out.later hbz)
        have HBb := Lib.hid (HB6.out.trans (hbz.mono HB6.out.size))
        have HAb := Lib.hid HAB.out
        have hbb := HBB.out.trans (hbz.mono HBB.out.size)
        have HTb := Lib.hid (HTN.out _ hbb)
        refine hK _ _ (fun _ => hbb) ?_
        have hub : w.heap.size ≤ W6.heap.size := HB6.out.size
        clear hK K hbz hbb HM6 HB6 HAB HT6 HBB
        generalize W6.alloc (.cells #[.pointer none, .int .u32 0, .int .u64 0] 37) = W6b at *
        generalize W6.heap.size = ub at *
        conv => arg 6; simp only [Act.put, List.setIfInBounds_toArray, List.set_cons_zero, List.set_cons_succ]
        refine ⟨_, rfl, by rfl, fun K hK => ?_⟩
        go_simp
        refine (step_clock HMb.out HPG.out (by omega) (r0 := 1) (by omega) HBb.out.size hV HAb.out HTb.out).mono ?_
        rintro e W7 ⟨c7, g7, N7, fb7, m7, hmx, hroom, hres⟩
        have HL7 : Hid (N7.length ≤ 4789) := by
          have h1 := hroom rfl eg_wid
          have h2 := HLN.out
          show _ ≤ _
          omega
        have HB7 := Lib.hid (HAb.out.below HBb.out HBb.out.size hmx)
        have HU7 := Lib.hid (HU.out.mx hmx)
        have HM7 := Lib.hid hmx.me
        clear hroom hmx HU
        rcases hres with ⟨n7, r7, rfl, hpg7, hlow7⟩ | ⟨rfl, hfull⟩
        case inr => have := HL7.out; omega
        have HPG7 := Lib.hid hpg7
        clear hpg7 hlow7
        refine hK _ _ ?_
        clear hK K
        conv => arg 6; simp only [Act.put, List.setIfInBounds_toArray, List.set_cons_zero, List.set_cons_succ]
        refine ⟨_, ?_, rfl, by rfl, ?_, ?_⟩
        rotate_left
        · intro W; go_simp; first | done | rfl
        conv => arg 6; simp only [Act.put, List.setIfInBounds_toArray, List.set_cons_zero, List.set_cons_succ]
        refine ⟨_, ?_, rfl, by rfl, ?_, ?_⟩
        rotate_left
        · intro W; go_simp; first | done | rfl
        conv => arg 6; simp only [Act.put, List.setIfInBounds_toArray, List.set_cons_zero, List.set_cons_succ]
        refine ⟨_, ?_, rfl, by rfl, ?_, ?_⟩
        rotate_left
        · intro W; go_simp; first | done | rfl
        conv => arg 6; simp only [Act.put, List.setIfInBounds_toArray, List.set_cons_zero, List.set_cons_succ]
        refine ⟨_, rfl, by rfl, fun K hK => ?_⟩
        obtain ⟨⟨s0, s1, s2⟩, s3, s4, s5⟩ := tm3_cells HU7.out.at_
        go_simp
        refine hK _ _ ?_
        clear hK K s0 s1 s2 s3 s4 s5
        conv => arg 6; simp only [Act.put, List.setIfInBounds_toArray, List.set_cons_zero, List.set_cons_succ]
        refine ⟨_, ?_, rfl, by rfl, ?_, ?_⟩
        rotate_left
        · intro W; go_simp; first | done | rfl
        conv => arg 6; simp only [Act.put, List.setIfInBounds_toArray, List.set_cons_zero, List.set_cons_succ]
        unfold wpT
        go_wp2_with fail
        go_meet
        obtain ⟨cap7, hs7⟩ := HM7.out.st
        obtain ⟨W, hW, hsW, hPW, hBW, _, _⟩ := st_put3 hs7 ⟨HU7.out.at_, HU7.out.sb_, HU7.out.g_, HU7.out.tb_⟩ (.pointer (some ⟨sb, 0, none⟩)) (.int .u32 ((r7 : Nat) : Int)) (.int .u64 1)
        rw [hW]
        exact ⟨sb, g7, tb, cap7, _, n7, r7, N7, rfl, rfl, hsW, HPG7.out, hPW, hBW _ _ hub HB7.out⟩
    · go_simp
      have hbz := bel1 W5 (.cells #[.pointer none, .int .u32 0, .int .u64 0] 37)
      have huo := Ob.new HS5.out #[.pointer none, .int .u32 0, .int .u64 0] 37
      have HUo : Hid (Ob (W5.alloc (.cells #[.pointer none, .int .u32 0, .int .u64 0] 37)).drew sb g4 tb W5.heap.size (.cells #[.pointer none, .int .u32 0, .int .u64 0] 37 (0, 0))) := ⟨huo.at_, huo.sb_, huo.g_, huo.tb_⟩
      have HSb := Lib.hid (HS5.out.later hbz).drew
      have HDb := Lib.hid hbz.drew
      refine hK _ _ (fun _ => HDb.out) ?_
      have hub : w.heap.size ≤ W5.heap.size := HB5.out.size
      clear hK K hbz huo
      generalize (W5.alloc (.cells #[.pointer none, .int .u32 0, .int .u64 0] 37)).drew = W5b at *
      conv => arg 6; simp only [Act.put, List.setIfInBounds_toArray, List.set_cons_zero, List.set_cons_succ]
      refine ⟨_, rfl, by rfl, fun K hK => ?_⟩
      go_simp
      refine (enew_any HSb.out).mono ?_
      rintro e W6b ⟨mb, rfl, hmb, hme, hb6⟩
      have HMb := Lib.hid hme
      have hbb := HDb.out.trans (hb6.mono HDb.out.size)
      have HBb := Lib.hid (HB5.out.trans (hbb.mono HB5.out.size))
      have HAb : Hid (Abv w.heap.size sb g4 tb mb FbT.no) := by
        obtain ⟨a1, a2, a3⟩ := HL4.out
        have h1 := HB5.out.size
        have h2 := HDb.out.size
        exact ⟨a1, a2, a3, by omega, fun b e => absurd e no_bl⟩
      have HTb := Lib.hid (HTN.out _ hbb)
      have HU : Hid (Oe W6b sb g4 tb mb FbT.no W5.heap.size (.cells #[.pointer none, .int .u32 0, .int .u64 0] 37 (0, 0))) := by
        have h1 := HUo.out.later hb6
        have h2 := HUo.out.lt
        exact ⟨h1.at_, h1.sb_, h1.g_, h1.tb_, by omega, fun e => no_bl e⟩
      refine hK _ _ hbb ?_
      clear hK K hme hb6 hbb HUo HSb HDb
      conv => arg 6; simp only [Act.put, List.setIfInBounds_toArray, List.set_cons_zero, List.set_cons_succ]
      refine ⟨_, rfl, by rfl, fun K hK => ?_⟩
      go_simp
      refine (step_clock HMb.out HPG.out (by omega) (r0 := 1) (by omega) HBb.out.size hV HAb.out HTb.out).mono ?_
      rintro e W7 ⟨c7, g7, N7, fb7, m7, hmx, hroom, hres⟩
      have HL7 : Hid (N7.length ≤ 4789) := by
        have h1 := hroom rfl eg_wid
        have h2 := HLN.out
        show _ ≤ _
        omega
      have HB7 := Lib.hid (HAb.out.below HBb.out HBb.out.size hmx)
      have HU7 := Lib.hid (HU.out.mx hmx)
      have HM7 := Lib.hid hmx.me
      clear hroom hmx HU
      rcases hres with ⟨n7, r7, rfl, hpg7, hlow7⟩ | ⟨rfl, hfull⟩
      case inr => have := HL7.out; omega
      have HPG7 := Lib.hid hpg7
      clear hpg7 hlow7
      refine hK _ _ ?_
      clear hK K
      conv => arg 6; simp only [Act.put, List.setIfInBounds_toArray, List.set_cons_zero, List.set_cons_succ]
      refine ⟨_, ?_, rfl, by rfl, ?_, ?_⟩
      rotate_left
      · intro W; go_simp; first | done | rfl
      conv => arg 6; simp only [Act.put, List.setIfInBounds_toArray, List.set_cons_zero, List.set_cons_succ]
      refine ⟨_, ?_, rfl, by rfl, ?_, ?_⟩
      rotate_left
      · intro W; go_simp; first | done | rfl
      conv => arg 6; simp only [Act.put, List.setIfInBounds_toArray, List.set_cons_zero, List.set_cons_succ]
      refine ⟨_, ?_, rfl, by rfl, ?_, ?_⟩
      rotate_left
      · intro W; go_simp; first | done | rfl
      conv => arg 6; simp only [Act.put, List.setIfInBounds_toArray, List.set_cons_zero, List.set_cons_succ]
      refine ⟨_, rfl, by rfl, fun K hK => ?_⟩
      obtain ⟨⟨s0, s1, s2⟩, s3, s4, s5⟩ := tm3_cells HU7.out.at_
      go_simp
      refine hK _ _ ?_
      clear hK K s0 s1 s2 s3 s4 s5
      conv => arg 6; simp only [Act.put, List.setIfInBounds_toArray, List.set_cons_zero, List.set_cons_succ]
      refine ⟨_, ?_, rfl, by rfl, ?_, ?_⟩
      rotate_left
      · intro W; go_simp; first | done | rfl
      conv => arg 6; simp only [Act.put, List.setIfInBounds_toArray, List.set_cons_zero, List.set_cons_succ]
      unfold wpT
      go_wp2_with fail
      go_meet
      obtain ⟨cap7, hs7⟩ := HM7.out.st
      obtain ⟨W, hW, hsW, hPW, hBW, _, _⟩ := st_put3 hs7 ⟨HU7.out.at_, HU7.out.sb_, HU7.out.g_, HU7.out.tb_⟩ (.pointer (some ⟨sb, 0, none⟩)) (.int .u32 ((r7 : Nat) : Int)) (.int .u64 1)
      rw [hW]
      exact ⟨sb, g7, tb, cap7, _, n7, r7, N7, rfl, rfl, hsW, HPG7.out, hPW, hBW _ _ hub HB7.out⟩
  case rest =>
    clear HPG HS5 HP5 HPC HTN HB5 HL4
    obtain ⟨sb, g7, tb, capW, ub, n7, r7, N7, rfl, rfl, hsW, hpg7, hpw, hbw⟩ := hcut
    have HSW := Lib.hid hsW
    have HPG7 := Lib.hid hpg7
    have HPW := Lib.hid hpw
    have HBW := Lib.hid hbw
    clear hsW hpg7 hpw hbw
    generalize wc = W at *
    obtain ⟨⟨s0, s1, s2⟩, _, _, _⟩ := tm3_cells HPW.out.at_
    have hg1 := fun (w1 : World) (hb : Below W.heap.size W w1) => get_any (HSW.out.later hb) HPG7.out.sq HPG7.out.two 0 1
    have hg2 := fun (w1 : World) (hb : Below W.heap.size W w1) => get_any (HSW.out.later hb) HPG7.out.sq HPG7.out.two 0 (-1)
    have hg3 := fun (w1 : World) (hb : Below W.heap.size W w1) => get_any (HSW.out.later hb) HPG7.out.sq HPG7.out.two 1 0
    simp only [HPG7.out.al, eg_up.1, eg_up.2.1, eg_up.2.2] at hg1 hg2 hg3
    have HG1 := Lib.hid hg1
    have HG2 := Lib.hid hg2
    have HG3 := Lib.hid hg3
    clear hg1 hg2 hg3
    go_wp2_with fail
    refine (HG1.out W (Below.refl _ _)).mono ?_
    rintro e w9 ⟨rfl, hb9⟩
    clear s0 s1 s2
    have HPA := Lib.hid (HPW.out.later hb9)
    have HB9 := Lib.hid hb9
    clear hb9
    obtain ⟨⟨s0, s1, s2⟩, _, _, _⟩ := tm3_cells HPA.out.at_
    go_wp2_with fail
    refine (HG2.out w9 HB9.out).mono ?_
    rintro e wA ⟨rfl, hb9⟩
    clear s0 s1 s2
    have HPB := Lib.hid (HPA.out.later hb9)
    have HBA := Lib.hid (HB9.out.trans (hb9.mono HB9.out.size))
    clear hb9
    obtain ⟨⟨s0, s1, s2⟩, _, _, _⟩ := tm3_cells HPB.out.at_
    go_wp2_with fail
    refine (HG3.out wA HBA.out).mono ?_
    rintro e wB ⟨rfl, hb9⟩
    clear s0 s1 s2
    have HPC := Lib.hid (HPB.out.later hb9)
    have HBB := Lib.hid (HBA.out.trans (hb9.mono HBA.out.size))
    clear hb9
    obtain ⟨⟨s0, s1, s2⟩, _, _, _⟩ := tm3_cells HPC.out.at_
    go_wp2_with fail
    go_ret
    exact ⟨rfl, HBW.out.trans (HBB.out.mono HBW.out.size)⟩
end Go.Proofs.YtaapkngpnlnjeaaGreatDoor
