/- The law ClockRoom: its walk. -/
import Derived.Test.YtaapkngpnlnjeaaGreatDoorLi11
import Derived.Test.YtaapkngpnlnjeaaGreatDoorGn11
import Derived.Test.YtaapkngpnlnjeaaGreatDoorP15
import Derived.Test.YtaapkngpnlnjeaaGreatDoorNx9
import Derived.Test.YtaapkngpnlnjeaaGreatDoorFis
namespace Go.Proofs.YtaapkngpnlnjeaaGreatDoor
open Go.RowKit Go.Maps Go.Shelf
set_option maxRecDepth 100000

theorem eqNil11 (f : Nat) (w : World) : (Op.equalIn (f + 1) 26 (.pointer none) (.pointer none)).run Tryz.prog w = .ok true w := by
  obtain ⟨j, hj⟩ := Option.isSome_iff_exists.1 Tryz.infoSt11
  first | kernel_rfl | simp [Op.equalIn, run_underlying Tryz.underlying26, sizeOf, typeInfo, hj]
theorem Pt11.mono {w : World} {B C : Nat} {a : Option Addr} {cs : List (Int × Int)} (h : Pt11 w B a cs) (hB : B ≤ C) : Pt11 w C a cs := fun j c hc => by
  obtain ⟨bk, off, h1, h2, h3, h4⟩ := h j c hc
  exact ⟨bk, off, h1, by omega, h3, h4⟩
theorem Bd.mx {w w' : World} {sb tb mb most g g' c n x : Nat} {N N' : List Nd} {fb fb' : FbT} {m m' : Stp → Option Value} {l : List (Int × Int)} (h : Bd N n x l) (hw : Wf N) (hn : Mx sb tb mb most w g N fb m c w' g' N' fb' m') : Bd N' n x l := by
  obtain ⟨E, rfl, _⟩ := hn.ext
  exact ⟨h.sq.app E, h.two, h.em.app hw E, h.nd, h.on, fun p q => by rw [kid_app E h.sq.lt, alK_app hw E (h.sq.kid hw)]; exact h.al p q⟩
theorem Rw7.keep {w w' : World} {sb g g' tb : Nat} {a : Option Addr} {l : List (Int × Int)} (h : Rw7 w sb g tb a l) (hs : w.heap.size ≤ w'.heap.size) (hk : ∀ bk off, a = some ⟨bk, off, none⟩ → w'.heap[bk]? = w.heap[bk]?) (hg : ∀ bk off, a = some ⟨bk, off, none⟩ → bk ≠ g') : Rw7 w' sb g' tb a l := by
  refine ⟨fun j c hc => ?_, fun bk off e => ?_⟩
  · obtain ⟨bk, e, h1, h2⟩ := h.1 j c hc
    exact ⟨bk, e, by rw [cell_blk (hk bk 0 e)]; exact h1, by rw [cell_blk (hk bk 0 e)]; exact h2⟩
  · obtain ⟨h1, h2, h3, h4⟩ := h.2 bk off e
    exact ⟨h1, hg bk off e, h3, by omega⟩
theorem Rw7.mx {w w' : World} {sb tb mb most g g' c : Nat} {N N' : List Nd} {fb fb' : FbT} {m m' : Stp → Option Value} {a : Option Addr} {l : List (Int × Int)} (h : Rw7 w sb g tb a l) (hm : ∀ bk off, a = some ⟨bk, off, none⟩ → bk ≠ mb ∧ ¬ bk ∈ fb.bl) (hn : Mx sb tb mb most w g N fb m c w' g' N' fb' m') : Rw7 w' sb g' tb a l := by
  refine h.keep hn.frm.size (fun bk off e => ?_) (fun bk off e => ?_)
  · obtain ⟨h1, h2, h3, h4⟩ := h.2 bk off e
    obtain ⟨h5, h6⟩ := hm bk off e
    exact hn.frm.block bk h4 (by simp only [List.mem_cons, not_or]; exact ⟨h1, h2, h3, h5, h6⟩)
  · obtain ⟨h1, h2, h3, h4⟩ := h.2 bk off e
    rcases hn.gin with e' | e' <;> omega
theorem made_mem : ∀ (cs acc : List (Int × Int)) {p : Int × Int}, p ∈ cs.foldl (fun l c => setL l c true) acc → p ∈ acc ∨ p ∈ cs
  | [], acc, p, h => Or.inl h
  | c :: r, acc, p, h => by
    rcases made_mem r (setL acc c true) h with h | h
    · unfold setL at h
      rcases List.mem_append.1 h with h | h
      · exact Or.inl ((List.mem_filter.1 h).1)
      · simp only [if_true, List.mem_singleton] at h
        exact Or.inr (by rw [h]; exact List.mem_cons_self)
    · exact Or.inr (List.mem_cons_of_mem _ h)
theorem made_nr {cs : List (Int × Int)} (h : ∀ c ∈ cs, Nr11 c) : ∀ c ∈ made11 cs, Nr11 c := fun c hc => by
  rcases made_mem cs [] hc with h1 | h1
  · cases h1
  · exact h c h1
theorem gn_near {l L : List (Int × Int)} {j : Nat} (h : Gn11 l j L) (hj : j ≤ 9) (hn : ∀ c ∈ l, Nr11 c) : ∀ c ∈ L, (-288230376151711753 ≤ c.1 ∧ c.1 < 288230376151711753) ∧ -288230376151711753 ≤ c.2 ∧ c.2 < 288230376151711753 := fun c hc => by
  obtain ⟨d, hd, h1, h2⟩ := h.from hc
  obtain ⟨⟨h3, h4⟩, h5, h6⟩ := hn d hd
  omega
theorem gn_mid {l L : List (Int × Int)} {j : Nat} (h : Gn11 l j L) (hj : j ≤ 9) (hn : ∀ c ∈ l, Nr11 c) : Mid L := fun c hc => by
  have := gn_near h hj hn c hc
  omega
theorem gn_on {l L : List (Int × Int)} {j : Nat} (h : Gn11 l j L) (hj : j ≤ 9) (hn : ∀ c ∈ l, Nr11 c) : ∀ c, c ∈ L → (onP c.1 && onP c.2) = true := fun c hc => by
  have := gn_near h hj hn c hc
  unfold onP
  simp only [Bool.and_eq_true, decide_eq_true_eq]
  omega
/-- The loop's state. -/
def Lp11s (w : World) (sb g tb cap R : Nat) (N : List Nd) (l : List (Int × Int)) (ub r k : Nat) (gi : Int) (m : Nat) (v10 v67 : Value) (wr : World) : Prop := ∃ (j : Nat) (L : List (Int × Int)) (a : Option Addr) (c : Nat), m = k - j ∧ j ≤ k ∧ Below w.heap.size w wr ∧ v67 = .int .u64 (j : Int) ∧ v10 = .slice a L.length c ∧ Gn11 l j L ∧ Rw7 wr sb g tb a L ∧ St wr sb g tb cap R N ∧ Ob wr sb g tb ub (.cells #[.pointer (some ⟨sb, 0, none⟩), .int .u32 (r : Int), .int .u64 gi] 37 (0, 0))
/-- Behind the step. -/
def Rm8 (w : World) (sb tb R n4 x : Nat) (l : List (Int × Int)) (a : Option Addr) (k pb : Nat) (v13 v14 : Value) (W : World) : Prop := ∃ (ub g cap : Nat) (N : List Nd) (pa : Option Addr) (xi gi : Int), v13 = .pointer (some ⟨ub, 0, none⟩) ∧ Below w.heap.size w W ∧ St W sb g tb cap R N ∧ Bd N n4 x l ∧ Rw7 W sb g tb a l ∧ Ob W sb g tb pb (.cells #[.pointer (some ⟨sb, 0, none⟩), .int .u32 (x : Int), .int .u64 0] 37 (0, 0)) ∧
  Ob W sb g tb ub (.cells #[.pointer pa, .int .u32 xi, .int .u64 gi] 37 (0, 0)) ∧ ((v14 = .nilIface ∧ pa = some ⟨sb, 0, none⟩ ∧ ∃ r n' : Nat, xi = (r : Int) ∧ PG N n' r (gens k (plL l))) ∨ (v14 = .iface 48 (.int .i64 7) ∧ pa = none ∧ xi = 0 ∧ gi = 0))
theorem Step11.gen {sb tb mb most : Nat} {w : World} {g : Nat} {N : List Nd} {fb : FbT} {m : Stp → Option Value} {G : Plane} {r0 : Nat} {e : Ending} {w' : World} (h : Step11 sb tb mb most w g N fb m G r0 e w') : ∃ (pa : Option Addr) (xi gi : Int) (ev : Value) (c g' : Nat) (N' : List Nd) (fb' : FbT) (m' : Stp → Option Value), e = .returned (.tuple #[.agg #[.pointer pa, .int .u32 xi, .int .u64 gi], ev]) ∧ Mx sb tb mb most w g N fb m c w' g' N' fb' m' ∧
    ((ev = .nilIface ∧ pa = some ⟨sb, 0, none⟩ ∧ ∃ r n' : Nat, xi = (r : Int) ∧ PG N' n' r (gens r0 G)) ∨ (ev = .iface 48 (.int .i64 7) ∧ pa = none ∧ xi = 0 ∧ gi = 0)) := by
  obtain ⟨c, g', N', fb', m', h1, _, h3⟩ := h
  rcases h3 with ⟨n', r, rfl, h4, h5⟩ | ⟨rfl, h4⟩
  · exact ⟨_, _, _, _, c, g', N', fb', m', rfl, h1, Or.inl ⟨rfl, rfl, r, n', rfl, h4⟩⟩
  · exact ⟨_, _, _, _, c, g', N', fb', m', rfl, h1, Or.inr ⟨rfl, rfl, rfl, rfl⟩⟩
set_option maxHeartbeats 8000000 in
theorem croom_walk (cs : List (Int × Int)) (al : Option Addr) (capl room n : Nat) (hroom : room < 65536) (_hn : n < 256) (w : World) (hV : 0 < w.heap.size) (hT : TabAt 0 Lib.deBruijn64tab w)
    (hp : Pt11 w w.heap.size al cs) (hbk : ∀ bk off, al = some ⟨bk, off, none⟩ → cs.length = 0 ∨ bk < w.heap.size) (hl : cs.length ≤ maxLen) :
    Calls Tryz.prog 5 #[.slice al cs.length capl, .int .u16 (room : Int), .int .u8 (n : Int)] w fun e w' => e = .returned (.bool true) ∧ Below w.heap.size w w' := by
  have HT := Lib.hid hT
  have HP := Lib.hid hp
  have HBK := Lib.hid hbk
  have HL := Lib.hid hl
  clear hT hp hbk hl
  go_enter Tryz.func5, Tryz.ntmps5
  go_wp2_with fail
  refine (lives11_any w hV HT.out).mono ?_
  rintro e w1 ⟨rfl, hb1⟩
  have HB1 := Lib.hid hb1
  clear hb1
  go_wp2_with fail
  refine (right_clock cs al capl w1 ((HP.out.later HB1.out).mono HB1.out.size) HL.out).mono ?_
  rintro e w2 ⟨hrt, hb2⟩
  have HB2 := Lib.hid (HB1.out.trans (hb2.mono HB1.out.size))
  have HT2 := Lib.hid (tab_below HT.out HB2.out hV)
  have hV2 : 0 < w2.heap.size := Nat.lt_of_lt_of_le hV HB2.out.size
  clear hb2 HB1
  rcases hrt with rfl | ⟨rfl, hlen, hnr⟩
  · go_wp2_with fail
    refine (lives11_any w2 hV2 HT2.out).mono ?_
    rintro e w3 ⟨rfl, hb3⟩
    go_wp2_with fail
    go_ret
    exact ⟨rfl, HB2.out.trans (hb3.mono HB2.out.size)⟩
  have HLE := Lib.hid hlen
  have HNR := Lib.hid hnr
  clear hlen hnr
  obtain ⟨R, hR, hR0, hR1⟩ : ∃ R : Nat, (300 + (room : Int) % 3000) = (R : Int) ∧ 2 ≤ R ∧ R ≤ 1048576 := ⟨300 + room % 3000, by omega, by omega, by omega⟩
  go_wp2_with fail
  refine (new_good R hR0 hR1 w2).mono ?_
  rintro e w3 ⟨sb, g, tb, rfl, hS, hB3, l1, l2, l3⟩
  have HB3 := Lib.hid (HB2.out.trans (hB3.mono HB2.out.size))
  have HS3 := Lib.hid hS
  have HP3 := Lib.hid ((HP.out.later HB3.out).mono HB3.out.size)
  have HLO : Hid (w.heap.size ≤ sb ∧ w.heap.size ≤ g ∧ w.heap.size ≤ tb) := by
    have := HB2.out.size
    show _ ∧ _
    omega
  have HAP : Hid (∀ bk off, al = some ⟨bk, off, none⟩ → cs.length = 0 ∨ (bk ≠ sb ∧ bk ≠ g ∧ bk ≠ tb)) := fun bk off e => by
    rcases HBK.out bk off e with h1 | h1
    · exact Or.inl h1
    refine Or.inr ?_
    obtain ⟨h2, h3, h4⟩ := HLO.out
    omega
  clear hS hB3 l1 l2 l3 hR hR0 hR1 hroom HT2 hV2 HB2 HP
  go_wp2_with fail
  have HMD := Lib.hid (made_clock HS3.out cs al capl HP3.out HAP.out HLE.out HNR.out)
  refine HMD.out.mono ?_
  rintro e w4 ⟨c4, g4, N4, hnx, hres⟩
  clear HMD HP3 HAP
  rcases hres with ⟨n4, x, l, a, c', rfl, hbd, hrw, hle, hn58, hlen, hone⟩ | ⟨A, k', c', rfl, hfull⟩
  case inr =>
    obtain ⟨hb4, _⟩ := hnx.bel HLO.out.1 HLO.out.2.1 HLO.out.2.2 HB3.out.size
    have HBX := Lib.hid (HB3.out.trans hb4)
    clear hnx hb4
    go_wp2_with fail
    go_ret
    exact ⟨rfl, HBX.out.trans ((bel1 w4 _).mono HBX.out.size)⟩
  obtain ⟨hb4, l4⟩ := hnx.bel HLO.out.1 HLO.out.2.1 HLO.out.2.2 HB3.out.size
  have HB4 := Lib.hid (HB3.out.trans hb4)
  have HL4 : Hid (w.heap.size ≤ sb ∧ w.heap.size ≤ g4 ∧ w.heap.size ≤ tb) := ⟨HLO.out.1, l4, HLO.out.2.2⟩
  obtain ⟨cap4, hs4⟩ := hnx.st
  have HS4 := Lib.hid hs4
  have HBD := Lib.hid hbd
  have HRW := Lib.hid hrw
  have HLL : Hid (l.length ≤ 40) := Nat.le_trans hlen HLE.out
  have HN58 := Lib.hid hn58
  have HML := Lib.hid hle
  clear hnx hs4 hb4 l4 HB3 HS3 HLO hbd hrw hle hn58 hlen hone
  have hb5 := bel1 w4 (.cells #[.pointer (some ⟨sb, 0, none⟩), .int .u32 (x : Int), .int .u64 0] 37)
  have HP5 := Lib.hid (Ob.new HS4.out #[.pointer (some ⟨sb, 0, none⟩), .int .u32 (x : Int), .int .u64 0] 37)
  have HS5 := Lib.hid (HS4.out.later hb5)
  have HB5 := Lib.hid (HB4.out.trans (hb5.mono HB4.out.size))
  have HR5 := Lib.hid (HRW.out.nx (Nx.of_below HS4.out hb5))
  have HRP : Hid (∀ bk off, a = some ⟨bk, off, none⟩ → bk < w4.heap.size) := fun bk off e => (HRW.out.2 bk off e).2.2.2
  clear hb5 HS4 HB4 HRW
  obtain ⟨k, hk, hk9⟩ : ∃ k : Nat, ((n : Int) % 10) = (k : Int) ∧ k ≤ 9 := ⟨n % 10, by omega, by omega⟩
  go_upto_region 8 with fail
  clear hk
  generalize w4.alloc (.cells #[.pointer (some ⟨sb, 0, none⟩), .int .u32 (x : Int), .int .u64 0] 37) = W5 at *
  generalize w4.heap.size = pb at *
  have HPG := Lib.hid (bd_pg HBD.out)
  have HPC := Lib.hid (tm3_cells HP5.out.at_)
  have HTN : Hid (∀ W, Below W5.heap.size W5 W → TabAt 0 Lib.deBruijn64tab W) := fun W hW => tab_below HT.out (HB5.out.trans (hW.mono HB5.out.size)) hV
  have hkk : k < 288230376151711744 := by omega
  have HKK := Lib.hid hkk
  clear hkk
  go_cut [13, 14] from 43 to 50 (fun v13 v14 wx => Rm8 w sb tb R n4 x l a k pb v13 v14 wx)
  case first =>
    refine region_tq 4 (fun W => Below W5.heap.size W5 W) (.one 0 2 (.one 1 1 (.one 3 1 (.two 2 0 (.two 4 3 (.one 5 1 (.one 6 1 (.one 7 1 (.one 8 3 (.one 9 3 (.one 10 1 .nil)))))) 8 0 (.one 4 3 (.one 5 1 (.one 6 1 (.one 7 1 (.one 9 3 (.one 10 1 .nil))))))) 8 0 (.one 2 0 (.one 4 3 (.one 5 1 (.one 6 1 (.one 7 1 (.one 9 3 (.one 10 1 .nil))))))))))) (by kernel_rfl) (by kernel_rfl) (by intro c a d v w h; cases d <;> exact h) (by kernel_rfl) (by kernel_rfl) (below_drewN (Below.refl _ W5) 1) ?_
    refine ⟨_, ?_, rfl, by rfl, ?_, ?_⟩
    rotate_left
    · intro W hW
      obtain ⟨⟨s0, s1, s2⟩, _, _, _⟩ := HPC.out
      have e0 := (hW.cell (p := ⟨pb, 0, none⟩) HP5.out.lt).trans s0
      have e1 := (hW.cell (p := ⟨pb, 1, none⟩) HP5.out.lt).trans s1
      have e2 := (hW.cell (p := ⟨pb, 2, none⟩) HP5.out.lt).trans s2
      go_simp; first | done | rfl
    conv => arg 6; simp only [Act.put, List.setIfInBounds_toArray, List.set_cons_zero, List.set_cons_succ]
    refine ⟨_, ?_, rfl, by rfl, ?_, ?_⟩
    rotate_left
    · intro W; go_simp; first | done | rfl
    conv => arg 6; simp only [Act.put, List.setIfInBounds_toArray, List.set_cons_zero, List.set_cons_succ]
    refine ⟨_, ?_, rfl, by rfl, ?_, ?_⟩
    rotate_left
    · intro W; go_simp; first | done | rfl
    conv => arg 6; simp only [Act.put, List.setIfInBounds_toArray, List.set_cons_zero, List.set_cons_succ]
    refine ⟨⟨_, rfl, by rfl, fun K hK => ?_⟩, ⟨_, rfl, by rfl, fun K hK => ?_⟩⟩
    · go_simp
      have hd1 : Below W5.heap.size W5 W5.drew := below_drewN (Below.refl W5.heap.size W5) 1
      refine (enew_any (HS5.out.later hd1)).mono ?_
      rintro e W6 ⟨mb, rfl, hmb, hme, hb6⟩
      have HM6 := Lib.hid hme
      have hbb := hd1.trans (hb6.mono hd1.size)
      have HD6 := Lib.hid hbb
      have HB6 := Lib.hid (HB5.out.trans (hbb.mono HB5.out.size))
      have hmb5 : W5.heap.size ≤ mb := Nat.le_trans hd1.size hmb
      have HA6 : Hid (Abv w.heap.size sb g4 tb mb FbT.no) := by
        obtain ⟨a1, a2, a3⟩ := HL4.out
        have h1 := HB5.out.size
        have h2 := hbb.size
        exact ⟨a1, a2, a3, by omega, fun b e => absurd e no_bl⟩
      have HT6 := Lib.hid (HTN.out _ hbb)
      have HR6 := Lib.hid (HR5.out.later hbb)
      have hpm : pb < W5.heap.size := HP5.out.lt
      have HO6 : Hid (Oe W6 sb g4 tb mb FbT.no pb (.cells #[.pointer (some ⟨sb, 0, none⟩), .int .u32 (x : Int), .int .u64 0] 37 (0, 0))) := by
        have h1 := HP5.out.later hbb
        exact ⟨h1.at_, h1.sb_, h1.g_, h1.tb_, by omega, fun e => no_bl e⟩
      refine hK _ _ (fun _ => hbb) ?_
      clear hK K hme hb6 hbb hd1
      conv => arg 6; simp only [Act.put, List.setIfInBounds_toArray, List.set_cons_zero, List.set_cons_succ]
      refine ⟨⟨_, rfl, by rfl, fun K hK => ?_⟩, ⟨_, rfl, by rfl, fun K hK => ?_⟩⟩
      · go_simp
        refine (step_clock HM6.out HPG.out HN58.out (r0 := k) HKK.out HB6.out.size hV HA6.out HT6.out).mono ?_
        rintro e W7 hst
        obtain ⟨pa, xi, gi, ev, c7, g7, N7, fb7, m7, rfl, hmx, hres⟩ := hst.gen
        have HRM : Hid (∀ bk off, a = some ⟨bk, off, none⟩ → bk ≠ mb ∧ ¬ bk ∈ FbT.no.bl) := fun bk off e => by
          have := (HR5.out.2 bk off e).2.2.2
          exact ⟨by omega, fun e => no_bl e⟩
        have HR7 := Lib.hid (HR6.out.mx HRM.out hmx)
        have HO7 := Lib.hid (HO6.out.mx hmx)
        have HBD7 := Lib.hid (HBD.out.mx HM6.out.wf hmx)
        have HM7 := Lib.hid hmx.me
        have HB7 := Lib.hid (HA6.out.below HB6.out HB6.out.size hmx)
        have HRES := Lib.hid hres
        clear hst hmx hres HRM
        refine hK _ _ (fun h => nomatch h) ?_
        clear hK K
        conv => arg 6; simp only [Act.put, List.setIfInBounds_toArray, List.set_cons_zero, List.set_cons_succ]
        refine ⟨_, ?_, rfl, by rfl, ?_, ?_⟩
        rotate_left
        · intro W; go_simp; first | done | rfl
        conv => arg 6; simp only [Act.put, List.setIfInBounds_toArray, List.set_cons_zero, List.set_cons_succ]
        refine ⟨_, ?_, rfl, by rfl, ?_, ?_⟩
        rotate_left
        · intro W; go_simp; first | done | rfl
        conv => arg 6; simp only [Act.put, List.setIfInBounds_toArray, List.set_cons_zero, List.set_cons_succ]
        refine ⟨_, ?_, rfl, by rfl, ?_, ?_⟩
        rotate_left
        · intro W; go_simp; first | done | rfl
        conv => arg 6; simp only [Act.put, List.setIfInBounds_toArray, List.set_cons_zero, List.set_cons_succ]
        refine ⟨_, rfl, by rfl, fun K hK => ?_⟩
        go_simp
        refine hK _ _ ?_
        clear hK K
        conv => arg 6; simp only [Act.put, List.setIfInBounds_toArray, List.set_cons_zero, List.set_cons_succ]
        refine ⟨_, rfl, by rfl, fun K hK => ?_⟩
        have hfr := Lib.frozen_of_heap (heap_alloc_new W7 (.cells #[.pointer none, .int .u32 0, .int .u64 0] 37))
        obtain ⟨⟨s0, s1, s2⟩, s3, s4, s5⟩ := tm3_cells (heap_alloc_new W7 (.cells #[.pointer none, .int .u32 0, .int .u64 0] 37))
        go_simp
        refine hK _ _ ?_
        clear hK K s0 s1 s2 s3 s4 s5 hfr
        conv => arg 6; simp only [Act.put, List.setIfInBounds_toArray, List.set_cons_zero, List.set_cons_succ]
        refine ⟨_, ?_, rfl, by rfl, ?_, ?_⟩
        rotate_left
        · intro W; go_simp; first | done | rfl
        conv => arg 6; simp only [Act.put, List.setIfInBounds_toArray, List.set_cons_zero, List.set_cons_succ]
        unfold wpT
        go_wp2_with fail
        go_meet
        have hb8 := bel1 W7 (.cells #[.pointer pa, .int .u32 xi, .int .u64 gi] 37)
        obtain ⟨cap7, hs7⟩ := HM7.out.st
        have hob := Ob.new hs7 #[.pointer pa, .int .u32 xi, .int .u64 gi] 37
        have h1 := HO7.out.later hb8
        exact ⟨_, g7, cap7, N7, pa, xi, gi, rfl, HB7.out.trans (hb8.mono HB7.out.size), hs7.later hb8, HBD7.out, HR7.out.later hb8, ⟨h1.at_, h1.sb_, h1.g_, h1.tb_⟩, hob, HRES.out⟩
      · go_simp
        have hbz := bel1 W6 (.cells #[.pointer none, .int .u32 0, .int .u64 0] 37)
        have HU := Lib.hid (Oe.new HM6.out #[.pointer none, .int .u32 0, .int .u64 0] 37)
        have HMb := Lib.hid (HM6.out.later hbz)
        have HBb := Lib.hid (HB6.out.trans (hbz.mono HB6.out.size))
        have HAb := Lib.hid HA6.out
        have hbb := HD6.out.trans (hbz.mono HD6.out.size)
        have HTb := Lib.hid (HTN.out _ hbb)
        have HRb := Lib.hid (HR6.out.later hbz)
        have HOb := Lib.hid (HO6.out.later hbz)
        refine hK _ _ (fun _ => hbb) ?_
        have hub : W5.heap.size ≤ W6.heap.size := HD6.out.size
        clear hK K hbz hbb HM6 HB6 HA6 HT6 HD6 HR6 HO6
        generalize W6.alloc (.cells #[.pointer none, .int .u32 0, .int .u64 0] 37) = W6b at *
        generalize W6.heap.size = ub at *
        conv => arg 6; simp only [Act.put, List.setIfInBounds_toArray, List.set_cons_zero, List.set_cons_succ]
        refine ⟨_, rfl, by rfl, fun K hK => ?_⟩
        go_simp
        refine (step_clock HMb.out HPG.out HN58.out (r0 := k) HKK.out HBb.out.size hV HAb.out HTb.out).mono ?_
        rintro e W7 hst
        obtain ⟨pa, xi, gi, ev, c7, g7, N7, fb7, m7, rfl, hmx, hres⟩ := hst.gen
        have HRM : Hid (∀ bk off, a = some ⟨bk, off, none⟩ → bk ≠ mb ∧ ¬ bk ∈ FbT.no.bl) := fun bk off e => by
          have := (HR5.out.2 bk off e).2.2.2
          exact ⟨by omega, fun e => no_bl e⟩
        have HR7 := Lib.hid (HRb.out.mx HRM.out hmx)
        have HO7 := Lib.hid (HOb.out.mx hmx)
        have HBD7 := Lib.hid (HBD.out.mx HMb.out.wf hmx)
        have HM7 := Lib.hid hmx.me
        have HB7 := Lib.hid (HAb.out.below HBb.out HBb.out.size hmx)
        have HRES := Lib.hid hres
        have HU7 := Lib.hid (HU.out.mx hmx)
        clear hst hmx hres HRM
        refine hK _ _ ?_
        clear hK K
        conv => arg 6; simp only [Act.put, List.setIfInBounds_toArray, List.set_cons_zero, List.set_cons_succ]
        refine ⟨_, ?_, rfl, by rfl, ?_, ?_⟩
        rotate_left
        · intro W; go_simp; first | done | rfl
        conv => arg 6; simp only [Act.put, List.setIfInBounds_toArray, List.set_cons_zero, List.set_cons_succ]
        refine ⟨_, ?_, rfl, by rfl, ?_, ?_⟩
        rotate_left
        · intro W; go_simp; first | done | rfl
        conv => arg 6; simp only [Act.put, List.setIfInBounds_toArray, List.set_cons_zero, List.set_cons_succ]
        refine ⟨_, ?_, rfl, by rfl, ?_, ?_⟩
        rotate_left
        · intro W; go_simp; first | done | rfl
        conv => arg 6; simp only [Act.put, List.setIfInBounds_toArray, List.set_cons_zero, List.set_cons_succ]
        refine ⟨_, rfl, by rfl, fun K hK => ?_⟩
        obtain ⟨⟨s0, s1, s2⟩, s3, s4, s5⟩ := tm3_cells HU7.out.at_
        go_simp
        refine hK _ _ ?_
        clear hK K s0 s1 s2 s3 s4 s5
        conv => arg 6; simp only [Act.put, List.setIfInBounds_toArray, List.set_cons_zero, List.set_cons_succ]
        refine ⟨_, ?_, rfl, by rfl, ?_, ?_⟩
        rotate_left
        · intro W; go_simp; first | done | rfl
        conv => arg 6; simp only [Act.put, List.setIfInBounds_toArray, List.set_cons_zero, List.set_cons_succ]
        unfold wpT
        go_wp2_with fail
        go_meet
        obtain ⟨cap7, hs7⟩ := HM7.out.st
        obtain ⟨W, hW, hsW, hPW, hBW, hsz, hbk⟩ := st_put3 hs7 ⟨HU7.out.at_, HU7.out.sb_, HU7.out.g_, HU7.out.tb_⟩ (.pointer pa) (.int .u32 xi) (.int .u64 gi)
        rw [hW]
        refine ⟨_, g7, cap7, N7, pa, xi, gi, rfl, hBW _ _ (Nat.le_trans HB5.out.size hub) HB7.out, hsW, HBD7.out, HR7.out.keep (by omega) (fun bk off e => hbk bk ?_) (fun bk off e => (HR7.out.2 bk off e).2.1), ⟨(hbk pb ?_).trans HO7.out.at_, HO7.out.sb_, HO7.out.g_, HO7.out.tb_⟩, hPW, HRES.out⟩
        · have := (HR5.out.2 bk off e).2.2.2
          omega
        · omega
    · go_simp
      have hbz := bel1 W5 (.cells #[.pointer none, .int .u32 0, .int .u64 0] 37)
      have huo := Ob.new HS5.out #[.pointer none, .int .u32 0, .int .u64 0] 37
      have HUo : Hid (Ob (W5.alloc (.cells #[.pointer none, .int .u32 0, .int .u64 0] 37)).drew sb g4 tb W5.heap.size (.cells #[.pointer none, .int .u32 0, .int .u64 0] 37 (0, 0))) := ⟨huo.at_, huo.sb_, huo.g_, huo.tb_⟩
      have HSb := Lib.hid (HS5.out.later hbz).drew
      have HDb := Lib.hid hbz.drew
      have hub : W5.heap.size ≤ W5.heap.size := Nat.le_refl _
      refine hK _ _ (fun _ => HDb.out) ?_
      clear hK K hbz huo
      generalize (W5.alloc (.cells #[.pointer none, .int .u32 0, .int .u64 0] 37)).drew = W5b at *
      conv => arg 6; simp only [Act.put, List.setIfInBounds_toArray, List.set_cons_zero, List.set_cons_succ]
      refine ⟨_, rfl, by rfl, fun K hK => ?_⟩
      go_simp
      refine (enew_any HSb.out).mono ?_
      rintro e W6b ⟨mb, rfl, hmb, hme, hb6⟩
      have HMb := Lib.hid hme
      have hbb := HDb.out.trans (hb6.mono HDb.out.size)
      have HBb := Lib.hid (HB5.out.trans (hbb.mono HB5.out.size))
      have hmb5 : W5.heap.size ≤ mb := Nat.le_trans HDb.out.size hmb
      have HAb : Hid (Abv w.heap.size sb g4 tb mb FbT.no) := by
        obtain ⟨a1, a2, a3⟩ := HL4.out
        have h1 := HB5.out.size
        have h2 := hbb.size
        exact ⟨a1, a2, a3, by omega, fun b e => absurd e no_bl⟩
      have HTb := Lib.hid (HTN.out _ hbb)
      have HRb := Lib.hid (HR5.out.later hbb)
      have hpm : pb < W5.heap.size := HP5.out.lt
      have HOb : Hid (Oe W6b sb g4 tb mb FbT.no pb (.cells #[.pointer (some ⟨sb, 0, none⟩), .int .u32 (x : Int), .int .u64 0] 37 (0, 0))) := by
        have h1 := HP5.out.later hbb
        exact ⟨h1.at_, h1.sb_, h1.g_, h1.tb_, by omega, fun e => no_bl e⟩
      have HU : Hid (Oe W6b sb g4 tb mb FbT.no W5.heap.size (.cells #[.pointer none, .int .u32 0, .int .u64 0] 37 (0, 0))) := by
        have h1 := HUo.out.later hb6
        have h2 := HUo.out.lt
        exact ⟨h1.at_, h1.sb_, h1.g_, h1.tb_, by omega, fun e => no_bl e⟩
      refine hK _ _ hbb ?_
      clear hK K hme hb6 hbb HUo HSb HDb
      conv => arg 6; simp only [Act.put, List.setIfInBounds_toArray, List.set_cons_zero, List.set_cons_succ]
      refine ⟨_, rfl, by rfl, fun K hK => ?_⟩
      go_simp
      refine (step_clock HMb.out HPG.out HN58.out (r0 := k) HKK.out HBb.out.size hV HAb.out HTb.out).mono ?_
      rintro e W7 hst
      obtain ⟨pa, xi, gi, ev, c7, g7, N7, fb7, m7, rfl, hmx, hres⟩ := hst.gen
      have HRM : Hid (∀ bk off, a = some ⟨bk, off, none⟩ → bk ≠ mb ∧ ¬ bk ∈ FbT.no.bl) := fun bk off e => by
        have := (HR5.out.2 bk off e).2.2.2
        exact ⟨by omega, fun e => no_bl e⟩
      have HR7 := Lib.hid (HRb.out.mx HRM.out hmx)
      have HO7 := Lib.hid (HOb.out.mx hmx)
      have HBD7 := Lib.hid (HBD.out.mx HMb.out.wf hmx)
      have HM7 := Lib.hid hmx.me
      have HB7 := Lib.hid (HAb.out.below HBb.out HBb.out.size hmx)
      have HRES := Lib.hid hres
      have HU7 := Lib.hid (HU.out.mx hmx)
      clear hst hmx hres HRM
      refine hK _ _ ?_
      clear hK K
      conv => arg 6; simp only [Act.put, List.setIfInBounds_toArray, List.set_cons_zero, List.set_cons_succ]
      refine ⟨_, ?_, rfl, by rfl, ?_, ?_⟩
      rotate_left
      · intro W; go_simp; first | done | rfl
      conv => arg 6; simp only [Act.put, List.setIfInBounds_toArray, List.set_cons_zero, List.set_cons_succ]
      refine ⟨_, ?_, rfl, by rfl, ?_, ?_⟩
      rotate_left
      · intro W; go_simp; first | done | rfl
      conv => arg 6; simp only [Act.put, List.setIfInBounds_toArray, List.set_cons_zero, List.set_cons_succ]
      refine ⟨_, ?_, rfl, by rfl, ?_, ?_⟩
      rotate_left
      · intro W; go_simp; first | done | rfl
      conv => arg 6; simp only [Act.put, List.setIfInBounds_toArray, List.set_cons_zero, List.set_cons_succ]
      refine ⟨_, rfl, by rfl, fun K hK => ?_⟩
      obtain ⟨⟨s0, s1, s2⟩, s3, s4, s5⟩ := tm3_cells HU7.out.at_
      go_simp
      refine hK _ _ ?_
      clear hK K s0 s1 s2 s3 s4 s5
      conv => arg 6; simp only [Act.put, List.setIfInBounds_toArray, List.set_cons_zero, List.set_cons_succ]
      refine ⟨_, ?_, rfl, by rfl, ?_, ?_⟩
      rotate_left
      · intro W; go_simp; first | done | rfl
      conv => arg 6; simp only [Act.put, List.setIfInBounds_toArray, List.set_cons_zero, List.set_cons_succ]
      unfold wpT
      go_wp2_with fail
      go_meet
      obtain ⟨cap7, hs7⟩ := HM7.out.st
      obtain ⟨W, hW, hsW, hPW, hBW, hsz, hbk⟩ := st_put3 hs7 ⟨HU7.out.at_, HU7.out.sb_, HU7.out.g_, HU7.out.tb_⟩ (.pointer pa) (.int .u32 xi) (.int .u64 gi)
      rw [hW]
      refine ⟨_, g7, cap7, N7, pa, xi, gi, rfl, hBW _ _ (Nat.le_trans HB5.out.size hub) HB7.out, hsW, HBD7.out, HR7.out.keep (by omega) (fun bk off e => hbk bk ?_) (fun bk off e => (HR7.out.2 bk off e).2.1), ⟨(hbk pb ?_).trans HO7.out.at_, HO7.out.sb_, HO7.out.g_, HO7.out.tb_⟩, hPW, HRES.out⟩
      · have := (HR5.out.2 bk off e).2.2.2
        omega
      · omega
  case rest =>
    obtain ⟨ub, g8, cap8, N8, pa, xi, gi, rfl, hbw, hs, hbd, hrw, hob, hou, hcs⟩ := hcut
    have HBW := Lib.hid hbw
    have HS8 := Lib.hid hs
    have HBD8 := Lib.hid hbd
    have HR8 := Lib.hid hrw
    have HU8 := Lib.hid hou
    have HCS := Lib.hid hcs
    have HNM : Hid (∀ c ∈ l, Nr11 c) := by
      show ∀ c ∈ l, Nr11 c
      rw [HML.out]
      exact made_nr HNR.out
    obtain ⟨⟨s0, s1, s2⟩, _, _, _⟩ := tm3_cells hob.at_
    clear hbw hs hbd hrw hob hou hcs HPG HPC HTN HS5 HP5 HR5 HB5 HL4 HBD HRP HBK HT hV HL HLE HNR HML HN58
    go_wp2_with fail
    refine (same_anyB HS8.out HBD8.out.sq HBD8.out.two l a c' HR8.out.1 (by have := HLL.out; omega) HBD8.out.nd HBD8.out.on HBD8.out.al).mono ?_
    rintro e w9 ⟨rfl, hb9⟩
    have HB9 := Lib.hid (HBW.out.trans (hb9.mono HBW.out.size))
    have HS9 := Lib.hid (HS8.out.later hb9)
    have HR9 := Lib.hid (HR8.out.later hb9)
    have HU9 := Lib.hid (HU8.out.later hb9)
    clear hb9 s0 s1 s2 HS8 HR8 HU8
    rcases HCS.out with ⟨rfl, rfl, r, n', rfl, hpg⟩ | ⟨rfl, rfl, rfl, rfl⟩
    · have HPG := Lib.hid hpg
      clear hpg HCS
      go_wp2_with fail
      go_loopg [10, 67] k (fun m v10 v67 wr => Lp11s w sb g8 tb cap8 R N8 l ub r k gi m v10 v67 wr)
      case atStart => exact ⟨0, l, a, c', rfl, Nat.zero_le _, HB9.out, rfl, rfl, Gn11.zero HBD8.out.nd, HR9.out, HS9.out, HU9.out⟩
      case round =>
        clear HR9 HS9 HU9 HB9
        obtain ⟨j, L, aj, cj, hm, hj, hbj, rfl, rfl, hgn, hrj, hsj, huj⟩ := hrel
        have HM := Lib.hid hm
        have HBJ := Lib.hid hbj
        have HGN := Lib.hid hgn
        have HRJ := Lib.hid hrj
        have HSJ := Lib.hid hsj
        have HUJ := Lib.hid huj
        clear hm hbj hgn hrj hsj huj
        by_cases hlt : j < k
        · have hgj : decide ((j : Int) < (k : Int)) = true := decide_eq_true (by omega)
          have hLL := HGN.out.len (by omega) HLL.out
          go_wp2_with fail
          refine (next_ref L aj cj wr HRJ.out.1 (by omega) (gn_mid HGN.out (by omega) HNM.out)).mono ?_
          rintro e w10 ⟨v, M, rfl, hown, hnd, hmem, _, hb10⟩
          obtain ⟨aM, cM, rfl, hroM, hbkM⟩ := hown.ro
          have HGM := Lib.hid (HGN.out.next hnd hmem)
          have HB10 := Lib.hid (HBJ.out.trans (hb10.mono HBJ.out.size))
          have HS10 := Lib.hid (HSJ.out.later hb10)
          have HU10 := Lib.hid (HUJ.out.later hb10)
          have HRM : Hid (Rw7 w10 sb g8 tb aM M) := ⟨hroM, fun bk off e => by
            have h1 := hbkM bk off e
            obtain ⟨h2, h3, h4⟩ := HSJ.out.lt
            omega⟩
          clear hown hnd hmem hb10 hroM hbkM
          go_wp2_with fail
          go_roundg (k - (j + 1))
          case measure => rw [HM.out]; omega
          case rel => exact ⟨j + 1, M, aM, cM, rfl, hlt, HB10.out, by go_num, rfl, HGM.out, HRM.out, HS10.out, HU10.out⟩
        · obtain rfl : j = k := by omega
          have hgj : decide ((j : Int) < (j : Int)) = false := by simp
          have hLL := HGN.out.len hk9 HLL.out
          obtain ⟨⟨s0, s1, s2⟩, _, _, _⟩ := tm3_cells HUJ.out.at_
          have hsame := same_anyB HSJ.out HPG.out.sq HPG.out.two L aj cj HRJ.out.1 (by omega) HGN.out.1 (gn_on HGN.out hk9 HNM.out) (fun p q => by rw [HPG.out.al]; exact HGN.out.mem p q)
          have HSM := Lib.hid hsame
          clear hsame hLL
          go_wp2_with fail
          refine HSM.out.mono ?_
          rintro e w11 ⟨rfl, hb11⟩
          go_wp2_with fail
          go_ret
          exact ⟨rfl, HBJ.out.trans (hb11.mono HBJ.out.size)⟩
    · obtain ⟨⟨s0, s1, s2⟩, _, _, _⟩ := tm3_cells HU9.out.at_
      have HBA := Lib.hid (HB9.out.trans ((bel1 w9 (.cells #[.int .i64 7] 48)).mono HB9.out.size))
      have HUA := Lib.hid (HU9.out.later (bel1 w9 (.cells #[.int .i64 7] 48)))
      clear s0 s1 s2
      obtain ⟨⟨s0, s1, s2⟩, _, _, _⟩ := tm3_cells HUA.out.at_
      go_wp2_with fail
      refine (fis_one 7 (by omega) _ _ _ (by rw [Lib.cell_of_heap (heap_alloc_new w9 _)]; rfl)).mono ?_
      rintro e w10 ⟨rfl, rfl⟩
      have heq := eqNil11 9997
      simp only [Nat.reduceAdd] at heq
      go_wp2_with fail
      go_ret
      exact ⟨rfl, HBA.out⟩
end Go.Proofs.YtaapkngpnlnjeaaGreatDoor
