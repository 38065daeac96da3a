/- The law QuadActs: its walk. -/
import Derived.Test.YtfkjfkjhipieaaaQA2
namespace Go.Proofs.Ytfkjfkjhipieaaa
open Go.RowKit Go.Maps
set_option maxRecDepth 100000

theorem cell_two (w : World) (u v : Value) (t : TypeId) : ∀ j x, [u, v][j]? = some x → (w.alloc (.cells #[u, v] t)).cell? ((⟨w.heap.size, 0, none⟩ : Addr).add j) = some x := fun j x hx => by
  match j, hx with
  | 0, hx => simp at hx; subst hx; simp [Addr.add]
  | 1, hx => simp at hx; subst hx; simp [Addr.add]
  | j + 2, hx => simp at hx
theorem cell_one7 (w : World) (u : Value) (t : TypeId) : ∀ j x, [u][j]? = some x → (w.alloc (.cells #[u] t)).cell? ((⟨w.heap.size, 0, none⟩ : Addr).add j) = some x := fun j x hx => by
  match j, hx with
  | 0, hx => simp at hx; subst hx; simp [Addr.add]
  | j + 1, hx => simp at hx
theorem qs_start {W : World} {sb g tb cap most : Nat} {M : List Nd} (h : St W sb g tb cap most M) {r pb B : Nat} (hp : Ob W sb g tb pb (plO sb r)) (hB : B ≤ W.heap.size) (hbd : Bd M 2 r []) :
    QS ((W.alloc (.cells #[.pointer (some ⟨sb, 0, none⟩), .int .u32 (r : Int)] 32)).alloc (.cells #[.slice none 0 0] 36)) sb g tb M B [⟨2, r, [], none, 0⟩] ⟨2, r, [], none, 0⟩ W.heap.size 1 (W.heap.size + 1) 1 pb := by
  have h0 := hp.lt
  have h1 := h.lt
  have e1 : (W.alloc (.cells #[.pointer (some ⟨sb, 0, none⟩), .int .u32 (r : Int)] 32)).heap.size = W.heap.size + 1 := by simp
  have r1 := (World.ownsRow_lit (base := B) (e := 32) (size := 2) W #[.pointer (some ⟨sb, 0, none⟩), .int .u32 (r : Int)] 1 hB (by unfold maxLen; omega) rfl).alloc (.cells #[.slice none 0 0] 36)
  have r2 := World.ownsRow_lit (base := B) (e := 36) (size := 1) (W.alloc (.cells #[.pointer (some ⟨sb, 0, none⟩), .int .u32 (r : Int)] 32)) #[.slice none 0 0] 1 (by omega) (by unfold maxLen; omega) rfl
  rw [e1] at r2
  refine ⟨r1, r2, hp.later (bel2 _ _ _), by omega, by omega, by omega, fun m hm => ?_, fun m hm bk off e => ?_, List.mem_singleton.2 rfl⟩
  · rw [List.mem_singleton] at hm
    subst hm
    exact ⟨hbd, Rw7.nil _ _ _ _, Nat.zero_le _⟩
  · rw [List.mem_singleton] at hm
    subst hm
    cases e
set_option maxHeartbeats 8000000 in
theorem qacts_any (L : List Ac) (a : Option Addr) (cap : Nat) (w : World) (h : Acs w w.heap.size a L) (_ : L.length ≤ maxLen) :
    Calls Try.prog 3 #[.slice a L.length cap] w fun e w' => e = .returned (.bool true) ∧ Below w.heap.size w w' := by
  have HAC := Lib.hid h
  clear h
  go_enter Try.func3, Try.ntmps3
  go_wp2_with fail
  refine (lives7_any _).mono ?_
  rintro e W1 ⟨rfl, hb⟩
  have HB1 := Lib.hid hb
  clear hb
  by_cases h60 : L.length ≤ 60
  · have hg60 : decide ((60 : Int) < (L.length : Int)) = false := by simp; omega
    go_wp2_with fail
    refine (new_good 65536 (by omega) (by omega) _).mono ?_
    rintro e W3 ⟨sb, g, tb, rfl, hS, hB, l1, l2, l3⟩
    have HS := Lib.hid hS
    have HB3 := Lib.hid (HB1.out.trans (hB.mono HB1.out.size))
    have hsz : w.heap.size ≤ W1.heap.size := HB1.out.size
    have hsz3 : w.heap.size ≤ W3.heap.size := HB3.out.size
    clear hS hB HB1
    go_wp2_with fail
    refine (qnew_any HS.out).mono ?_
    rintro e W4 ⟨g4, N4, hnx, hres⟩
    have HN4 := Lib.hid hnx
    clear hnx
    have hlen4 := HN4.out.len
    simp only [N0, List.length_cons, List.length_nil] at hlen4
    unfold plV at hres
    rcases hres with ⟨r, rfl, hem, hl⟩ | ⟨rfl, hfull⟩
    · have HBD : Hid (Bd N4 2 r []) := ⟨hem.1, Nat.le_refl _, hl.mono (by omega), List.nodup_nil, (fun c hc => by cases hc), (fun p q => by rw [em_al hem]; simp)⟩
      clear hem hl
      obtain ⟨cap4, hS4⟩ := HN4.out.st
      have HBA := Lib.hid (bel1 W4 (.cells #[.pointer (some ⟨sb, 0, none⟩), .int .u32 (r : Int)] 32))
      have HP5 := Lib.hid (Ob.new hS4 #[.pointer (some ⟨sb, 0, none⟩), .int .u32 (r : Int)] 32)
      have HN5 := Lib.hid (HN4.out.trans (Nx.of_below hS4 HBA.out))
      have hpb : W3.heap.size ≤ W4.heap.size := HN4.out.frm.size
      clear HBA hS4 HN4
      have hw5 : (W4.alloc (.cells #[.pointer (some ⟨sb, 0, none⟩), .int .u32 (r : Int)] 32)).heap.size = W4.heap.size + 1 := by simp
      go_upto_region 7 with fail
      generalize W4.alloc (.cells #[.pointer (some ⟨sb, 0, none⟩), .int .u32 (r : Int)] 32) = W5 at *
      generalize W4.heap.size = pb at *
      clear W4
      obtain ⟨cap5, hS5⟩ := HN5.out.st
      have hq := qs_start hS5 HP5.out (B := W3.heap.size) (by omega) HBD.out
      rw [hw5] at hq
      have HQ7 := Lib.hid hq
      have HN7 := Lib.hid (HN5.out.trans (Nx.of_below hS5 (bel2 W5 (.cells #[.pointer (some ⟨sb, 0, none⟩), .int .u32 (r : Int)] 32) (.cells #[.slice none 0 0] 36))))
      clear hq hS5 HN5 HP5
      generalize (W5.alloc (.cells #[.pointer (some ⟨sb, 0, none⟩), .int .u32 (r : Int)] 32)).alloc (.cells #[.slice none 0 0] 36) = W7 at *
      go_wp2_with fail
      go_loopg [7, 8, 9, 11, 12, 39] L.length (fun mm v7 v8 v9 v11 v12 cnt wr => ∃ (j gg : Nat) (M : List Nd) (H : List Mo) (m : Mo) (gP cP gC cC : Nat), mm = L.length - j ∧ j ≤ L.length ∧ cnt = .int .i64 (j : Int) ∧ H.length = j + 1 ∧ v7 = .slice m.a m.l.length m.c ∧ v8 = .slice (some ⟨gP, 0, none⟩) H.length cP ∧ v9 = .slice (some ⟨gC, 0, none⟩) H.length cC ∧ Nx sb tb 65536 W3 g N0 (3 + 360 * j) wr gg M ∧ QS wr sb gg tb M W3.heap.size H m gP cP gC cC pb ∧ (∀ m', m' ∈ H → m'.l.length ≤ j))
      case atStart =>
        exact ⟨0, g4, N4, [⟨2, r, [], none, 0⟩], ⟨2, r, [], none, 0⟩, pb + 1, 1, pb + 1 + 1, 1, rfl, Nat.zero_le _, rfl, rfl, rfl, rfl, rfl, HN7.out.mono (by omega), HQ7.out, fun m' hm => by rw [List.mem_singleton] at hm; subst hm; exact Nat.le_refl _⟩
      case round =>
        clear HQ7 HN7 HBD
        obtain ⟨j, gg, M, H, m, gP, cP, gC, cC, hmm, hj, rfl, hHl, rfl, rfl, rfl, hN, hQ, hll⟩ := hrel
        have HHL := Lib.hid hHl
        have HM := Lib.hid hmm
        have HN := Lib.hid hN
        have HQ := Lib.hid hQ
        have HLL := Lib.hid hll
        clear hmm hN hQ hll hHl
        obtain ⟨hbw, _⟩ := HN.out.bel (B := w.heap.size) (by omega) (by omega) (by omega) hsz3
        have HBW := Lib.hid (HB3.out.trans hbw)
        clear hbw
        have hlenM := HN.out.len
        simp only [N0, List.length_cons, List.length_nil] at hlenM
        by_cases hlt : j < L.length
        · obtain ⟨c, hc⟩ : ∃ c, L[j]? = some c := ⟨L[j], List.getElem?_eq_getElem hlt⟩
          obtain ⟨hkd, bk, off, ha, hbk, c0, c1, c2⟩ := (HAC.out.later HBW.out) j c hc
          subst ha
          have hgj : decide ((j : Int) < (L.length : Int)) = true := by simp; omega
          have i1 : (0 : Int) ≤ (j : Int) := by omega
          have i2 : (j : Int) < (L.length : Int) := by omega
          obtain ⟨capM, hSM⟩ := HN.out.st
          have hbA := bel1 wr (.cells #[.int .u8 (c.kd : Int), .int .i64 c.p, .int .i64 c.q] 42)
          have HNA := Lib.hid (HN.out.trans (Nx.of_below hSM hbA))
          have HSA := Lib.hid (hSM.later hbA)
          have HQA := Lib.hid (HQ.out.later hbA)
          have HAO := Lib.hid (Ob.new hSM #[.int .u8 (c.kd : Int), .int .i64 c.p, .int .i64 c.q] 42)
          have hmab : ∀ bk off, m.a = some ⟨bk, off, none⟩ → bk < wr.heap.size := fun bk off e => ((HQ.out.mos m HQ.out.mem).2.1.2 bk off e).2.2.2
          have hab : pb < wr.heap.size ∧ gP < wr.heap.size ∧ gC < wr.heap.size := ⟨HQ.out.pl.lt, (own_lt HQ.out.rp).2, (own_lt HQ.out.rc).2⟩
          clear hSM hbA
          obtain ⟨hmB, hmR, hml⟩ := HQA.out.mos m HQA.out.mem
          have hml2 := HLL.out m HQA.out.mem
          have HST := Lib.hid (step_any HSA.out (by omega) hmB m.a m.c hmR (by omega) c.kd hkd c.p c.q)
          clear hmB hmR hml
          obtain ⟨p0, p1⟩ := pl_cells HQA.out.pl.at_
          go_wp2_with fail
          generalize wr.alloc (.cells #[.int .u8 (c.kd : Int), .int .i64 c.p, .int .i64 c.q] 42) = WA at *
          generalize wr.heap.size = ab at *
          refine HST.out.mono ?_
          clear HST p0 p1 c0 c1 c2 hc
          rintro e W6 ⟨g6, M6, n', x', l', a', c', rfl, hnx, hbd, hrw, hfr, hl'⟩
          have HQ6 := Lib.hid (HQA.out.nx HSA.out.wf hnx)
          have HN6 := Lib.hid (HNA.out.trans hnx)
          have HAO6 := Lib.hid (HAO.out.nx hnx)
          have HBD6 := Lib.hid hbd
          have HRW6 := Lib.hid hrw
          have HFR : Hid (∀ bk off, a' = some ⟨bk, off, none⟩ → bk ≠ gP ∧ bk ≠ gC ∧ bk ≠ pb ∧ bk ≠ ab) := fun bk off e => by
            have hWA := HAO.out.lt
            rcases hfr with rfl | hfr
            · have h1 := HQA.out.far m HQA.out.mem bk off e
              have h2 := hmab bk off e
              omega
            · have := hfr bk off e
              omega
          clear hnx hbd hrw hfr hmab
          obtain ⟨p0, p1, pf0, pf1⟩ := res_cells HQ6.out.pl.at_
          go_upto_region 14 with fail
          obtain ⟨W, hW, hN8, hP8, _⟩ := put_pl HN6.out HQ6.out.pl hpb (.pointer (some ⟨sb, 0, none⟩)) (.int .u32 (x' : Int))
          have hR8 := (HQ6.out.rest.set (i := 0) (.pointer (some ⟨sb, 0, none⟩))).set (i := 1) (.int .u32 (x' : Int))
          have hw8 := (HRW6.out.other (b := pb) (i := 0) (fun off e => (HFR.out pb off e).2.2.1 rfl) (.pointer (some ⟨sb, 0, none⟩))).other (b := pb) (i := 1) (fun off e => (HFR.out pb off e).2.2.1 rfl) (.int .u32 (x' : Int))
          have ha8 := (HAO6.out.other (p := ⟨pb, 0, none⟩) (by show pb ≠ ab; omega) (.pointer (some ⟨sb, 0, none⟩))).other (p := ⟨pb, 1, none⟩) (by show pb ≠ ab; omega) (.int .u32 (x' : Int))
          rw [hW] at hR8 hw8 ha8 ⊢
          have HN8 := Lib.hid hN8
          have HP8 : Hid (Ob W sb g6 tb pb (plO sb x')) := hP8
          have HR8 := Lib.hid hR8
          have HRW8 := Lib.hid hw8
          have HA8 : Hid (Ob W sb g6 tb ab (acO c.kd c.p c.q)) := ha8
          obtain ⟨cap8, hS8⟩ := hN8.st
          have HS8 := Lib.hid hS8
          clear hW hN8 hP8 hR8 hw8 ha8 hS8 p0 p1 pf0 pf1 HN6 HQ6 HAO6 HRW6
          obtain ⟨p0, p1⟩ := pl_cells HP8.out.at_
          obtain ⟨c0, c1, c2⟩ := ac_cells HA8.out.at_
          have hl60 : l'.length ≤ 60 := by omega
          have hne := Up.me W
          have HSM := Lib.hid (fun z : Up W => Up.calls (fun W' hb => same_any (HS8.out.later hb) HBD6.out.sq HBD6.out.two l' a' c' (HRW8.out.1.later hb) (by omega) HBD6.out.nd HBD6.out.on HBD6.out.al) z)
          have HGE := Lib.hid (fun z : Up W => Up.calls (fun W' hb => get_any (HS8.out.later hb) HBD6.out.sq HBD6.out.two c.p c.q) z)
          rw [HBD6.out.al c.p c.q] at HGE
          have HOF := Lib.hid (fun z : Up W => Up.calls (fun W' _ => of_law c.p c.q W') z)
          have HHA := Lib.hid (fun z : Up W => Up.calls (fun W' hb => has_ref l' a' c' c.p c.q W' (HRW8.out.1.later hb) (by omega)) z)
          have g0 := fun z : Up W => Up.cell p0 z
          have g1 := fun z : Up W => Up.cell p1 z
          have g2 := fun z : Up W => Up.cell c0 z
          have g3 := fun z : Up W => Up.cell c1 z
          have g4 := fun z : Up W => Up.cell c2 z
          generalize decide ((c.p, c.q) ∈ l') = bv at *
          have hbv : (bv != bv) = false := by simp
          refine region_up (by kernel_rfl) (by kernel_rfl) ?_
          repeat (go_big_quiet_step ((first | (go_at_call 11; with_reducible exact HSM.out _) | (go_at_call 12; with_reducible exact HGE.out _) | (go_at_call 14; with_reducible exact HOF.out _) | (go_at_call 13; with_reducible exact HHA.out _))))
          refine wpQuiet_nil ?_
          rintro w2 ⟨⟨W2, hW2⟩, hw2⟩
          obtain rfl : w2 = W2 := hw2
          have HN9 := Lib.hid (HN8.out.trans (Nx.of_below HS8.out hW2))
          have HP9 := Lib.hid (HP8.out.later hW2)
          have HR9 := Lib.hid (HR8.out.later hW2)
          have HRW9 := Lib.hid (HRW8.out.later hW2)
          clear HSM HGE HOF HHA g0 g1 g2 g3 g4 hne hW2 p0 p1 c0 c1 c2 HN8 HP8 HR8 HRW8 HA8 HS8
          obtain ⟨p0, p1⟩ := pl_cells HP9.out.at_
          have hHl2 : H.length ≤ 61 := by have := HHL.out; omega
          have hs2 : W3.heap.size ≤ w2.heap.size := HN9.out.frm.size
          obtain ⟨cap9, hS9⟩ := HN9.out.st
          have HS9 := Lib.hid hS9
          clear hS9
          obtain ⟨ia, hia, hia0, hia1, hia2⟩ := infoPl
          obtain ⟨ib, hib, hib0, hib1, hib2⟩ := infoCl
          have HIA := Lib.hid hia
          have HIA0 := Lib.hid hia0
          have HIA1 := Lib.hid hia1
          have HIA2 := Lib.hid hia2
          have HIB := Lib.hid hib
          have HIB0 := Lib.hid hib0
          have HIB1 := Lib.hid hib1
          have HIB2 := Lib.hid hib2
          clear hia hia0 hia1 hia2 hib hib0 hib1 hib2
          go_wp2_with (first | (at_builtin; refine wpList_append_lies _ rfl _ _ 37 rfl W3.heap.size 32 ia (.agg #[.pointer none, .int .u32 0]) 2 16 Try.underlying37 HIA.out HIA0.out HIA1.out HIA2.out rfl (by decide) _ _ _ rfl (HR9.out.rp.alloc _) ⟨w2.heap.size, 0, none⟩ 1 1 [.pointer (some ⟨sb, 0, none⟩), .int .u32 (x' : Int)] rfl rfl ?_ ?_ ?_ ?_ ?_ ?_ _ rfl ?_; (exact cell_two _ _ _ _); (intro u hu; simp at hu; rcases hu with rfl | rfl <;> rfl); (decide); (unfold maxLen; omega); (omega); (simp; omega); intro gP2 cP2 w4 hown4 hgrow4 hat4 hlt4; have HO4 := Lib.hid hown4; have HG4 : Hid ((w2.alloc (.cells #[.pointer (some ⟨sb, 0, none⟩), .int .u32 (x' : Int)] 32)).grownBy w4 (some gP)) := hgrow4; have HAT4 : Hid (some gP = some gP2 ∨ gP2 = (w2.alloc (.cells #[.pointer (some ⟨sb, 0, none⟩), .int .u32 (x' : Int)] 32)).heap.size) := hat4; have HRC4 := Lib.hid (own_blk (HR9.out.rc.alloc (.cells #[.pointer (some ⟨sb, 0, none⟩), .int .u32 (x' : Int)] 32)) (HG4.out.block gC (by have := (own_lt HR9.out.rc).2; simp; omega) (by have := HR9.out.ne.1; simp; omega))); have hs4 := HG4.out.size; clear hown4 hgrow4 hat4 hlt4) | (at_builtin; refine wpList_append_lies _ rfl _ _ 38 rfl W3.heap.size 36 ib (.slice none 0 0) 1 24 Try.underlying38 HIB.out HIB0.out HIB1.out HIB2.out rfl (by decide) _ _ _ rfl (HRC4.out.alloc _) ⟨w4.heap.size, 0, none⟩ 1 1 [.slice a' l'.length c'] rfl rfl ?_ ?_ ?_ ?_ ?_ ?_ _ rfl ?_; (exact cell_one7 _ _ _); (intro u hu; simp at hu; subst hu; rfl); (decide); (unfold maxLen; omega); (omega); (simp at hs4 ⊢; omega); intro gC2 cC2 w5 hown5 hgrow5 hat5 hlt5; have HO5 := Lib.hid hown5; have HG5 : Hid ((w4.alloc (.cells #[.slice a' l'.length c'] 36)).grownBy w5 (some gC)) := hgrow5; have HAT5 : Hid (some gC = some gC2 ∨ gC2 = (w4.alloc (.cells #[.slice a' l'.length c'] 36)).heap.size) := hat5; clear hown5 hgrow5 hat5 hlt5))
          go_roundg (L.length - (j + 1))
          case measure => rw [HM.out]; omega
          case rel =>
            have hl9 := HS9.out.lt
            have hz1 : (w2.alloc (.cells #[.pointer (some ⟨sb, 0, none⟩), .int .u32 (x' : Int)] 32)).heap.size = w2.heap.size + 1 := by simp
            have hz2 : (w4.alloc (.cells #[.slice a' l'.length c'] 36)).heap.size = w4.heap.size + 1 := by simp
            have hz4 := HG4.out.size
            have hz5 := HG5.out.size
            have hat4 := HAT4.out
            have hat5 := HAT5.out
            simp only [Option.some.injEq] at hat4 hat5
            have hgP := own_lt HR9.out.rp
            have hgC := own_lt HR9.out.rc
            have hne := HR9.out.ne
            have hnP := HR9.out.nP
            have hnC := HR9.out.nC
            have hpl := HP9.out.lt
            have hHl := HHL.out
            have hN4 : Nx sb tb 65536 W3 g N0 _ w4 g6 M6 := (HN9.out.trans (Nx.of_below HS9.out (bel1 w2 _))).grown HG4.out hgP.1 hnP
            obtain ⟨capx, hS4x⟩ := hN4.st
            have hN5 : Nx sb tb 65536 W3 g N0 _ w5 g6 M6 := (hN4.trans (Nx.of_below hS4x (bel1 w4 _))).grown HG5.out hgC.1 hnC
            have hRW5 : Rw7 w5 sb g6 tb a' l' := (((HRW9.out.later (bel1 w2 _)).grown HG4.out (fun bk off e => (HFR.out bk off e).1)).later (bel1 w4 _)).grown HG5.out (fun bk off e => (HFR.out bk off e).2.1)
            have hMos : Mos w5 sb g6 tb M6 H := (((HR9.out.mos.later (bel1 w2 _)).grown HG4.out (fun m hm bk off e => (HR9.out.far m hm bk off e).1)).later (bel1 w4 _)).grown HG5.out (fun m hm bk off e => (HR9.out.far m hm bk off e).2.1)
            have hPl5 : Ob w5 sb g6 tb pb (plO sb x') := (((HP9.out.later (bel1 w2 _)).grown HG4.out (Ne.symm hne.2.1)).later (bel1 w4 _)).grown HG5.out (Ne.symm hne.2.2)
            have hO4 : w5.ownsRow W3.heap.size 32 2 (.slice (some ⟨gP2, 0, none⟩) (H.length + 1) cP2) (H.length + 1) (moP sb H ++ [.pointer (some ⟨sb, 0, none⟩), .int .u32 (x' : Int)]) := own_blk (World.ownsRow.alloc HO4.out _) (HG5.out.block gP2 (by have := (own_lt HO4.out).2; omega) (by simp; omega))
            refine ⟨j + 1, g6, M6, H ++ [⟨n', x', l', a', c'⟩], ⟨n', x', l', a', c'⟩, gP2, cP2, gC2, cC2, rfl, hlt, by go_num, by simp [hHl], rfl, by simp, by simp, hN5.mono (by omega), ⟨?_, ?_, hPl5, ?_, ?_, ?_, ?_, ?_, by simp⟩, ?_⟩
            · rw [moP_snoc, List.length_append]; exact hO4
            · rw [moC_snoc, List.length_append]; exact HO5.out
            · omega
            · omega
            · omega
            · intro m2 hm2
              rw [List.mem_append, List.mem_singleton] at hm2
              rcases hm2 with hm2 | rfl
              · exact hMos m2 hm2
              · exact ⟨HBD6.out, hRW5, hl60⟩
            · intro m2 hm2 bk off e
              rw [List.mem_append, List.mem_singleton] at hm2
              rcases hm2 with hm2 | rfl
              · have h1 := HR9.out.far m2 hm2 bk off e
                have h2 := ((HR9.out.mos m2 hm2).2.1.2 bk off e).2.2.2
                omega
              · have h1 := HFR.out bk off e
                have h2 := (HRW9.out.2 bk off e).2.2.2
                omega
            · intro m2 hm2
              rw [List.mem_append, List.mem_singleton] at hm2
              rcases hm2 with hm2 | rfl
              · have := HLL.out m2 hm2; omega
              · show l'.length ≤ j + 1; omega
        · obtain rfl : j = L.length := by omega
          have hgj : decide ((L.length : Int) < (L.length : Int)) = false := by simp
          obtain ⟨capM, hSM⟩ := HN.out.st
          have HSM := Lib.hid hSM
          clear hSM
          obtain ⟨hmB, hmR, hml⟩ := HQ.out.mos m HQ.out.mem
          have HMB := Lib.hid hmB
          have HMR := Lib.hid hmR
          have hmxu := Sq.u32 HSM.out hmB.sq
          clear hmB hmR
          have hHl2 : H.length ≤ 61 := by have := HHL.out; omega
          go_wp2_with fail
          clear hgj
          generalize hWB : wr = WB at *
          clear hWB wr
          go_loopg [13, 14, 82] H.length (fun mm v13 v14 cnt wr => ∃ t : Nat, mm = H.length - t ∧ t ≤ H.length ∧ cnt = .int .i64 (t : Int) ∧ Below WB.heap.size WB wr)
          case atStart => exact ⟨0, rfl, Nat.zero_le _, rfl, Below.refl _ _⟩
          case round =>
            obtain ⟨t, hm2, ht, rfl, hb⟩ := hrel
            have HM2 := Lib.hid hm2
            have HBB := Lib.hid hb
            clear hm2 hb
            by_cases hlt2 : t < H.length
            · obtain ⟨c, hc⟩ : ∃ c, H[t]? = some c := ⟨H[t], List.getElem?_eq_getElem hlt2⟩
              have hcm : c ∈ H := List.mem_of_getElem? hc
              obtain ⟨r0, r1, r2⟩ := (HQ.out.later HBB.out).at hc
              obtain ⟨hcB, hcR, hcl⟩ := HQ.out.mos c hcm
              have HCB := Lib.hid hcB
              have HCR := Lib.hid hcR
              have hcxu := Sq.u32 HSM.out hcB.sq
              have HHC := Lib.hid hc
              clear hcB hcR hc
              have hgt : decide ((t : Int) < (H.length : Int)) = true := by simp; omega
              have i1 : (0 : Int) ≤ (t : Int) := by omega
              have i2 : (t : Int) < (H.length : Int) := by omega
              have hbA := bel1 wr (.cells #[.pointer (some ⟨sb, 0, none⟩), .int .u32 (c.x : Int)] 32)
              have HV : Hid ((wr.alloc (.cells #[.pointer (some ⟨sb, 0, none⟩), .int .u32 (c.x : Int)] 32)).heap[wr.heap.size]? = some (plO sb c.x)) := heap_alloc_new _ _
              have HBA := Lib.hid (HBB.out.trans (hbA.mono HBB.out.size))
              clear hbA
              go_upto_region 21 with fail
              clear r0 r1 r2 hgt
              generalize wr.alloc (.cells #[.pointer (some ⟨sb, 0, none⟩), .int .u32 (c.x : Int)] 32) = WC at *
              generalize wr.heap.size = vb at *
              have HSC := Lib.hid (HSM.out.later HBA.out)
              have HQC := Lib.hid (HQ.out.later HBA.out)
              have HCRC := Lib.hid (HCR.out.later HBA.out)
              have HMRC := Lib.hid (HMR.out.later HBA.out)
              have hcg : WC.cell? ⟨gC, t, none⟩ = some (.slice c.a c.l.length c.c) := (HQC.out.at HHC.out).2.2
              obtain ⟨v0, v1⟩ := pl_cells HV.out
              obtain ⟨p0, p1⟩ := pl_cells HQC.out.pl.at_
              have hne := Up.me WC
              have HSA := Lib.hid (fun z : Up WC => Up.calls (fun W' hb => same_any (HSC.out.later hb) HCB.out.sq HCB.out.two c.l c.a c.c (HCRC.out.1.later hb) (by omega) HCB.out.nd HCB.out.on HCB.out.al) z)
              have g0 := fun z : Up WC => Up.cell v0 z
              have g1 := fun z : Up WC => Up.cell v1 z
              have g2 := fun z : Up WC => Up.cell hcg z
              refine region_up (by kernel_rfl) (by kernel_rfl) ?_
              repeat (go_big_quiet_step ((go_at_call 11; with_reducible exact HSA.out _)))
              refine wpQuiet_nil ?_
              rintro w2 ⟨⟨W2, hW2⟩, hw2⟩
              obtain rfl : w2 = W2 := hw2
              have HB2 := Lib.hid (HBA.out.trans (hW2.mono HBA.out.size))
              have HS2 := Lib.hid (HSC.out.later hW2)
              have q0 : w2.cell? ⟨pb, 0, none⟩ = _ := (hW2.cell (p := ⟨pb, 0, none⟩) (blk_lt p0)).trans p0
              have q1 : w2.cell? ⟨pb, 1, none⟩ = _ := (hW2.cell (p := ⟨pb, 1, none⟩) (blk_lt p1)).trans p1
              have u0 : w2.cell? ⟨vb, 0, none⟩ = _ := (hW2.cell (p := ⟨vb, 0, none⟩) (blk_lt v0)).trans v0
              have u1 : w2.cell? ⟨vb, 1, none⟩ = _ := (hW2.cell (p := ⟨vb, 1, none⟩) (blk_lt v1)).trans v1
              have u2 : w2.cell? ⟨gC, t, none⟩ = _ := (hW2.cell (p := ⟨gC, t, none⟩) (blk_lt hcg)).trans hcg
              have HCR2 := Lib.hid (HCRC.out.later hW2)
              have HMR2 := Lib.hid (HMRC.out.later hW2)
              clear HSA g0 g1 g2 hne hW2 v0 v1 p0 p1 hcg HSC HQC HCRC HMRC
              go_upto_region 23 with fail
              have hne := Up.me w2
              have HL1 := Lib.hid (fun z : Up w2 => Up.callsE (fun W' hb => level_any (HS2.out.later hb) c.x hcxu) z)
              rw [show lvZ M c.x = ((c.n + 1 : Nat) : Int) from HCB.out.sq] at HL1
              have HL2 := Lib.hid (fun z : Up w2 => Up.callsE (fun W' hb => level_any (HS2.out.later hb) m.x hmxu) z)
              rw [show lvZ M m.x = ((m.n + 1 : Nat) : Int) from HMB.out.sq] at HL2
              have HAK := Lib.hid (fun z : Up w2 => Up.calls (fun W' hb => alike_any c.l m.l c.a m.a c.c m.c W' (HCR2.out.1.later hb) (HMR2.out.1.later hb) (by omega) (by omega)) z)
              have g0 := fun z : Up w2 => Up.cell q0 z
              have g1 := fun z : Up w2 => Up.cell q1 z
              have g2 := fun z : Up w2 => Up.cell u0 z
              have g3 := fun z : Up w2 => Up.cell u1 z
              have g4 := fun z : Up w2 => Up.cell u2 z
              rw [show ((c.n + 1 : Nat) : Int) = (c.n : Int) + 1 by omega] at HL1
              rw [show ((m.n + 1 : Nat) : Int) = (m.n : Int) + 1 by omega] at HL2
              by_cases hlv : c.n = m.n
              · have hcB2 := HCB.out
                rw [hlv] at hcB2 HL1
                have hrt := alike_root HSM.out.wf hcB2 HMB.out
                rw [← hrt] at HAK
                have hl1 : ((m.n : Int) + 1 == (m.n : Int) + 1) = true := by simp
                generalize hrbE : ((c.x : Int) == (m.x : Int)) = rb at *
                have hrb : (rb != rb) = false := by simp
                clear hcB2 hlv
                refine region_up (by kernel_rfl) (by kernel_rfl) ?_
                repeat (go_big_quiet_step ((first | (go_at_call 15; with_reducible exact HL1.out _) | (go_at_call 15; with_reducible exact HL2.out _) | (go_at_call 16; with_reducible exact HAK.out _))))
                refine wpQuiet_nil ?_
                rintro w3 ⟨⟨W3', hW3⟩, hw3⟩
                obtain rfl : w3 = W3' := hw3
                have HB4 := Lib.hid (HB2.out.trans (hW3.mono HB2.out.size))
                clear hW3 g0 g1 g2 g3 g4 hne HL1 HL2 HAK
                go_wp2_with fail
                go_roundg (H.length - (t + 1))
                case measure => rw [HM2.out]; omega
                case rel => exact ⟨t + 1, rfl, hlt2, by go_num, HB4.out⟩
              · have hl1 : ((c.n : Int) + 1 == (m.n : Int) + 1) = false := by simp; omega
                have hl2 : ((c.n : Int) == (m.n : Int)) = false := by simp; omega
                refine region_up (by kernel_rfl) (by kernel_rfl) ?_
                repeat (go_big_quiet_step ((first | (go_at_call 15; with_reducible exact HL1.out _) | (go_at_call 15; with_reducible exact HL2.out _) | (go_at_call 16; with_reducible exact HAK.out _))))
                refine wpQuiet_nil ?_
                rintro w3 ⟨⟨W3', hW3⟩, hw3⟩
                obtain rfl : w3 = W3' := hw3
                have HB4 := Lib.hid (HB2.out.trans (hW3.mono HB2.out.size))
                clear hW3 g0 g1 g2 g3 g4 hne HL1 HL2 HAK
                go_wp2_with fail
                go_roundg (H.length - (t + 1))
                case measure => rw [HM2.out]; omega
                case rel => exact ⟨t + 1, rfl, hlt2, by go_num, HB4.out⟩
            · obtain rfl : t = H.length := by omega
              have hgt : decide ((H.length : Int) < (H.length : Int)) = false := by simp
              go_wp2_with fail
              go_ret
              exact ⟨rfl, HBW.out.trans (HBB.out.mono HBW.out.size)⟩
    · exfalso
      omega
  · have hg60 : decide ((60 : Int) < (L.length : Int)) = true := by simp; omega
    go_wp2_with fail
    refine (lives7_any _).mono ?_
    rintro e W3 ⟨rfl, hb⟩
    have HB3 := Lib.hid (HB1.out.trans (hb.mono HB1.out.size))
    go_wp2_with fail
    go_ret
    exact ⟨rfl, HB3.out⟩
end Go.Proofs.Ytfkjfkjhipieaaa
