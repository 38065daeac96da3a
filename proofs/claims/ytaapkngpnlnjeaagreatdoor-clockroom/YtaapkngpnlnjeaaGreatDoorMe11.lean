/- Package clock: the law's Made: contract. -/
import Derived.Test.YtaapkngpnlnjeaaGreatDoorNw11
import Derived.Test.YtaapkngpnlnjeaaGreatDoorP06
namespace Go.Proofs.YtaapkngpnlnjeaaGreatDoor
open Go.RowKit Go.Maps
set_option maxRecDepth 100000

def made11 (cs : List (Int × Int)) : List (Int × Int) := cs.foldl (fun l c => setL l c true) []
theorem made11_snoc (cs : List (Int × Int)) (c : Int × Int) : made11 (cs ++ [c]) = setL (made11 cs) c true := by unfold made11; rw [List.foldl_append]; rfl
theorem nr_on {c : Int × Int} (h : Nr11 c) : (onP c.1 && onP c.2) = true := by
  unfold Nr11 at h
  unfold onP
  simp only [Bool.and_eq_true, decide_eq_true_eq]
  omega
theorem nr_in {c : Int × Int} (h : Nr11 c) : (inS 58 c.1 && inS 58 c.2) = true := by
  unfold Nr11 at h
  have e : (2 : Int) ^ 58 = 288230376151711744 := by decide
  rw [Bool.and_eq_true, inS_iff, inS_iff, e]
  exact h
theorem far_near {n d : Nat} {c : Int × Int} (h : Nr11 c) (hn : n ≤ 58) (hd : Far n d c.1 c.2) : n + d ≤ 58 := by
  apply Classical.byContradiction
  intro hc
  have := hd.2.2 (58 - n) (by omega)
  rw [show n + (58 - n) = 58 by omega, nr_in h] at this
  cases this
theorem far_low {d : Nat} {c : Int × Int} (h : (inS 2 c.1 && inS 2 c.2) = true) (hd : Far 2 d c.1 c.2) : d = 0 := by
  apply Classical.byContradiction
  intro hc
  have := hd.2.2 0 (by omega)
  rw [Nat.add_zero, h] at this
  cases this
/-- While it goes well. -/
structure Mst11 (sb tb most : Nat) (w : World) (g : Nat) (N : List Nd) (cs : List (Int × Int)) (rb pb j : Nat) (wr : World) (g1 : Nat) (N1 : List Nd) (n x : Nat) (l : List (Int × Int)) (a : Option Addr) : Prop where
  nx : ∃ c, Nx sb tb most w g N c wr g1 N1
  bd : Bd N1 n x l
  rw7 : Rw7 wr sb g1 tb a l
  far : ∀ bk off, a = some ⟨bk, off, none⟩ → bk ≠ rb ∧ bk ≠ pb
  pl : Ob wr sb g1 tb pb (.cells #[.pointer (some ⟨sb, 0, none⟩), .int .u32 (x : Int), .int .u64 0] 37 (0, 0))
  res : Ob wr sb g1 tb rb (.cells #[.pointer none, .int .u32 0, .int .u64 0] 37 (0, 0))
  eq : l = made11 (cs.take j)
  n58 : n ≤ 58
  len : l.length ≤ j
  one : (∀ c ∈ cs, (inS 2 c.1 && inS 2 c.2) = true) → n = 2 ∧ N1.length ≤ N.length + 3 + 4 * j
/-- There was no room; how many squares there are. -/
def FuM11 (most : Nat) (N : List Nd) (cs : List (Int × Int)) (N1 : List Nd) : Prop := most ≤ N1.length ∧ ((∀ c ∈ cs, (inS 2 c.1 && inS 2 c.2) = true) → N1.length ≤ N.length + 3 + 4 * cs.length)
/-- Where there was no room. -/
structure Mfu11 (sb tb most : Nat) (w : World) (g : Nat) (N : List Nd) (cs : List (Int × Int)) (rb pb : Nat) (wr : World) (g1 : Nat) (N1 : List Nd) (A : Option Addr) (k c : Nat) : Prop where
  nx : ∃ c, Nx sb tb most w g N c wr g1 N1
  pl : Ob wr sb g1 tb pb (.cells #[.pointer none, .int .u32 0, .int .u64 0] 37 (0, 0))
  res : Ob wr sb g1 tb rb (.cells #[.pointer none, .int .u32 0, .int .u64 0] 37 (0, 0))
  full : FuM11 most N cs N1
  any : A = A ∧ k = k ∧ c = c
def Mrel11 (sb tb most : Nat) (w : World) (g : Nat) (N : List Nd) (cs : List (Int × Int)) (rb pb mm : Nat) (v8 v9 v19 : Value) (wr : World) : Prop :=
  ∃ j : Nat, mm = cs.length - j ∧ j ≤ cs.length ∧ v19 = .int .i64 (j : Int) ∧ ((∃ (g1 : Nat) (N1 : List Nd) (n x : Nat) (l : List (Int × Int)) (a : Option Addr) (c : Nat), v8 = .nilIface ∧ v9 = .slice a l.length c ∧ Mst11 sb tb most w g N cs rb pb j wr g1 N1 n x l a) ∨
    (∃ (g1 : Nat) (N1 : List Nd) (A : Option Addr) (k c : Nat), v8 = .iface 48 (.int .i64 7) ∧ v9 = .slice A k c ∧ Mfu11 sb tb most w g N cs rb pb wr g1 N1 A k c))
/-- What Made comes to. -/
def Made11 (sb tb most : Nat) (w : World) (g : Nat) (N : List Nd) (cs : List (Int × Int)) (e : Ending) (w' : World) : Prop :=
  ∃ c g' N', Nx sb tb most w g N c w' g' N' ∧
    ((∃ (n x : Nat) (l : List (Int × Int)) (a : Option Addr) (c' : Nat), e = .returned (.tuple #[.agg #[.pointer (some ⟨sb, 0, none⟩), .int .u32 (x : Int), .int .u64 0], .slice a l.length c', .bool true]) ∧ Bd N' n x l ∧ Rw7 w' sb g' tb a l ∧ l = made11 cs ∧ n ≤ 58 ∧ l.length ≤ cs.length ∧ ((∀ c ∈ cs, (inS 2 c.1 && inS 2 c.2) = true) → n = 2 ∧ N'.length ≤ N.length + 3 + 4 * cs.length)) ∨
     (∃ (A : Option Addr) (k c' : Nat), e = .returned (.tuple #[.agg #[.pointer none, .int .u32 0, .int .u64 0], .slice A k c', .bool false]) ∧ FuM11 most N cs N'))
theorem nx_drew11 {w w' : World} {sb tb most g g' c : Nat} {N N' : List Nd} (h : Nx sb tb most w g N c w' g' N') : Nx sb tb most w g N c w'.drew g' N' := by
  obtain ⟨cap, hs⟩ := h.st
  exact ⟨⟨cap, hs.drew⟩, ⟨h.frm.os, h.frm.tape, h.frm.output, h.frm.size, h.frm.block⟩, h.gin, h.ext⟩
theorem tm_ret311 {fn : Func} {tmps : Array Value} {w : World} {i j k b : Nat} {p v z u y : Value} (hr : fn.results = #[.cell i 37, .tmp j, .tmp k]) (ha : tmps.getD i undef = .pointer (some ⟨b, 0, none⟩)) (hj : tmps.getD j undef = u) (hk : tmps.getD k undef = y) (h : w.heap[b]? = some (.cells #[p, v, z] 37 (0, 0))) : (results fn tmps).run Tryz.prog w = .ok (.tuple #[.agg #[p, v, z], u, y]) w := by
  have hl := run_loadVar_row w b 37 37 _ (0, 0) _ h Tryz.underlying37 rfl (by as_aux_lemma => kernel_rfl)
  unfold results
  rw [hr]
  rw [Array.getD_eq_getD_getElem?] at ha hj hk
  simp [ha, hj, hk, asAddr, hl]
theorem putN2 {w w' : World} {sb tb most g g' c b : Nat} {N N' : List Nd} {p v z : Value} (h : Nx sb tb most w g N c w' g' N') (hb : Ob w' sb g' tb b (.cells #[p, v, z] 37 (0, 0))) (hw : w.heap.size ≤ b) (p' v' : Value) :
    ∃ W, (w'.setCell ⟨b, 0, none⟩ p').setCell ⟨b, 1, none⟩ v' = W ∧ Nx sb tb most w g N c W g' N' ∧ Ob W sb g' tb b (.cells #[p', v', z] 37 (0, 0)) := by
  have h0 : Ob (w'.setCell ⟨b, 0, none⟩ p') sb g' tb b (.cells #[p', v, z] 37 (0, 0)) := ⟨by have := hb.at_; simp only [World.setCell, Array.getElem?_modify, this]; simp, hb.sb_, hb.g_, hb.tb_⟩
  have h1 : Ob ((w'.setCell ⟨b, 0, none⟩ p').setCell ⟨b, 1, none⟩ v') sb g' tb b (.cells #[p', v', z] 37 (0, 0)) := ⟨by have := hb.at_; simp only [World.setCell, Array.getElem?_modify, this]; simp, hb.sb_, hb.g_, hb.tb_⟩
  exact ⟨_, rfl, (h.set hb hw p').set h0 hw v', h1⟩
set_option maxHeartbeats 8000000 in
theorem made_clock {w : World} {sb g tb cap most : Nat} {N : List Nd} (h : St w sb g tb cap most N) (cs : List (Int × Int)) (al : Option Addr) (capl : Nat) (hp : Pt11 w w.heap.size al cs) (hap : ∀ bk off, al = some ⟨bk, off, none⟩ → cs.length = 0 ∨ (bk ≠ sb ∧ bk ≠ g ∧ bk ≠ tb)) (hlen : cs.length ≤ 40) (hnr : ∀ c ∈ cs, Nr11 c) :
    Calls Tryz.prog 9 #[.pointer (some ⟨sb, 0, none⟩), .slice al cs.length capl] w fun e w' => Made11 sb tb most w g N cs e w' := by
  have HP := Lib.hid hp
  have HAP := Lib.hid hap
  have HNR := Lib.hid hnr
  have HB0 := Lib.hid (bel1 w (.cells #[.pointer none, .int .u32 0, .int .u64 0] 37))
  have HR0 := Lib.hid (Ob.new h #[.pointer none, .int .u32 0, .int .u64 0] 37)
  have HN0 := Lib.hid (Nx.of_below h HB0.out)
  have HS0 := Lib.hid (h.later HB0.out)
  have HLT := Lib.hid h.lt
  clear h hp hnr hap HB0
  go_enter Tryz.func9, Tryz.ntmps9
  go_upto_region 1 with fail
  generalize w.alloc (.cells #[.pointer none, .int .u32 0, .int .u64 0] 37) = W0 at *
  go_wp2_with fail
  refine (new_clock HS0.out).mono ?_
  rintro e w1 ⟨g1, N1, hnx, hres⟩
  have HN1 := Lib.hid ((HN0.out.trans hnx).mono (show 0 + 3 ≤ 3 by omega))
  have HR1 := Lib.hid (HR0.out.nx hnx)
  have hsz1 : w.heap.size < w1.heap.size := HR1.out.lt
  clear hnx HN0 HR0 HS0
  have HCS : Hid (∃ (r : Nat) (pa : Option Addr) (xi : Int) (ev : Value), e = .returned (.tuple #[.agg #[.pointer pa, .int .u32 xi, .int .u64 0], ev]) ∧ ((ev = .nilIface ∧ pa = some ⟨sb, 0, none⟩ ∧ xi = (r : Int) ∧ Em N1 3 r ∧ HasEm N1 3) ∨ (ev = .iface 48 (.int .i64 7) ∧ pa = none ∧ xi = 0 ∧ most ≤ N1.length))) := by
    rcases hres with ⟨r, rfl, h1, h2⟩ | ⟨rfl, h1⟩
    · exact ⟨r, _, _, _, rfl, Or.inl ⟨rfl, rfl, rfl, h1, h2⟩⟩
    · exact ⟨0, _, _, _, rfl, Or.inr ⟨rfl, rfl, rfl, h1⟩⟩
  clear hres
  obtain ⟨r1, pa, xi, ev, rfl, hcase⟩ := HCS.out
  have HC1 := Lib.hid hcase
  clear HCS hcase
  obtain ⟨cap1, hs1⟩ := HN1.out.st
  have hb2 := bel1 w1 (.cells #[.pointer pa, .int .u32 xi, .int .u64 0] 37)
  have HP2 := Lib.hid (Ob.new hs1 #[.pointer pa, .int .u32 xi, .int .u64 0] 37)
  have HN2 := Lib.hid ((HN1.out.trans (Nx.of_below hs1 hb2)).mono (show 3 + 0 ≤ 3 by omega))
  have HR2 := Lib.hid (HR1.out.later hb2)
  clear hs1 hb2 HN1 HR1
  go_wp2_with fail
  generalize w1.alloc (.cells #[.pointer pa, .int .u32 xi, .int .u64 0] 37) = w2 at *
  generalize w1.heap.size = pb at *
  go_loopg [8, 9, 19] cs.length (fun mm v8 v9 v19 wr => Mrel11 sb tb most w g N cs w.heap.size pb mm v8 v9 v19 wr)
  case atStart =>
    rcases HC1.out with ⟨rfl, rfl, rfl, h1, h2⟩ | ⟨rfl, rfl, rfl, h1⟩
    · refine ⟨0, rfl, Nat.zero_le _, rfl, Or.inl ⟨g1, N1, 2, r1, [], none, 0, rfl, rfl, ⟨⟨3, HN2.out⟩, ⟨h1.1, Nat.le_refl _, h2.mono (by omega), List.nodup_nil, (fun c hc => by cases hc), fun p q => by rw [em_al h1]; simp⟩, Rw7.nil _ _ _ _, (fun bk off e => by cases e), HP2.out, HR2.out, rfl, by omega, Nat.zero_le _, fun _ => ⟨rfl, by have := HN2.out.len; omega⟩⟩⟩⟩
    · exact ⟨0, rfl, Nat.zero_le _, rfl, Or.inr ⟨g1, N1, none, 0, 0, rfl, rfl, ⟨⟨3, HN2.out⟩, HP2.out, HR2.out, ⟨h1, fun _ => by have := HN2.out.len; omega⟩, rfl, rfl, rfl⟩⟩⟩
  case round =>
    clear HC1 HN2 HP2 HR2
    obtain ⟨j, hm, hj, rfl, hst⟩ := hrel
    have HM := Lib.hid hm
    clear hm
    rcases hst with ⟨g1, N1, n, x, l, a, cp, rfl, rfl, hL⟩ | ⟨g1, N1, A, k, cp, rfl, rfl, hF⟩
    · have HL := Lib.hid hL
      clear hL
      by_cases hlt : j < cs.length
      · skip
        obtain ⟨c, hc⟩ : ∃ c, cs[j]? = some c := ⟨cs[j], List.getElem?_eq_getElem hlt⟩
        have HTK : Hid (cs.take (j + 1) = cs.take j ++ [c]) := by show _ = _; rw [List.take_add_one, hc]; rfl
        have HNC := Lib.hid (HNR.out c (List.mem_of_getElem? hc))
        have HCM := Lib.hid (List.mem_of_getElem? hc)
        obtain ⟨cN, hnxL⟩ := HL.out.nx
        obtain ⟨bk, off, rfl, hbk, c0, c1⟩ := HP.out j c hc
        obtain ⟨a1, a2, a3⟩ := (HAP.out bk off rfl).resolve_left (by omega)
        have hkeep := hnxL.frm.block bk hbk (by simp only [List.mem_cons, List.not_mem_nil, or_false]; omega)
        rw [← cell_blk hkeep] at c0 c1
        obtain ⟨capL, hsL⟩ := hnxL.st
        have hb1 := bel1 wr (.cells #[.int .i64 c.1, .int .i64 c.2] 55)
        have HOA : Hid (Ob (wr.alloc (.cells #[.int .i64 c.1, .int .i64 c.2] 55)) sb g1 tb wr.heap.size (ptO c.1 c.2)) := Ob.new hsL _ _
        have HNA := Lib.hid ((hnxL.trans (Nx.of_below hsL hb1)).mono (show cN + 0 ≤ cN by omega))
        have HSA := Lib.hid (hsL.later hb1)
        have HPA := Lib.hid (HL.out.pl.later hb1)
        have HRA := Lib.hid (HL.out.res.later hb1)
        have HWA := Lib.hid (HL.out.rw7.later hb1)
        have hab : pb < wr.heap.size ∧ w.heap.size < wr.heap.size := ⟨HL.out.pl.lt, HL.out.res.lt⟩
        have hgj : decide ((j : Int) < (cs.length : Int)) = true := decide_eq_true (by omega)
        have i1 : (0 : Int) ≤ (j : Int) := by omega
        have i2 : (j : Int) < (cs.length : Int) := by omega
        obtain ⟨d, hd⟩ := far_ex n (by have := HL.out.n58; omega) c.1 c.2 (nr_on HNC.out)
        have HFD := Lib.hid hd
        have HST := Lib.hid (set_any HSA.out HL.out.bd.sq HL.out.bd.two HL.out.bd.em c.1 c.2 true (nr_on HNC.out) hd)
        clear hc hbk a1 a2 a3 hkeep hsL hb1 hnxL hd
        obtain ⟨⟨s0, s1, s2⟩, _, _, _⟩ := tm3_cells HPA.out.at_
        obtain ⟨d0, d1⟩ := pt_cells HOA.out.at_
        go_wp2_with fail
        generalize wr.alloc (.cells #[.int .i64 c.1, .int .i64 c.2] 55) = wA at *
        generalize wr.heap.size = ab at *
        refine HST.out.mono ?_
        clear HST s0 s1 s2 d0 d1 c0 c1 hgj i1 i2
        rintro e w5 ⟨g5, N5, hnx5, hres5⟩
        have HN5 := Lib.hid (HNA.out.trans hnx5)
        have HL5 := Lib.hid hnx5.len
        have HP5 := Lib.hid (HPA.out.nx hnx5)
        have HR5 := Lib.hid (HRA.out.nx hnx5)
        have HO5 := Lib.hid (HOA.out.nx hnx5)
        have HW5 := Lib.hid (HWA.out.nx hnx5)
        clear hnx5 HNA HPA HRA HOA HWA
        obtain ⟨⟨s0, s1, s2⟩, f0, f1, f2⟩ := tm3_cells HP5.out.at_
        have hpbw : w.heap.size ≤ pb := by omega
        rcases hres5 with ⟨r, rfl, hsq, hal, hem⟩ | ⟨rfl, hfull⟩
        · unfold plV
          have HBD : Hid (Bd N5 (n + d) r (setL l c true)) := HL.out.bd.set (nr_on HNC.out) hsq hal hem
          clear hsq hal hem
          obtain ⟨W, hW, hNW, hPW⟩ := putN2 HN5.out HP5.out hpbw (.pointer (some ⟨sb, 0, none⟩)) (.int .u32 ((r : Nat) : Int))
          have hO6 := (HO5.out.other (p := ⟨pb, 0, none⟩) (by show pb ≠ ab; omega) (.pointer (some ⟨sb, 0, none⟩))).other (p := ⟨pb, 1, none⟩) (by show pb ≠ ab; omega) (.int .u32 ((r : Nat) : Int))
          have hR6 := (HR5.out.other (p := ⟨pb, 0, none⟩) (by show pb ≠ _; omega) (.pointer (some ⟨sb, 0, none⟩))).other (p := ⟨pb, 1, none⟩) (by show pb ≠ _; omega) (.int .u32 ((r : Nat) : Int))
          have hW6 := (HW5.out.other (b := pb) (i := 0) (fun off e => (HL.out.far _ off e).2 rfl) (.pointer (some ⟨sb, 0, none⟩))).other (b := pb) (i := 1) (fun off e => (HL.out.far _ off e).2 rfl) (.int .u32 ((r : Nat) : Int))
          rw [hW] at hO6 hR6 hW6
          have HNW := Lib.hid hNW
          have HPW := Lib.hid hPW
          have HO6 := Lib.hid hO6
          have HR6 := Lib.hid hR6
          have HW6 := Lib.hid hW6
          go_upto_region 8 with fail
          clear hW hNW hPW hO6 hR6 hW6 s0 s1 s2 f0 f1 f2 HN5 HP5 HR5 HO5 HW5
          obtain ⟨d0, d1⟩ := pt_cells HO6.out.at_
          have HRS := Lib.hid (set_refB l a cp c.1 c.2 true W HW6.out.1 (by have := HL.out.len; omega))
          go_wp2_with fail
          refine HRS.out.mono ?_
          rintro e w6 ⟨v6, rfl, ho6, hb6⟩
          obtain ⟨a6, c6, hle, hro6, hbk6⟩ := ho6.ro
          subst hle
          obtain ⟨cap6, hs6⟩ := HNW.out.st
          have HN7 := Lib.hid (HNW.out.trans (Nx.of_below hs6 hb6))
          have HP7 := Lib.hid (HPW.out.later hb6)
          have HR7 := Lib.hid (HR6.out.later hb6)
          have HS6 := Lib.hid hs6.lt
          have HRO := Lib.hid hro6
          have HBK := Lib.hid hbk6
          have hlt1 := HPW.out.lt
          have hlt2 := HR6.out.lt
          clear ho6 hb6 hs6 hro6 hbk6 HRS d0 d1
          go_wp2_with fail
          go_roundg (cs.length - (j + 1))
          case measure => rw [HM.out]; omega
          case rel =>
            obtain ⟨l1, l2, l3⟩ := HS6.out
            have hn58 := far_near HNC.out HL.out.n58 HFD.out
            refine ⟨j + 1, rfl, hlt, by go_num, Or.inl ⟨g5, N5, n + d, r, setL l c true, a6, c6, rfl, rfl, ⟨⟨_, HN7.out⟩, HBD.out, ⟨HRO.out, fun bk off e => ?_⟩, fun bk off e => ?_, HP7.out, HR7.out, ?_, hn58, ?_, fun hall => ?_⟩⟩⟩
            · have := HBK.out bk off e; omega
            · have := HBK.out bk off e; omega
            · rw [HTK.out, made11_snoc, ← HL.out.eq]
            · have h1 := setL_len (l := l) c true
              have h2 := HL.out.len
              omega
            · obtain ⟨h1, h2⟩ := HL.out.one hall
              have h3 := HL5.out
              subst h1
              have h4 := far_low (hall c HCM.out) HFD.out
              subst h4
              exact ⟨rfl, by omega⟩
        · have HFU : Hid (FuM11 most N cs N5) := ⟨hfull, fun hall => by
            obtain ⟨h1, h2⟩ := HL.out.one hall
            have h3 := HL5.out
            subst h1
            have h4 := far_low (hall c HCM.out) HFD.out
            subst h4
            omega⟩
          clear hfull
          obtain ⟨W, hW, hNW, hPW⟩ := putN2 HN5.out HP5.out hpbw (.pointer none) (.int .u32 0)
          have hO6 := (HO5.out.other (p := ⟨pb, 0, none⟩) (by show pb ≠ ab; omega) (.pointer none)).other (p := ⟨pb, 1, none⟩) (by show pb ≠ ab; omega) (.int .u32 0)
          have hR6 := (HR5.out.other (p := ⟨pb, 0, none⟩) (by show pb ≠ _; omega) (.pointer none)).other (p := ⟨pb, 1, none⟩) (by show pb ≠ _; omega) (.int .u32 0)
          have hW6 := (HW5.out.other (b := pb) (i := 0) (fun off e => (HL.out.far _ off e).2 rfl) (.pointer none)).other (b := pb) (i := 1) (fun off e => (HL.out.far _ off e).2 rfl) (.int .u32 0)
          rw [hW] at hO6 hR6 hW6
          have HNW := Lib.hid hNW
          have HPW := Lib.hid hPW
          have HO6 := Lib.hid hO6
          have HR6 := Lib.hid hR6
          have HW6 := Lib.hid hW6
          go_upto_region 8 with fail
          clear hW hNW hPW hO6 hR6 hW6 s0 s1 s2 f0 f1 f2 HN5 HP5 HR5 HO5 HW5
          obtain ⟨d0, d1⟩ := pt_cells HO6.out.at_
          have HRS := Lib.hid (set_refB l a cp c.1 c.2 true W HW6.out.1 (by have := HL.out.len; omega))
          go_wp2_with fail
          refine HRS.out.mono ?_
          rintro e w6 ⟨v6, rfl, ho6, hb6⟩
          obtain ⟨a6, c6, hle, hro6, hbk6⟩ := ho6.ro
          subst hle
          obtain ⟨cap6, hs6⟩ := HNW.out.st
          have HN7 := Lib.hid (HNW.out.trans (Nx.of_below hs6 hb6))
          have HP7 := Lib.hid (HPW.out.later hb6)
          have HR7 := Lib.hid (HR6.out.later hb6)
          clear ho6 hb6 hs6 hro6 hbk6 HRS d0 d1
          go_wp2_with fail
          go_roundg (cs.length - (j + 1))
          case measure => rw [HM.out]; omega
          case rel => exact ⟨j + 1, rfl, hlt, by go_num, Or.inr ⟨g5, N5, a6, _, c6, rfl, rfl, ⟨⟨_, HN7.out⟩, HP7.out, HR7.out, HFU.out, rfl, rfl, rfl⟩⟩⟩
      · obtain rfl : j = cs.length := by omega
        have hgj : decide ((cs.length : Int) < (cs.length : Int)) = false := by simp
        obtain ⟨⟨s0, s1, s2⟩, _, _, _⟩ := tm3_cells HL.out.pl.at_
        have HPC := Lib.hid (And.intro s0 (And.intro s1 s2))
        have HRC := Lib.hid (tm3_cells HL.out.res.at_)
        clear s0 s1 s2
        go_upto_region 10 with fail
        refine region_sq 4 (fun W => W = wr.drew) [(0, 2), (1, 1), (2, 1), (3, 1), (4, 3), (5, 1), (6, 1)] (by kernel_rfl) (by kernel_rfl) rfl (by intro c a d v w h; cases d <;> exact h) (by kernel_rfl) rfl ?_
        refine ⟨_, ?_, rfl, by rfl, ?_, ?_⟩
        rotate_left
        · rintro W rfl
          obtain ⟨s0, s1, s2⟩ := HPC.out
          go_simp; first | done | rfl
        conv => arg 6; simp only [Act.put, List.setIfInBounds_toArray, List.set_cons_zero, List.set_cons_succ]
        refine ⟨_, ?_, rfl, by rfl, ?_, ?_⟩
        rotate_left
        · intro W; go_simp; first | done | rfl
        conv => arg 6; simp only [Act.put, List.setIfInBounds_toArray, List.set_cons_zero, List.set_cons_succ]
        refine ⟨_, ?_, rfl, by rfl, ?_, ?_⟩
        rotate_left
        · intro W; go_simp; first | done | rfl
        conv => arg 6; simp only [Act.put, List.setIfInBounds_toArray, List.set_cons_zero, List.set_cons_succ]
        refine ⟨_, ?_, rfl, by rfl, ?_, ?_⟩
        rotate_left
        · intro W; go_simp; first | done | rfl
        conv => arg 6; simp only [Act.put, List.setIfInBounds_toArray, List.set_cons_zero, List.set_cons_succ]
        refine ⟨_, rfl, by rfl, fun K hK => ?_⟩
        obtain ⟨⟨s0, s1, s2⟩, s3, s4, s5⟩ := HRC.out
        go_simp
        refine hK _ _ ?_
        clear hK K s0 s1 s2 s3 s4 s5
        conv => arg 6; simp only [Act.put, List.setIfInBounds_toArray, List.set_cons_zero, List.set_cons_succ]
        refine ⟨_, ?_, rfl, by rfl, ?_, ?_⟩
        rotate_left
        · intro W; go_simp; first | done | rfl
        conv => arg 6; simp only [Act.put, List.setIfInBounds_toArray, List.set_cons_zero, List.set_cons_succ]
        refine ⟨_, ?_, rfl, by rfl, ?_, ?_⟩
        rotate_left
        · intro W; go_simp; first | done | rfl
        conv => arg 6; simp only [Act.put, List.setIfInBounds_toArray, List.set_cons_zero, List.set_cons_succ]
        unfold wpSq
        obtain ⟨c, hnx⟩ := HL.out.nx
        obtain ⟨W, hW, hNW, hRW⟩ := put_tmN hnx HL.out.res (Nat.le_refl _) (.pointer (some ⟨sb, 0, none⟩)) (.int .u32 ((x : Nat) : Int)) (.int .u64 0)
        have hR7 := ((HL.out.rw7.other (b := w.heap.size) (i := 0) (fun off e => (HL.out.far _ off e).1 rfl) (.pointer (some ⟨sb, 0, none⟩))).other (b := w.heap.size) (i := 1) (fun off e => (HL.out.far _ off e).1 rfl) (.int .u32 ((x : Nat) : Int))).other (b := w.heap.size) (i := 2) (fun off e => (HL.out.far _ off e).1 rfl) (.int .u64 0)
        rw [hW] at hR7 ⊢
        have HNW := Lib.hid hNW
        have HRW := Lib.hid hRW
        have HR7 := Lib.hid hR7
        clear hnx hNW hRW hR7
        go_wp2_with fail
        refine bodyPost_ret (tm_ret311 rfl rfl rfl rfl HRW.out.at_) rfl ?_
        have heq := HL.out.eq
        have hone := HL.out.one
        have hlen := HL.out.len
        rw [List.take_length] at heq
        refine ⟨c, g1, N1, nx_drew11 HNW.out, Or.inl ⟨n, x, l, a, cp, rfl, HL.out.bd, HR7.out, heq, HL.out.n58, hlen, hone⟩⟩
    · have HF := Lib.hid hF
      clear hF
      by_cases hlt : j < cs.length
      · skip
        obtain ⟨c, hc⟩ : ∃ c, cs[j]? = some c := ⟨cs[j], List.getElem?_eq_getElem hlt⟩
        obtain ⟨cN, hnxL⟩ := HF.out.nx
        obtain ⟨bk, off, rfl, hbk, c0, c1⟩ := HP.out j c hc
        obtain ⟨a1, a2, a3⟩ := (HAP.out bk off rfl).resolve_left (by omega)
        have hkeep := hnxL.frm.block bk hbk (by simp only [List.mem_cons, List.not_mem_nil, or_false]; omega)
        rw [← cell_blk hkeep] at c0 c1
        obtain ⟨capL, hsL⟩ := hnxL.st
        have hb1 := bel1 wr (.cells #[.int .i64 c.1, .int .i64 c.2] 55)
        have HFA : Hid (Mfu11 sb tb most w g N cs w.heap.size pb (wr.alloc (.cells #[.int .i64 c.1, .int .i64 c.2] 55)) g1 N1 A k cp) := ⟨⟨_, hnxL.trans (Nx.of_below hsL hb1)⟩, HF.out.pl.later hb1, HF.out.res.later hb1, HF.out.full, rfl, rfl, rfl⟩
        have hgj : decide ((j : Int) < (cs.length : Int)) = true := decide_eq_true (by omega)
        have i1 : (0 : Int) ≤ (j : Int) := by omega
        have i2 : (j : Int) < (cs.length : Int) := by omega
        clear hc hbk a1 a2 a3 hkeep hsL hb1 hnxL HF
        go_upto_region 6 with fail
        generalize wr.alloc (.cells #[.int .i64 c.1, .int .i64 c.2] 55) = wA at *
        have HF := Lib.hid HFA.out
        clear HFA c0 c1
        obtain ⟨⟨s0, s1, s2⟩, _, _, _⟩ := tm3_cells HF.out.pl.at_
        have HPC := Lib.hid (And.intro s0 (And.intro s1 s2))
        have HRC := Lib.hid (tm3_cells HF.out.res.at_)
        clear s0 s1 s2
        go_upto_region 10 with fail
        refine region_sq 4 (fun W => W = wA.drew) [(0, 2), (1, 1), (2, 1), (3, 1), (4, 3), (5, 1), (6, 1)] (by kernel_rfl) (by kernel_rfl) rfl (by intro c a d v w h; cases d <;> exact h) (by kernel_rfl) rfl ?_
        refine ⟨_, ?_, rfl, by rfl, ?_, ?_⟩
        rotate_left
        · rintro W rfl
          obtain ⟨s0, s1, s2⟩ := HPC.out
          go_simp; first | done | rfl
        conv => arg 6; simp only [Act.put, List.setIfInBounds_toArray, List.set_cons_zero, List.set_cons_succ]
        refine ⟨_, ?_, rfl, by rfl, ?_, ?_⟩
        rotate_left
        · intro W; go_simp; first | done | rfl
        conv => arg 6; simp only [Act.put, List.setIfInBounds_toArray, List.set_cons_zero, List.set_cons_succ]
        refine ⟨_, ?_, rfl, by rfl, ?_, ?_⟩
        rotate_left
        · intro W; go_simp; first | done | rfl
        conv => arg 6; simp only [Act.put, List.setIfInBounds_toArray, List.set_cons_zero, List.set_cons_succ]
        refine ⟨_, ?_, rfl, by rfl, ?_, ?_⟩
        rotate_left
        · intro W; go_simp; first | done | rfl
        conv => arg 6; simp only [Act.put, List.setIfInBounds_toArray, List.set_cons_zero, List.set_cons_succ]
        refine ⟨_, rfl, by rfl, fun K hK => ?_⟩
        obtain ⟨⟨s0, s1, s2⟩, s3, s4, s5⟩ := HRC.out
        go_simp
        refine hK _ _ ?_
        clear hK K s0 s1 s2 s3 s4 s5
        conv => arg 6; simp only [Act.put, List.setIfInBounds_toArray, List.set_cons_zero, List.set_cons_succ]
        refine ⟨_, ?_, rfl, by rfl, ?_, ?_⟩
        rotate_left
        · intro W; go_simp; first | done | rfl
        conv => arg 6; simp only [Act.put, List.setIfInBounds_toArray, List.set_cons_zero, List.set_cons_succ]
        refine ⟨_, ?_, rfl, by rfl, ?_, ?_⟩
        rotate_left
        · intro W; go_simp; first | done | rfl
        conv => arg 6; simp only [Act.put, List.setIfInBounds_toArray, List.set_cons_zero, List.set_cons_succ]
        unfold wpSq
        obtain ⟨c, hnx⟩ := HF.out.nx
        obtain ⟨W, hW, hNW, hRW⟩ := put_tmN hnx HF.out.res (Nat.le_refl _) (.pointer none) (.int .u32 0) (.int .u64 0)
        rw [hW]
        have HNW := Lib.hid hNW
        have HRW := Lib.hid hRW
        clear hnx hNW hRW
        go_wp2_with fail
        refine bodyPost_ret (tm_ret311 rfl rfl rfl rfl HRW.out.at_) rfl ?_
        exact ⟨c, g1, N1, nx_drew11 HNW.out, Or.inr ⟨A, k, cp, rfl, HF.out.full⟩⟩
      · obtain rfl : j = cs.length := by omega
        have hgj : decide ((cs.length : Int) < (cs.length : Int)) = false := by simp
        obtain ⟨⟨s0, s1, s2⟩, _, _, _⟩ := tm3_cells HF.out.pl.at_
        have HPC := Lib.hid (And.intro s0 (And.intro s1 s2))
        have HRC := Lib.hid (tm3_cells HF.out.res.at_)
        clear s0 s1 s2
        go_upto_region 10 with fail
        refine region_sq 4 (fun W => W = wr.drew) [(0, 2), (1, 1), (2, 1), (3, 1), (4, 3), (5, 1), (6, 1)] (by kernel_rfl) (by kernel_rfl) rfl (by intro c a d v w h; cases d <;> exact h) (by kernel_rfl) rfl ?_
        refine ⟨_, ?_, rfl, by rfl, ?_, ?_⟩
        rotate_left
        · rintro W rfl
          obtain ⟨s0, s1, s2⟩ := HPC.out
          go_simp; first | done | rfl
        conv => arg 6; simp only [Act.put, List.setIfInBounds_toArray, List.set_cons_zero, List.set_cons_succ]
        refine ⟨_, ?_, rfl, by rfl, ?_, ?_⟩
        rotate_left
        · intro W; go_simp; first | done | rfl
        conv => arg 6; simp only [Act.put, List.setIfInBounds_toArray, List.set_cons_zero, List.set_cons_succ]
        refine ⟨_, ?_, rfl, by rfl, ?_, ?_⟩
        rotate_left
        · intro W; go_simp; first | done | rfl
        conv => arg 6; simp only [Act.put, List.setIfInBounds_toArray, List.set_cons_zero, List.set_cons_succ]
        refine ⟨_, ?_, rfl, by rfl, ?_, ?_⟩
        rotate_left
        · intro W; go_simp; first | done | rfl
        conv => arg 6; simp only [Act.put, List.setIfInBounds_toArray, List.set_cons_zero, List.set_cons_succ]
        refine ⟨_, rfl, by rfl, fun K hK => ?_⟩
        obtain ⟨⟨s0, s1, s2⟩, s3, s4, s5⟩ := HRC.out
        go_simp
        refine hK _ _ ?_
        clear hK K s0 s1 s2 s3 s4 s5
        conv => arg 6; simp only [Act.put, List.setIfInBounds_toArray, List.set_cons_zero, List.set_cons_succ]
        refine ⟨_, ?_, rfl, by rfl, ?_, ?_⟩
        rotate_left
        · intro W; go_simp; first | done | rfl
        conv => arg 6; simp only [Act.put, List.setIfInBounds_toArray, List.set_cons_zero, List.set_cons_succ]
        refine ⟨_, ?_, rfl, by rfl, ?_, ?_⟩
        rotate_left
        · intro W; go_simp; first | done | rfl
        conv => arg 6; simp only [Act.put, List.setIfInBounds_toArray, List.set_cons_zero, List.set_cons_succ]
        unfold wpSq
        obtain ⟨c, hnx⟩ := HF.out.nx
        obtain ⟨W, hW, hNW, hRW⟩ := put_tmN hnx HF.out.res (Nat.le_refl _) (.pointer none) (.int .u32 0) (.int .u64 0)
        rw [hW]
        have HNW := Lib.hid hNW
        have HRW := Lib.hid hRW
        clear hnx hNW hRW
        go_wp2_with fail
        refine bodyPost_ret (tm_ret311 rfl rfl rfl rfl HRW.out.at_) rfl ?_
        exact ⟨c, g1, N1, nx_drew11 HNW.out, Or.inr ⟨A, k, cp, rfl, HF.out.full⟩⟩
end Go.Proofs.YtaapkngpnlnjeaaGreatDoor
