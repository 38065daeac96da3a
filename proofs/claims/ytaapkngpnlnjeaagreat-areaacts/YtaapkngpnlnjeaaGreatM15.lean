-- M15
import Derived.Test.YtaapkngpnlnjeaaGreatM14
import Derived.Test.YtaapkngpnlnjeaaGreatM13
import Derived.Test.YtaapkngpnlnjeaaGreatProg
import Derived.WalkKit
import Derived.WalkLawsBesides
import Derived.Lib.Hide
import Derived.Deep.LoopGhost
import Derived.Below
import Derived.Laws.BytesArg
import Derived.Stop.Asserts
import Derived.RowKitTokens
import Derived.Test.YtaapkngpnlnjeaaGreatPs8
import Derived.Test.YtaapkngpnlnjeaaGreatM12
import Derived.Test.YtaapkngpnlnjeaaGreatM04
import Derived.Deep.CutBlock
section
namespace Go.Proofs.YtaapkngpnlnjeaaGreat
open Go.RowKit Go.Maps
set_option maxRecDepth 100000

theorem Nx.bel {w w' : World} {sb tb most g g' c B : Nat} {N N' : List Nd} (h : Nx sb tb most w g N c w' g' N') (h1 : B ≤ sb) (h2 : B ≤ g) (h3 : B ≤ tb) (h4 : B ≤ w.heap.size) : Below B w w' ∧ B ≤ g' := by
  refine ⟨h.frm.below (fun b hb => ?_) h4, ?_⟩
  · simp only [List.mem_cons, List.not_mem_nil, or_false] at hb
    omega
  · rcases h.gin with e | e <;> omega
theorem Nx.len {w w' : World} {sb tb most g g' c : Nat} {N N' : List Nd} (h : Nx sb tb most w g N c w' g' N') : N'.length ≤ N.length + c := by
  obtain ⟨E, rfl, hE⟩ := h.ext
  rw [List.length_append]; omega
theorem em_al {N : List Nd} {n x : Nat} (h : Em N (n + 1) x) (a b : Int) : alK N n (kidZ N x) a b = false := by
  rw [al_root, h.2]
  cases inS n a <;> cases inS n b <;> rfl
theorem Nx.al {w w' : World} {sb tb most g g' c n x : Nat} {N N' : List Nd} (h : Nx sb tb most w g N c w' g' N') (hw : Wf N) (hx : Sq N (n + 1) x) (a b : Int) : alK N' n (kidZ N' x) a b = alK N n (kidZ N x) a b := by
  obtain ⟨E, rfl, _⟩ := h.ext
  rw [kid_app E hx.lt, alK_app hw E (hx.kid hw)]
theorem far_eg : Far 2 2 5 (-9) := by
  refine ⟨by decide, by decide, fun i hi => ?_⟩
  have : i = 0 ∨ i = 1 := by omega
  rcases this with rfl | rfl <;> decide
end Go.Proofs.YtaapkngpnlnjeaaGreat
end

section
namespace Go.Proofs.YtaapkngpnlnjeaaGreat
open Go.RowKit Go.Maps
set_option maxRecDepth 100000

theorem grown_other {w w' : World} {b c : Nat} {o : Obj} (h : w.grownBy w' (some b)) (hc : w.heap[c]? = some o) (hne : c ≠ b) : w'.heap[c]? = some o := by
  rw [h.block c (Array.getElem?_eq_some_iff.1 hc).1 (by simpa using hne)]; exact hc
theorem grown_bel {w w' : World} {b B : Nat} {W : World} (h : w.grownBy w' (some b)) (hb : Below B W w) (hW : B ≤ W.heap.size) (hB : B ≤ b) : Below B W w' :=
  hb.grown h (by have := hb.size; omega) (fun k hk => by cases hk; exact hB)
set_option maxHeartbeats 8000000 in
theorem same_anyB {w : World} {sb g tb cap most : Nat} {M : List Nd} (h : St w sb g tb cap most M) {n x : Nat} (hx : Sq M (n + 1) x) (hn : 2 ≤ n) (l : List (Int × Int)) (a : Option Addr) (cap' : Nat) (hr : Ro w a l) (hl : l.length ≤ 10000) (hd : l.Nodup)
    (hon : ∀ c, c ∈ l → (onP c.1 && onP c.2) = true) (hal : ∀ p q, alK M n (kidZ M x) p q = decide ((p, q) ∈ l)) :
    Calls Tryz.prog 10 #[.agg #[.pointer (some ⟨sb, 0, none⟩), .int .u32 (x : Int)], .slice a l.length cap'] w fun e w' => e = .returned (.bool true) ∧ Below w.heap.size w w' := by
  have hxu := Sq.u32 h hx
  have HB := Lib.hid (bel2 w (.cells #[.pointer (some ⟨sb, 0, none⟩), .int .u32 (x : Int)] 29) (.map #[] 0))
  have HS := Lib.hid h
  have HX := Lib.hid hx
  have HR := Lib.hid hr
  have HON := Lib.hid hon
  have HAL := Lib.hid hal
  have HP : Hid (((w.alloc (.cells #[.pointer (some ⟨sb, 0, none⟩), .int .u32 (x : Int)] 29)).alloc (.map #[] 0)).heap[w.heap.size]? = some (plO sb x)) := keptR (heap_alloc_new _ _) (bel1 _ _)
  have hm0 := pset_new (w.alloc (.cells #[.pointer (some ⟨sb, 0, none⟩), .int .u32 (x : Int)] 29))
  rw [show (w.alloc (.cells #[.pointer (some ⟨sb, 0, none⟩), .int .u32 (x : Int)] 29)).heap.size = w.heap.size + 1 by simp] at hm0
  have HMP := Lib.hid hm0
  have hct : ctZ M x = l.length := by
    rw [ct_list h.wf hx hd (fun p q => by rw [hal]; simp)]
    unfold topN; omega
  have HCT := Lib.hid hct
  have hmm := @run_makeMap Tryz.prog
  clear h hx hr hon hal hm0 hct
  go_enter Tryz.func10, Tryz.ntmps10
  go_wp2_with fail
  generalize (w.alloc (.cells #[.pointer (some ⟨sb, 0, none⟩), .int .u32 (x : Int)] 29)).alloc (.map #[] 0) = W0 at *
  go_loopg [7, 15] l.length (fun m v7 cnt wr => ∃ j : Nat, m = l.length - j ∧ j ≤ l.length ∧ cnt = .int .i64 (j : Int) ∧ PSet wr (w.heap.size + 1) (l.take j) ∧ wr.heap[w.heap.size]? = some (plO sb x) ∧ Below w.heap.size w wr)
  case atStart => exact ⟨0, rfl, Nat.zero_le _, rfl, HMP.out, HP.out, HB.out⟩
  case round =>
    clear HMP HP HB
    obtain ⟨j, hm, hj, rfl, hmp, hp, hb⟩ := hrel
    have HM := Lib.hid hm
    have HMP := Lib.hid hmp
    have HP := Lib.hid hp
    have HB := Lib.hid hb
    have HR1 := Lib.hid (HR.out.later hb)
    clear hm hmp hp hb
    by_cases hlt : j < l.length
    · obtain ⟨c, hc⟩ : ∃ c, l[j]? = some c := ⟨l[j], List.getElem?_eq_getElem hlt⟩
      obtain ⟨bk, ha, c0, c1⟩ := HR1.out j c hc
      have HTK : Hid (l.take (j + 1) = l.take j ++ [c]) := by show _ = _; rw [List.take_add_one, hc]; rfl
      have hfit : fits7 c := by
        have := HON.out c (List.mem_of_getElem? hc)
        rw [Bool.and_eq_true] at this
        unfold onP at this
        simp only [Bool.and_eq_true, decide_eq_true_eq] at this
        unfold fits7; omega
      have hbA := bel1 wr (.cells #[.int .i64 c.1, .int .i64 c.2] 45)
      obtain ⟨w3, hup, hset, hgr⟩ := (HMP.out.later hbA).put c hfit (by rw [List.length_take]; omega)
      have HSET := Lib.hid hset
      have HGR := Lib.hid hgr
      have HBA := Lib.hid hbA
      unfold pv7 at hup
      subst ha
      clear hc hset hgr hbA hfit
      have hgj : decide ((j : Int) < (l.length : Int)) = true := by simp; omega
      have i1 : (0 : Int) ≤ (j : Int) := by omega
      have i2 : (j : Int) < (l.length : Int) := by omega
      go_wp2_with fail
      go_roundg (l.length - (j + 1))
      case measure => rw [HM.out]; omega
      case rel =>
        have hb2 := HB.out.trans (HBA.out.mono HB.out.size)
        exact ⟨j + 1, rfl, hlt, by go_num, by rw [HTK.out]; exact HSET.out, grown_other HGR.out (keptR HP.out HBA.out) (by omega), grown_bel HGR.out hb2 (Nat.le_refl _) (by omega)⟩
    · obtain rfl : j = l.length := by omega
      rw [List.take_length] at HMP
      have hgj : decide ((l.length : Int) < (l.length : Int)) = false := by simp
      go_wp2_with fail
      clear hgj
      generalize hWA : wr = WA at *
      clear hWA wr
      go_loopg [9, 10, 11, 24] l.length (fun m v9 v10 v11 cnt wr => ∃ j : Nat, m = l.length - j ∧ j ≤ l.length ∧ cnt = .int .i64 (j : Int) ∧ Below WA.heap.size WA wr)
      case atStart => exact ⟨0, rfl, Nat.zero_le _, rfl, Below.refl _ _⟩
      case round =>
        obtain ⟨j, hm2, hj2, rfl, hb⟩ := hrel
        have HM2 := Lib.hid hm2
        have HBA := Lib.hid hb
        clear hm2 hb
        generalize hWB : wr = WB at *
        clear hWB wr
        by_cases hlt : j < l.length
        · obtain ⟨c, hc⟩ : ∃ c, l[j]? = some c := ⟨l[j], List.getElem?_eq_getElem hlt⟩
          obtain ⟨bk, ha, c0, c1⟩ := (HR1.out.later HBA.out) j c hc
          have HCO : Hid ((-2305843009213693952 < c.1 ∧ c.1 < 2305843009213693952) ∧ (-2305843009213693952 < c.2 ∧ c.2 < 2305843009213693952)) := by
            have := HON.out c (List.mem_of_getElem? hc)
            rw [Bool.and_eq_true] at this
            unfold onP at this
            simp only [Bool.and_eq_true, decide_eq_true_eq] at this
            exact this
          subst ha
          have hgj : decide ((j : Int) < (l.length : Int)) = true := by simp; omega
          have i1 : (0 : Int) ≤ (j : Int) := by omega
          have i2 : (j : Int) < (l.length : Int) := by omega
          have HCB : Hid ((WB.alloc (.cells #[.int .i64 c.1, .int .i64 c.2] 45)).heap[WB.heap.size]? = some (ptO7 c.1 c.2)) := heap_alloc_new _ _
          have HBC := Lib.hid (HBA.out.trans ((bel1 WB (.cells #[.int .i64 c.1, .int .i64 c.2] 45)).mono HBA.out.size))
          go_wp2_with fail
          generalize WB.alloc (.cells #[.int .i64 c.1, .int .i64 c.2] 45) = WC at *
          generalize WB.heap.size = cb at *
          clear hgj i1 i2 c0 c1
          go_loopg [10, 11, 28] 9 (fun m v10 v11 cnt wr => ∃ s : Nat, m = 9 - s ∧ s ≤ 9 ∧ cnt = .int .i64 (s : Int) ∧ Below WC.heap.size WC wr)
          case atStart => exact ⟨0, rfl, Nat.zero_le _, rfl, Below.refl _ _⟩
          case round =>
            obtain ⟨s, hm3, hs, rfl, hb⟩ := hrel
            have HM3 := Lib.hid hm3
            have HBS := Lib.hid hb
            have HCB2 := Lib.hid (keptR HCB.out hb)
            clear hm3 hb
            by_cases hlt3 : s < 9
            · have hgs : decide ((s : Int) < 9) = true := by simp; omega
              obtain ⟨c0, c1⟩ := pt_cells7 HCB2.out
              obtain ⟨⟨o1, o2⟩, o3, o4⟩ := HCO.out
              have hw1 : wrap64 (c.1 + (s : Int) % 3) = c.1 + (s : Int) % 3 := IntWalk.wrap64_in _ (by omega)
              have hw2 : wrap64 (c.1 + (s : Int) % 3 - 1) = c.1 + (s : Int) % 3 - 1 := IntWalk.wrap64_in _ (by omega)
              have hw3 : wrap64 (c.2 + (s : Int) / 3) = c.2 + (s : Int) / 3 := IntWalk.wrap64_in _ (by omega)
              have hw4 : wrap64 (c.2 + (s : Int) / 3 - 1) = c.2 + (s : Int) / 3 - 1 := IntWalk.wrap64_in _ (by omega)
              have HFT : Hid (fits7 (c.1 + (s : Int) % 3 - 1, c.2 + (s : Int) / 3 - 1)) := by
                show fits7 _
                unfold fits7
                simp only
                omega
              clear o1 o2 o3 o4
              go_upto_region 14 with fail
              clear hw1 hw2 hw3 hw4 c0 c1 hgs
              generalize c.1 + (s : Int) % 3 - 1 = X at *
              generalize c.2 + (s : Int) / 3 - 1 = Y at *
              have hbq := bel1 wr (.cells #[.int .i64 X, .int .i64 Y] 34)
              have HQ : Hid ((wr.alloc (.cells #[.int .i64 X, .int .i64 Y] 34)).heap[wr.heap.size]? = some (ptO X Y)) := heap_alloc_new _ _
              have HBQ := Lib.hid (HBS.out.trans (hbq.mono HBS.out.size))
              have hbA := HBC.out.trans (HBQ.out.mono HBC.out.size)
              have hbW := HB.out.trans (hbA.mono HB.out.size)
              have HSQ := Lib.hid (HS.out.later hbW)
              have HPQ := Lib.hid (keptR HP.out hbA)
              have HMQ := Lib.hid (HMP.out.later hbA)
              clear hbq hbA hbW
              generalize wr.alloc (.cells #[.int .i64 X, .int .i64 Y] 34) = WQ at *
              generalize wr.heap.size = qb at *
              obtain ⟨q0, q1⟩ := pt_cells HQ.out
              obtain ⟨p0, p1⟩ := pl_cells HPQ.out
              have hne := Up.me WQ
              have HGE := Lib.hid (fun z : Up WQ => Up.calls (fun W hb => get_any (HSQ.out.later hb) HX.out hn X Y) z)
              rw [HAL.out X Y] at HGE
              have HOF := Lib.hid (fun z : Up WQ => Up.calls (fun W _ => of_law X Y W) z)
              have hlk : ∀ z : Up WQ, (Instr.lookup 86 (.map (some (w.heap.size + 1))) (.agg #[.int .i64 X, .int .i64 Y]) false).run Tryz.prog z.1 = .ok (.bool (decide ((X, Y) ∈ l))) z.1 := fun z => PSet.look (HMQ.out.later z.2) (X, Y) HFT.out
              have g0 := fun z : Up WQ => Up.cell p0 z
              have g1 := fun z : Up WQ => Up.cell p1 z
              have g2 := fun z : Up WQ => Up.cell q0 z
              have g3 := fun z : Up WQ => Up.cell q1 z
              generalize decide ((X, Y) ∈ l) = bv at *
              have hbv : (bv != bv) = false := by simp
              refine region_up (by kernel_rfl) (by kernel_rfl) ?_
              repeat (go_big_quiet_step ((first | (go_at_call 40; with_reducible exact HGE.out _) | (go_at_call 41; with_reducible exact HOF.out _))))
              refine wpQuiet_nil ?_
              rintro w2 ⟨⟨W2, hW2⟩, hw2⟩
              obtain rfl : w2 = W2 := hw2
              have HB2 := Lib.hid (HBQ.out.trans (hW2.mono HBQ.out.size))
              clear HGE HOF hlk g0 g1 g2 g3 hne hW2
              go_wp2_with fail
              go_roundg (9 - (s + 1))
              case measure => rw [HM3.out]; omega
              case rel => exact ⟨s + 1, rfl, by omega, by go_num, HB2.out⟩
            · obtain rfl : s = 9 := by omega
              have hgs : decide (((9 : Nat) : Int) < 9) = false := by simp
              go_wp2_with fail
              go_roundg (l.length - (j + 1))
              case measure => rw [HM2.out]; omega
              case rel => exact ⟨j + 1, rfl, hlt, by go_num, HBC.out.trans (HBS.out.mono HBC.out.size)⟩
        · obtain rfl : j = l.length := by omega
          have hgj : decide ((l.length : Int) < (l.length : Int)) = false := by simp
          have hbw := HB.out.trans (HBA.out.mono HB.out.size)
          have HBW := Lib.hid hbw
          obtain ⟨p0, p1⟩ := pl_cells (keptR HP.out HBA.out)
          have HCA := Lib.hid (count_any (HS.out.later hbw) x hxu)
          rw [HCT.out] at HCA
          have hcv : IntKind.u64.wrap (l.length : Int) = (l.length : Int) := IntWalk.u64_in _ (by omega)
          clear hbw
          go_wp2_with fail
          refine HCA.out.mono ?_
          rintro e w9 ⟨rfl, hw9⟩
          rw [← hw9]
          clear hw9 HCA w9
          go_wp2_with fail
          go_ret
          exact ⟨by simp, HBW.out⟩
theorem same_any {w : World} {sb g tb cap most : Nat} {M : List Nd} (h : St w sb g tb cap most M) {n x : Nat} (hx : Sq M (n + 1) x) (hn : 2 ≤ n) (l : List (Int × Int)) (a : Option Addr) (cap' : Nat) (hr : Ro w a l) (hl : l.length ≤ 100) (hd : l.Nodup)
    (hon : ∀ c, c ∈ l → (onP c.1 && onP c.2) = true) (hal : ∀ p q, alK M n (kidZ M x) p q = decide ((p, q) ∈ l)) :
    Calls Tryz.prog 10 #[.agg #[.pointer (some ⟨sb, 0, none⟩), .int .u32 (x : Int)], .slice a l.length cap'] w fun e w' => e = .returned (.bool true) ∧ Below w.heap.size w w' := same_anyB h hx hn l a cap' hr (by omega) hd hon hal
end Go.Proofs.YtaapkngpnlnjeaaGreat
end

section
namespace Go.Proofs.YtaapkngpnlnjeaaGreat
open Go.RowKit Go.Extern.Stop Go.Stop Go.Extern

/-- Two interface values that hold numbers of one integer type: equal just as the numbers are. -/
theorem eq_nums {P : Program} (w : World) {ti tn : TypeId} {ms : Array (String × TypeId)} {i : TypeInfo} {k : IntKind} (a b : Int)
    (hi : P.underlying ti = some (.interface ms)) (hn : P.underlying tn = some (.int k)) (hinfo : P.info? tn = some i) (hc : i.comparable = true) :
    (binOp .eql ti (.iface tn (.int k a)) (.iface tn (.int k b))).run P w = .ok (.bool (a == b)) w := by
  have h : ∀ d : Nat, (Op.equalIn (d + 2) ti (.iface tn (.int k a)) (.iface tn (.int k b))).run P w = .ok (a == b) w := fun d => by
    simp [Op.equalIn, run_underlying hi, run_underlying hn, typeInfo, hinfo, hc]
  simp only [binOp]
  simp [Op.equal, Op.maxDepth, h 9998]
theorem Tryz.mComparable (h : Value) (w : World) : (Go.method 399 229 (.agg #[h]) "Comparable").run Tryz.prog w = .ok (202, .agg #[h]) w := by kernel_rfl
theorem Tryz.cErrno (w : World) : (callFunc 202 #[.agg #[.pointer (some ⟨0, 57, none⟩)]]).run Tryz.prog w = .ok (.value (.bool true)) w := by kernel_rfl
theorem Tryz.tErrno (v : Value) (w : World) : (ReflectliteType.typeOf #[.iface 57 v]).run Tryz.prog w = .ok (.iface 229 (.agg #[.pointer (some ⟨0, 57, none⟩)])) w := by kernel_rfl
theorem Tryz.iErrno : (Tryz.prog.info? 57).map (·.comparable) = some true := by kernel_rfl
set_option maxHeartbeats 1000000 in
theorem is_one (c : Int) (w : World) :
    Calls Tryz.prog 124 #[.iface 57 (.int .i64 c), .iface 57 (.int .i64 c), .bool true] w fun e w' => e = .returned (.bool true) ∧ w = w' := by
  obtain ⟨i, hi, hcmp⟩ := Option.map_eq_some_iff.1 Tryz.iErrno
  have heq := fun w => eq_nums (P := Tryz.prog) w c c Tryz.underlying53 Tryz.underlying57 hi hcmp
  rw [show (c == c) = true by simp] at heq
  go_enter Tryz.func124, Tryz.ntmps124
  go_wp2
  go_loopg [0] 0 (fun k x wr => k = 0 ∧ x = .iface 57 (.int .i64 c) ∧ wr = w)
  case atStart => exact ⟨rfl, rfl, rfl⟩
  case round =>
    obtain ⟨_, rfl, rfl⟩ := hrel
    go_wp2
    go_ret
    exact ⟨rfl, rfl⟩
set_option maxHeartbeats 1000000 in
theorem isErr_one (c : Int) (w : World) :
    Calls Tryz.prog 93 #[.iface 57 (.int .i64 c), .iface 57 (.int .i64 c)] w fun e w' => e = .returned (.bool true) ∧ w = w' := by
  have h8 := @run_callFunc_extern Tryz.prog 123 _ ReflectliteType.typeOf Tryz.func123 (by kernel_rfl) (by kernel_rfl) (by kernel_rfl) (by kernel_rfl)
  have tT := Tryz.tErrno
  have cT := Tryz.cErrno
  have mR := Tryz.mComparable
  go_enter Tryz.func93, Tryz.ntmps93
  go_wp2_with fail
  refine (is_one c _).mono ?_
  rintro e w' ⟨rfl, rfl⟩
  go_wp2
  go_ret
  exact ⟨rfl, rfl⟩
theorem isNum_one (c : Int) (hc : c ≠ 0) (w : World) :
    Calls Tryz.prog 54 #[.iface 57 (.int .i64 c), .int .i64 c] w fun e w' => e = .returned (.bool true) ∧ w = w' := by
  have h' : (c == 0) = false := by simpa using hc
  go_enter Tryz.func54, Tryz.ntmps54
  go_wp2_with fail
  refine (isErr_one c _).mono ?_
  rintro e w' ⟨rfl, rfl⟩
  go_wp2
  go_ret
  exact ⟨rfl, rfl⟩
theorem fis_one (c : Int) (hc : c ≠ 0) (bk cap : Nat) (w : World) (h : w.cell? ⟨bk, 0, none⟩ = some (.int .i64 c)) :
    Calls Tryz.prog 17 #[.iface 57 (.int .i64 c), .slice (some ⟨bk, 0, none⟩) 1 cap] w fun e w' => e = .returned (.bool true) ∧ w = w' := by
  go_enter Tryz.func17, Tryz.ntmps17
  go_wp2
  go_loopg [9] 0 (fun k x wr => k = 0 ∧ x = .int .i64 0 ∧ wr = w)
  case atStart => exact ⟨rfl, rfl, rfl⟩
  case round =>
    obtain ⟨_, rfl, rfl⟩ := hrel
    go_wp2_with fail
    refine (isNum_one c hc _).mono ?_
    rintro e w' ⟨rfl, rfl⟩
    go_wp2
    go_ret
    exact ⟨rfl, rfl⟩
end Go.Proofs.YtaapkngpnlnjeaaGreat
end

section
namespace Go.Proofs.YtaapkngpnlnjeaaGreat
open Go.RowKit Go.Maps
set_option maxRecDepth 100000

def acO8 (k : Nat) (p q : Int) (W H : Nat) (sl : Value) (over : Bool) : Obj := .cells #[.int .u8 (k : Int), .int .i64 p, .int .i64 q, .int .u8 (W : Int), .int .u8 (H : Int), sl, .bool over] 37 (0, 0)
theorem ac_cells8 {w : World} {b k W H : Nat} {p q : Int} {sl : Value} {over : Bool} (h : w.heap[b]? = some (acO8 k p q W H sl over)) : w.cell? ⟨b, 0, none⟩ = some (.int .u8 (k : Int)) ∧ w.cell? ⟨b, 1, none⟩ = some (.int .i64 p) ∧ w.cell? ⟨b, 2, none⟩ = some (.int .i64 q) ∧ w.cell? ⟨b, 3, none⟩ = some (.int .u8 (W : Int)) ∧ w.cell? ⟨b, 4, none⟩ = some (.int .u8 (H : Int)) ∧ w.cell? ⟨b, 5, none⟩ = some sl ∧ w.cell? ⟨b, 6, none⟩ = some (.bool over) :=
  ⟨by rw [Lib.cell_of_heap h]; rfl, by rw [Lib.cell_of_heap h]; rfl, by rw [Lib.cell_of_heap h]; rfl, by rw [Lib.cell_of_heap h]; rfl, by rw [Lib.cell_of_heap h]; rfl, by rw [Lib.cell_of_heap h]; rfl, by rw [Lib.cell_of_heap h]; rfl⟩
def lbO (v : Value) : Obj := .cells #[v] 32 (0, 0)
theorem lb_cell {w : World} {b : Nat} {v : Value} (h : w.heap[b]? = some (lbO v)) : w.cell? ⟨b, 0, none⟩ = some v ∧ w.frozen? ⟨b, 0, none⟩ = false := ⟨by rw [Lib.cell_of_heap h]; rfl, Lib.frozen_of_heap h 0⟩
/-- The step's blocks: the plane, the cells, the act, the result. -/
structure S8x (W : World) (sb g tb B x : Nat) (A : Obj) (v : Value) : Prop where
  pl : Ob W sb g tb B (plO sb x)
  lb : Ob W sb g tb (B + 1) (lbO v)
  ac : Ob W sb g tb (B + 1 + 1) A
  res : Ob W sb g tb (B + 1 + 1 + 1) zeO8
theorem S8x.later {W W' : World} {sb g tb B x : Nat} {A : Obj} {v : Value} (h : S8x W sb g tb B x A v) (hb : Below W.heap.size W W') : S8x W' sb g tb B x A v := ⟨h.pl.later hb, h.lb.later hb, h.ac.later hb, h.res.later hb⟩
theorem S8x.nx {w w' : World} {sb tb most g g' c B x : Nat} {N N' : List Nd} {A : Obj} {v : Value} (h : S8x w sb g tb B x A v) (hn : Nx sb tb most w g N c w' g' N') : S8x w' sb g' tb B x A v := ⟨h.pl.nx hn, h.lb.nx hn, h.ac.nx hn, h.res.nx hn⟩
theorem S8x.set {W : World} {sb g tb B x b i : Nat} {A : Obj} {v : Value} (h : S8x W sb g tb B x A v) (hb : B + 1 + 1 + 1 < b) (u : Value) : S8x (W.setCell ⟨b, i, none⟩ u) sb g tb B x A v :=
  ⟨h.pl.other (by show b ≠ _; omega) u, h.lb.other (by show b ≠ _; omega) u, h.ac.other (by show b ≠ _; omega) u, h.res.other (by show b ≠ _; omega) u⟩
theorem S8x.lt {W : World} {sb g tb B x : Nat} {A : Obj} {v : Value} (h : S8x W sb g tb B x A v) : B + 1 + 1 + 1 < W.heap.size := h.res.lt
theorem s8_start {w : World} {sb g tb cap most : Nat} {N : List Nd} (h : St w sb g tb cap most N) (x : Nat) (v : Value) (cs : Array Value) (t : TypeId) :
    ∃ W, ((((w.alloc (.cells #[.pointer (some ⟨sb, 0, none⟩), .int .u32 (x : Int)] 29)).alloc (.cells #[v] 32)).alloc (.cells cs t)).alloc (.cells #[.pointer none, .int .u32 0] 29)) = W ∧ Below w.heap.size w W ∧ S8x W sb g tb w.heap.size x (.cells cs t (0, 0)) v ∧ W.heap.size = w.heap.size + 1 + 1 + 1 + 1 := by
  obtain ⟨l1, l2, l3⟩ := h.lt
  have hb : Below w.heap.size w ((((w.alloc (.cells #[.pointer (some ⟨sb, 0, none⟩), .int .u32 (x : Int)] 29)).alloc (.cells #[v] 32)).alloc (.cells cs t)).alloc (.cells #[.pointer none, .int .u32 0] 29)) := by go_grown
  have h4 := heap_alloc_new (((w.alloc (.cells #[.pointer (some ⟨sb, 0, none⟩), .int .u32 (x : Int)] 29)).alloc (.cells #[v] 32)).alloc (.cells cs t)) (.cells #[.pointer none, .int .u32 0] 29)
  rw [show (((w.alloc (.cells #[.pointer (some ⟨sb, 0, none⟩), .int .u32 (x : Int)] 29)).alloc (.cells #[v] 32)).alloc (.cells cs t)).heap.size = w.heap.size + 1 + 1 + 1 by simp] at h4
  exact ⟨_, rfl, hb, ⟨⟨keep8 (keep8 (keep8 (heap_alloc_new w _) (bel1 _ _)) (bel1 _ _)) (bel1 _ _), by omega, by omega, by omega⟩, ⟨keep8 (keep8 (new_2 w _ _) (bel1 _ _)) (bel1 _ _), by omega, by omega, by omega⟩, ⟨keep8 (new_3 w _ _ _) (bel1 _ _), by omega, by omega, by omega⟩, ⟨h4, by omega, by omega, by omega⟩⟩, by simp⟩
theorem below_drewN8 {B : Nat} {a w : World} (h : Below B a w) (q : Nat) : Below B a (w.drewN q) := ⟨h.os, h.tape, h.output, h.size, h.block⟩
theorem res_cell3 {P : Program} {fn : Func} {tmps : Array Value} {w : World} {i j k : Nat} {t : TypeId} {ad : Addr} {v u z : Value} (hr : fn.results = #[.cell i t, .tmp j, .tmp k]) (ha : tmps.getD i undef = .pointer (some ad)) (hj : tmps.getD j undef = u) (hk : tmps.getD k undef = z) (hl : (loadVar t ad).run P w = .ok v w) : (results fn tmps).run P w = .ok (.tuple #[v, u, z]) w := by
  unfold results
  rw [hr]
  rw [Array.getD_eq_getD_getElem?] at ha hj hk
  simp [ha, hj, hk, asAddr, hl]
theorem pl_ret3 {fn : Func} {tmps : Array Value} {w : World} {i j k b : Nat} {p v u z : Value} (hr : fn.results = #[.cell i 29, .tmp j, .tmp k]) (ha : tmps.getD i undef = .pointer (some ⟨b, 0, none⟩)) (hj : tmps.getD j undef = u) (hk : tmps.getD k undef = z) (h : w.heap[b]? = some (.cells #[p, v] 29 (0, 0))) : (results fn tmps).run Tryz.prog w = .ok (.tuple #[.agg #[p, v], u, z]) w :=
  res_cell3 hr ha hj hk (run_loadVar_row w b 29 29 _ (0, 0) _ h Tryz.underlying29 rfl (by as_aux_lemma => kernel_rfl))
/-- A plane of level n + 1 that has just these cells. -/
structure Pl8 (M : List Nd) (n x : Nat) (l : List (Int × Int)) : Prop where
  sq : Sq M (n + 1) x
  two : 2 ≤ n
  nd : l.Nodup
  on : ∀ c, c ∈ l → (onP c.1 && onP c.2) = true
  al : ∀ p q, alK M n (kidZ M x) p q = decide ((p, q) ∈ l)
/-- Cells that came in a row, in blocks beside a store's. -/
def Rv8 (w : World) (sb g tb : Nat) (a : Option Addr) (l : List (Int × Int)) : Prop := Ro w a l ∧ ∀ bk off, a = some ⟨bk, off, none⟩ → bk ≠ sb ∧ bk ≠ g ∧ bk ≠ tb ∧ bk < w.heap.size
theorem cell_blk8 {w w' : World} {b i : Nat} (h : w'.heap[b]? = w.heap[b]?) : w'.cell? ⟨b, i, none⟩ = w.cell? ⟨b, i, none⟩ := World.cell?_of_block (w := w) (a := ⟨b, i, none⟩) h
theorem Rv8.nx {w w' : World} {sb tb most g g' c : Nat} {M M' : List Nd} {a : Option Addr} {l : List (Int × Int)} (h : Rv8 w sb g tb a l) (hn : Nx sb tb most w g M c w' g' M') : Rv8 w' sb g' tb a l := by
  refine ⟨fun j c hc => ?_, fun bk off e => ?_⟩
  · obtain ⟨bk, ha, c0, c1⟩ := h.1 j c hc
    obtain ⟨h1, h2, h3, h4⟩ := h.2 bk 0 ha
    have hk := hn.frm.block bk h4 (by simp only [List.mem_cons, List.not_mem_nil, or_false]; omega)
    exact ⟨bk, ha, by rw [cell_blk8 hk]; exact c0, by rw [cell_blk8 hk]; exact c1⟩
  · obtain ⟨h1, h2, h3, h4⟩ := h.2 bk off e
    refine ⟨h1, ?_, h3, Nat.lt_of_lt_of_le h4 hn.frm.size⟩
    rcases hn.gin with e' | e'
    · rw [e']; exact h2
    · omega
theorem Rv8.later {w w' : World} {sb g tb : Nat} {a : Option Addr} {l : List (Int × Int)} (h : Rv8 w sb g tb a l) (hb : Below w.heap.size w w') : Rv8 w' sb g tb a l := ⟨h.1.later hb, fun bk off e => by obtain ⟨h1, h2, h3, h4⟩ := h.2 bk off e; exact ⟨h1, h2, h3, Nat.lt_of_lt_of_le h4 hb.size⟩⟩
theorem Rv8.other {w : World} {sb g tb b i : Nat} {a : Option Addr} {l : List (Int × Int)} (h : Rv8 w sb g tb a l) (hb : ∀ off, a ≠ some ⟨b, off, none⟩) (v : Value) : Rv8 (w.setCell ⟨b, i, none⟩ v) sb g tb a l := by
  refine ⟨fun j c hc => ?_, fun bk off e => ?_⟩
  · obtain ⟨bk, ha, c0, c1⟩ := h.1 j c hc
    have hne : bk ≠ b := fun e => hb 0 (by rw [ha, e])
    exact ⟨bk, ha, by rw [cell_blk8 (Below.heap_setCell _ _ _ _ hne)]; exact c0, by rw [cell_blk8 (Below.heap_setCell _ _ _ _ hne)]; exact c1⟩
  · obtain ⟨h1, h2, h3, h4⟩ := h.2 bk off e
    exact ⟨h1, h2, h3, by simpa using h4⟩
theorem nx_drew8 {w w' : World} {sb tb most g g' c : Nat} {N N' : List Nd} (h : Nx sb tb most w g N c w' g' N') : Nx sb tb most w g N c w'.drew g' N' := by
  obtain ⟨cap, hs⟩ := h.st
  exact ⟨⟨cap, hs.drew⟩, ⟨h.frm.os, h.frm.tape, h.frm.output, h.frm.size, h.frm.block⟩, h.gin, h.ext⟩
theorem Rv8.drew {w : World} {sb g tb : Nat} {a : Option Addr} {l : List (Int × Int)} (h : Rv8 w sb g tb a l) : Rv8 w.drew sb g tb a l := h
theorem cell_s8 (w : World) (v : Value) (t : TypeId) : (w.alloc (.cells #[v] t)).cell? ⟨w.heap.size, 0, none⟩ = some v := by simp
/-- What a step leaves: another plane, and its cells. -/
def Out8 (w : World) (sb g tb most : Nat) (M : List Nd) (l : List (Int × Int)) (a : Option Addr) (T : List Place) (e : Ending) (w' : World) : Prop :=
  ∃ g' M' n' x' l' a' c' T', e = .returned (.tuple #[.agg #[.pointer (some ⟨sb, 0, none⟩), .int .u32 ((x' : Nat) : Int)], .slice a' (List.length l') c', .bool true]) ∧ Nx sb tb most w g M (T.length + 3210) w' g' M' ∧ Pl8 M' n' x' l' ∧ Rv8 w' sb g' tb a' l' ∧ (a' = a ∨ ∀ bk off, a' = some ⟨bk, off, none⟩ → w.heap.size ≤ bk) ∧ l'.length ≤ l.length + 530 ∧ T'.length ≤ T.length + 3109 ∧ Cov T' (fun p q => (p, q) ∈ l')
end Go.Proofs.YtaapkngpnlnjeaaGreat
end
