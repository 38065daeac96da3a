/- Package area: paint and inner of a change without cells: contracts. -/
import Derived.Test.YtnfjmmkokhncoaaGreatM11
namespace Go.Proofs.YtnfjmmkokhncoaaGreat
open Go.RowKit Go.Maps
set_option maxRecDepth 100000

theorem fix8 (q : Bool → Bool → R4) (a b : Bool) (w : World) : (Instr.index 138 (.agg #[.int .i64 (q false false).x, .int .i64 (q false false).y, .int .i64 (q false false).X, .int .i64 (q false false).Y, .slice none 0 0, .int .i64 (q true false).x, .int .i64 (q true false).y, .int .i64 (q true false).X, .int .i64 (q true false).Y, .slice none 0 0, .int .i64 (q false true).x, .int .i64 (q false true).y, .int .i64 (q false true).X, .int .i64 (q false true).Y, .slice none 0 0, .int .i64 (q true true).x, .int .i64 (q true true).y, .int .i64 (q true true).X, .int .i64 (q true true).Y, .slice none 0 0]) (.int .i64 ((pl a b : Nat) : Int))).run Tryz.prog w = .ok (.agg #[.int .i64 (q a b).x, .int .i64 (q a b).y, .int .i64 (q a b).X, .int .i64 (q a b).Y, .slice none 0 0]) w := by
  cases a <;> cases b <;> kernel_rfl
set_option maxHeartbeats 2000000 in
theorem paint_nil (sb tb mb ab most : Nat) (P : R4) (c : Nat) (hc : c ≤ 1) (n : Nat) {w : World} {g : Nat} {N : List Nd} (h : Pn w sb g tb mb ab most N P c) {x : Nat} {r : R4} (hn : n ≤ 62) (hx : Sq0 N n x) (hi : RIn n r) (hr : Pr P n r) (a : Option Addr) (cp : Nat) :
    Calls Tryz.prog 93 #[.pointer (some ⟨ab, 0, none⟩), .int .u32 (x : Int), .int .i64 (n : Int), .agg #[.int .i64 r.x, .int .i64 r.y, .int .i64 r.X, .int .i64 r.Y, .slice a 0 cp]] w fun e w' => ∃ g' N', Px sb tb mb ab most P c w g N w' g' N' ∧ Res8 most e N n (Tc N n x r c []) N' := by
  have HB := Lib.hid (bel1 w (.cells #[.int .i64 r.x, .int .i64 r.y, .int .i64 r.X, .int .i64 r.Y, .slice a 0 cp] 92))
  have HP0 := Lib.hid h
  have hch : (w.alloc (.cells #[.int .i64 r.x, .int .i64 r.y, .int .i64 r.X, .int .i64 r.Y, .slice a 0 cp] 92)).heap[w.heap.size]? = some (chO r (.slice a 0 cp)) := heap_alloc_new w _
  obtain ⟨c0, c1, c2, c3, c4⟩ := ch_cells hch
  have HF := Lib.hid (fill_any sb tb mb ab most P c hc n (h.later HB.out) hn hx hi hr)
  clear h hch hx hi hr
  go_enter Tryz.func93, Tryz.ntmps93
  go_wp2_with fail
  generalize w.alloc (.cells #[.int .i64 r.x, .int .i64 r.y, .int .i64 r.X, .int .i64 r.Y, .slice a 0 cp] 92) = W0 at *
  refine HF.out.mono ?_
  clear HF
  rintro e w9 ⟨g9, M9, hpx, hres⟩
  have HR := Lib.hid hres
  have HPX := Lib.hid ((Px.of_below HP0.out HB.out).trans hpx)
  clear hpx hres
  obtain ⟨y, ev, rfl, _⟩ := two8 HR.out
  go_wp2_with fail
  go_ret2
  exact ⟨g9, M9, HPX.out, HR.out⟩
set_option maxHeartbeats 8000000 in
theorem inner_nil (sb tb mb ab most : Nat) (P : R4) (c : Nat) (hc : c ≤ 1) (n0 : Nat) (A B : Bool) : ∀ (d : Nat) {w : World} {g : Nat} {N : List Nd} (_ : Pn w sb g tb mb ab most N P c) {x : Nat} {r : R4} (_ : n0 + d ≤ 62) (_ : Sq0 N n0 x) (_ : RIn (n0 + d) r) (_ : Pr P (n0 + d) r) (a : Option Addr) (cp : Nat),
    Calls Tryz.prog 73 #[.pointer (some ⟨ab, 0, none⟩), .int .u32 (x : Int), .int .i64 ((pl A B : Nat) : Int), .int .i64 (n0 : Int), .int .i64 ((n0 + d : Nat) : Int), .agg #[.int .i64 r.x, .int .i64 r.y, .int .i64 r.X, .int .i64 r.Y, .slice a 0 cp]] w fun e w' => ∃ g' N', Px sb tb mb ab most P c w g N w' g' N' ∧ Res8 most e N (n0 + d) (Fi N n0 x A B (n0 + d) r c) N' := by
  intro d
  induction d with
  | zero =>
    intro w g N h x r hn hx hi hr a cp
    rw [show n0 + 0 = n0 from rfl] at *
    have HB := Lib.hid (bel1 w (.cells #[.int .i64 r.x, .int .i64 r.y, .int .i64 r.X, .int .i64 r.Y, .slice a 0 cp] 92))
    have HP0 := Lib.hid h
    have hch : (w.alloc (.cells #[.int .i64 r.x, .int .i64 r.y, .int .i64 r.X, .int .i64 r.Y, .slice a 0 cp] 92)).heap[w.heap.size]? = some (chO r (.slice a 0 cp)) := heap_alloc_new w _
    obtain ⟨c0, c1, c2, c3, c4⟩ := ch_cells hch
    have HF := Lib.hid (paint_nil sb tb mb ab most P c hc n0 (h.later HB.out) hn hx hi hr a cp)
    generalize pl A B = at_ at *
    clear h hch hx hi hr
    go_enter Tryz.func73, Tryz.ntmps73
    go_wp2_with fail
    generalize w.alloc (.cells #[.int .i64 r.x, .int .i64 r.y, .int .i64 r.X, .int .i64 r.Y, .slice a 0 cp] 92) = W0 at *
    refine HF.out.mono ?_
    clear HF
    rintro e w9 ⟨g9, M9, hpx, hres⟩
    have HR : Hid (Res8 most e N n0 (Fi N n0 x A B n0 r c) M9) := hres.of fun X Y hX hY => (Fi_base N n0 x A B r c X Y hX hY).symm
    have HPX := Lib.hid ((Px.of_below HP0.out HB.out).trans hpx)
    clear hpx hres
    obtain ⟨y, ev, rfl, _⟩ := two8 HR.out
    go_wp2_with fail
    go_ret2
    exact ⟨g9, M9, HPX.out, HR.out⟩
  | succ d ih =>
    intro w g N h x r hn hx hi hr a cp
    rw [show n0 + (d + 1) = n0 + d + 1 by omega] at *
    generalize hnd : n0 + d = n at *
    have HND := Lib.hid hnd
    clear hnd
    have hn62 : n < 62 := by omega
    have hge : n0 ≤ n := by have := HND.out; omega
    rw [show (((n + 1 : Nat)) : Int) = (n : Int) + 1 by omega]
    have HB := Lib.hid (bel1 w (.cells #[.int .i64 r.x, .int .i64 r.y, .int .i64 r.X, .int .i64 r.Y, .slice a 0 cp] 92))
    have HP0 := Lib.hid h
    have HP := Lib.hid (h.later HB.out)
    have HX := Lib.hid hx
    have HI := Lib.hid hi
    have HPR := Lib.hid hr
    have hk0 : Oc ((w.alloc (.cells #[.int .i64 r.x, .int .i64 r.y, .int .i64 r.X, .int .i64 r.Y, .slice a 0 cp] 92)).alloc (.cells #[.int .u32 0, .int .u32 0, .int .u32 0, .int .u32 0] 96)) sb g tb mb (w.heap.size + 1) (kO (0, 0, 0, 0)) := by
      have := Oc.new (h.later HB.out) #[.int .u32 0, .int .u32 0, .int .u32 0, .int .u32 0] 96
      rw [show (w.alloc (.cells #[.int .i64 r.x, .int .i64 r.y, .int .i64 r.X, .int .i64 r.Y, .slice a 0 cp] 92)).heap.size = w.heap.size + 1 by simp] at this
      exact this
    have HK := Lib.hid hk0
    have HB2 := Lib.hid (bel2 w (.cells #[.int .i64 r.x, .int .i64 r.y, .int .i64 r.X, .int .i64 r.Y, .slice a 0 cp] 92) (.cells #[.int .u32 0, .int .u32 0, .int .u32 0, .int .u32 0] 96))
    have hch : ((w.alloc (.cells #[.int .i64 r.x, .int .i64 r.y, .int .i64 r.X, .int .i64 r.Y, .slice a 0 cp] 92)).alloc (.cells #[.int .u32 0, .int .u32 0, .int .u32 0, .int .u32 0] 96)).heap[w.heap.size]? = some (chO r (.slice a 0 cp)) := keep8 (heap_alloc_new w _) (bel1 _ _)
    obtain ⟨c0, c1, c2, c3, c4⟩ := ch_cells hch
    have HKB : Hid (w.heap.size + 1 ≠ ab) := by
      show _ ≠ _
      have := h.alt; omega
    have HQU := Lib.hid (fun W => quarters_nil r n hn62 a cp W)
    have hne : ((n : Int) + 1 == (n0 : Int)) = false := by rw [beq_eq_false_iff_ne]; omega
    have HPL : Hid (3 - pl A B = pl (!A) (!B) ∧ pl A B < 4) := ⟨pl_across A B, pl_lt A B⟩
    clear h hx hi hr hk0 hch HP
    generalize hat : pl A B = at_ at *
    have HAT := Lib.hid hat
    clear hat
    go_enter Tryz.func73, Tryz.ntmps73
    go_wp2_with fail
    generalize (w.alloc (.cells #[.int .i64 r.x, .int .i64 r.y, .int .i64 r.X, .int .i64 r.Y, .slice a 0 cp] 92)).alloc (.cells #[.int .u32 0, .int .u32 0, .int .u32 0, .int .u32 0] 96) = W0 at *
    refine (HQU.out _).mono ?_
    rintro e W1 ⟨rfl, hb⟩
    unfold fourV
    have HPX1 := Lib.hid (Px.of_below HP0.out (HB2.out.trans (hb.mono HB2.out.size)))
    have HK1 := Lib.hid (HK.out.later hb)
    clear hb HK c0 c1 c2 c3 c4 HQU HB2 HB
    go_wp2_with fail
    have hF : ∃ F : Int → Int → Nat, F = Fi N n0 x A B (n + 1) r c := ⟨_, rfl⟩
    obtain ⟨F, hF⟩ := hF
    have HFF := Lib.hid hF
    clear hF
    go_loopg [15, 16, 17, 31] 4 (fun m v15 v16 v17 cnt wr => ∃ (j g8 : Nat) (M8 : List Nd) (f : Nat → Nat), m = 4 - j ∧ j ≤ 4 ∧ cnt = .int .i64 (j : Int) ∧ Px sb tb mb ab most P c w g N wr g8 M8 ∧ New8 N (n + 1) F M8 ∧ Oc wr sb g8 tb mb (w.heap.size + 1) (kO (mk4 f)) ∧ (∀ a b, pl a b < j → Con M8 n (f (pl a b)) (qF F n a b)))
    case atStart => exact ⟨0, g, N, fun _ => 0, rfl, Nat.zero_le _, rfl, HPX1.out, New8.refl _ _ _, HK1.out, fun a b h => by omega⟩
    case round =>
      clear HPX1 HK1
      obtain ⟨j, g8, M8, f, hm, hj, rfl, hpx, hnew, hk, hf2⟩ := hrel
      have HM := Lib.hid hm
      have HPX8 := Lib.hid hpx
      have HP8 := Lib.hid hpx.pn
      have HNW8 := Lib.hid hnew
      have HK8 := Lib.hid hk
      have HF2 := Lib.hid hf2
      clear hm hpx hnew hk hf2
      by_cases hlt : j < 4
      · have hgj : decide ((j : Int) < 4) = true := by simp; omega
        obtain ⟨a', b', hjp⟩ := pl_of hlt
        have hix := fix8 (qR r n) a' b'
        rw [← hjp] at hix
        have HJP := Lib.hid hjp
        clear hjp
        have HBR := Lib.hid (bel1 wr (.cells #[.int .i64 (qR r n a' b').x, .int .i64 (qR r n a' b').y, .int .i64 (qR r n a' b').X, .int .i64 (qR r n a' b').Y, .slice none 0 0] 92))
        have hcr : (wr.alloc (.cells #[.int .i64 (qR r n a' b').x, .int .i64 (qR r n a' b').y, .int .i64 (qR r n a' b').X, .int .i64 (qR r n a' b').Y, .slice none 0 0] 92)).heap[wr.heap.size]? = some (chO (qR r n a' b') (.slice none 0 0)) := heap_alloc_new wr _
        have HCR := Lib.hid hcr
        have HP9 := Lib.hid (HP8.out.later HBR.out)
        have HK9 := Lib.hid (HK8.out.later HBR.out)
        have hat4 := HPL.out.2
        have i1 : (0 : Int) ≤ (j : Int) := by omega
        have i2 : (j : Int) < 4 := by omega
        clear hcr
        go_upto_if 38 with fail
        generalize wr.alloc (.cells #[.int .i64 (qR r n a' b').x, .int .i64 (qR r n a' b').y, .int .i64 (qR r n a' b').X, .int .i64 (qR r n a' b').Y, .slice none 0 0] 92) = W2 at *
        obtain ⟨c0, c1, c2, c3, c4⟩ := ch_cells HCR.out
        go_cut [17] from 38 to 61 (fun v17 wx => ∃ (y g9 : Nat) (M9 : List Nd), (Px sb tb mb ab most P c w g N wx g9 M9 ∧ ∃ E, M9 = M8 ++ E) ∧ New8 M8 n (qF F n a' b') M9 ∧ Oc wx sb g9 tb mb (w.heap.size + 1) (kO (mk4 fun i => if i = j then y else f i)) ∧ ((v17 = .nilIface ∧ Con M9 n y (qF F n a' b')) ∨ (v17 = .iface 52 (.int .i64 7) ∧ most ≤ M9.length)))
        case first =>
          by_cases hab : a' = !A ∧ b' = !B
          · obtain ⟨rfl, rfl⟩ := hab
            have heq : ((j : Int) == 3 - (at_ : Int)) = true := by
              rw [beq_iff_eq]
              have h1 := HPL.out.1
              have h2 := HJP.out
              omega
            have HIN : Hid (Calls Tryz.prog 73 #[.pointer (some ⟨ab, 0, none⟩), .int .u32 (x : Int), .int .i64 (at_ : Int), .int .i64 (n0 : Int), .int .i64 (n : Int), .agg #[.int .i64 (qR r n (!A) (!B)).x, .int .i64 (qR r n (!A) (!B)).y, .int .i64 (qR r n (!A) (!B)).X, .int .i64 (qR r n (!A) (!B)).Y, .slice none 0 0]] W2 fun e w' => ∃ g' N', Px sb tb mb ab most P c wr g8 M8 w' g' N' ∧ Res8 most e M8 n (qF F n (!A) (!B)) N') := by
              obtain ⟨E, hE⟩ := HPX8.out.ext
              refine (ih HP9.out (by omega) (hE ▸ HX.out.app E) (qR_in r n _ _) (qR_pr HPR.out HI.out _ _) none 0).mono ?_
              rintro e w' ⟨g', N', h1, h2⟩
              refine ⟨g', N', (Px.of_below HP8.out HBR.out).trans h1, h2.of fun X Y hX hY => ?_⟩
              have hw8 := HP8.out.wf
              rw [hE] at hw8 ⊢
              rw [Fi_app HP0.out.wf E hw8 HX.out, HFF.out]
              exact Fi_in N n0 x n A B r c X Y hX hY
            go_wp2_with fail
            refine HIN.out.mono ?_
            clear HIN
            rintro e w9 ⟨g9, M9, hpx, hres⟩
            obtain ⟨y, ev, rfl, hn8, hres2⟩ := two8 hres
            have HRS := Lib.hid hres2
            have HN9 := Lib.hid hn8
            have HX9 := Lib.hid hpx
            clear hres hres2 hn8 hpx c0 c1 c2 c3 c4
            have HKP := Lib.hid (HK8.out.px HX9.out)
            obtain ⟨kc1, kc2⟩ := k_cell HKP.out.at_ hlt
            go_wp2_with fail
            go_meet
            have hks := HKP.out.set hlt y
            rw [show (mk4 fun i => if i = j then y else kAt (mk4 f) i) = mk4 (fun i => if i = j then y else f i) from mk4_ext fun i hi => by show (if i = j then y else kAt (mk4 f) i) = _; rw [kAt_mk4 _ hi]] at hks
            exact ⟨y, g9, M9, ⟨(HPX8.out.trans HX9.out).set HKP.out HKB.out (Nat.le_succ _) _, HX9.out.ext⟩, HN9.out, hks, HRS.out⟩
          · have heq : ((j : Int) == 3 - (at_ : Int)) = false := by
              rw [beq_eq_false_iff_ne]
              intro e
              apply hab
              have h1 := HPL.out.1
              have h2 := HJP.out
              exact pl_inj.1 (show pl a' b' = pl (!A) (!B) by omega)
            have HIN : Hid (Calls Tryz.prog 93 #[.pointer (some ⟨ab, 0, none⟩), .int .u32 0, .int .i64 (n : Int), .agg #[.int .i64 (qR r n a' b').x, .int .i64 (qR r n a' b').y, .int .i64 (qR r n a' b').X, .int .i64 (qR r n a' b').Y, .slice none 0 0]] W2 fun e w' => ∃ g' N', Px sb tb mb ab most P c wr g8 M8 w' g' N' ∧ Res8 most e M8 n (qF F n a' b') N') := by
              obtain ⟨E, hE⟩ := HPX8.out.ext
              refine (paint_nil sb tb mb ab most P c hc n HP9.out (x := 0) (by omega) (Or.inl rfl) (qR_in r n a' b') (qR_pr HPR.out HI.out a' b') none 0).mono ?_
              rintro e w' ⟨g', N', h1, h2⟩
              refine ⟨g', N', (Px.of_below HP8.out HBR.out).trans h1, h2.of fun X Y hX hY => ?_⟩
              have hw8 := HP8.out.wf
              rw [hE] at hw8 ⊢
              rw [Tc_app HP0.out.wf E hw8 (Or.inl rfl), HFF.out]
              exact Fi_out N HP0.out.wf n0 x n hge A B r c a' b' hab X Y hX hY
            go_wp2_with fail
            refine HIN.out.mono ?_
            clear HIN
            rintro e w9 ⟨g9, M9, hpx, hres⟩
            obtain ⟨y, ev, rfl, hn8, hres2⟩ := two8 hres
            have HRS := Lib.hid hres2
            have HN9 := Lib.hid hn8
            have HX9 := Lib.hid hpx
            clear hres hres2 hn8 hpx c0 c1 c2 c3 c4
            have HKP := Lib.hid (HK8.out.px HX9.out)
            obtain ⟨kc1, kc2⟩ := k_cell HKP.out.at_ hlt
            go_wp2_with fail
            go_meet
            have hks := HKP.out.set hlt y
            rw [show (mk4 fun i => if i = j then y else kAt (mk4 f) i) = mk4 (fun i => if i = j then y else f i) from mk4_ext fun i hi => by show (if i = j then y else kAt (mk4 f) i) = _; rw [kAt_mk4 _ hi]] at hks
            exact ⟨y, g9, M9, ⟨(HPX8.out.trans HX9.out).set HKP.out HKB.out (Nat.le_succ _) _, HX9.out.ext⟩, HN9.out, hks, HRS.out⟩
        case rest =>
          obtain ⟨y, g9, M9, hpx, hnew, hk, hres⟩ := hcut
          have HPX9 := Lib.hid hpx.1
          have HEX : Hid (∃ E, M9 = M8 ++ E) := hpx.2
          have HK10 := Lib.hid hk
          have HNW9 := Lib.hid (HNW8.out.trans HP8.out.wf hnew.up)
          have HWF8 := Lib.hid HP8.out.wf
          clear hpx hnew hk c0 c1 c2 c3 c4 HK8 HNW8 HPX8 HP8 hix HK9 HP9 HCR HBR
          rcases hres with ⟨rfl, hcon⟩ | ⟨rfl, hfull⟩
          · have HC := Lib.hid hcon
            clear hcon
            go_wp2_with fail
            go_roundg (4 - (j + 1))
            case measure => rw [HM.out]; omega
            case rel =>
              refine ⟨j + 1, g9, M9, _, rfl, by omega, by go_num, HPX9.out, HNW9.out, HK10.out, fun a1 b1 hab => ?_⟩
              by_cases e : pl a1 b1 = j
              · simp only [e, if_true]
                have e2 : pl a1 b1 = pl a' b' := e.trans HJP.out
                obtain ⟨rfl, rfl⟩ := pl_inj.1 e2
                exact HC.out
              · simp only [if_neg e]
                obtain ⟨E, rfl⟩ := HEX.out
                exact (HF2.out a1 b1 (by omega)).app HWF8.out E
          · have HC := Lib.hid hfull
            clear hfull
            go_wp2_with fail
            go_ret2
            rw [← HFF.out]
            exact ⟨g9, M9, HPX9.out, HNW9.out, Or.inr ⟨rfl, HC.out⟩⟩
      · obtain rfl : j = 4 := by omega
        have hgs : decide (((4 : Nat) : Int) < 4) = false := by simp
        have HCN : Hid (∀ r1 b1, Con M8 n (pick (mk4 f) r1 b1) (qF F n r1 b1)) := fun r1 b1 => by
          rw [pick_kAt, kAt_mk4 _ (pl_lt _ _)]
          exact HF2.out r1 b1 (pl_lt _ _)
        generalize hkk : mk4 f = kk at *
        clear HF2 hkk
        have HMK : Hid (∀ W, Below wr.heap.size wr W → Calls Tryz.prog 74 #[.pointer (some ⟨sb, 0, none⟩), .agg #[.int .u32 (kk.1 : Int), .int .u32 (kk.2.1 : Int), .int .u32 (kk.2.2.1 : Int), .int .u32 (kk.2.2.2 : Int)]] W fun e w' => ∃ g' N', Px sb tb mb ab most P c wr g8 M8 w' g' N' ∧ Res8 most e M8 (n + 1) F N') := fun W hb => by
          refine (make_con (HP8.out.later hb) hn62 HCN.out).mono ?_
          rintro e w' ⟨g', N', h1, h2⟩
          exact ⟨g', N', (Px.of_below HP8.out hb).trans h1, h2⟩
        obtain ⟨p0, p1, p2⟩ := pn_cells HP8.out.pt
        obtain ⟨k1, k2, k3, k4⟩ := k_cells HK8.out.at_
        go_upto_region 14 with fail
        go_region_with (first
          | (go_at_call 74; refine (HMK.out _ (below_drewN (Below.refl _ wr) 1)).mono ?_; rintro e w9 ⟨g9, M9, hpx, hres⟩; have HRS := Lib.hid hres; obtain ⟨y, ev, rfl, hn8, hres2⟩ := two8 hres; have HX9 := Lib.hid hpx; clear hres hres2 hn8 hpx))
        all_goals go_wp2_with fail
        all_goals go_ret2
        all_goals
          rw [← HFF.out]
          exact ⟨g9, M9, HPX8.out.trans HX9.out, HNW8.out.trans HP8.out.wf HRS.out.1, HRS.out.2⟩
end Go.Proofs.YtnfjmmkokhncoaaGreat
