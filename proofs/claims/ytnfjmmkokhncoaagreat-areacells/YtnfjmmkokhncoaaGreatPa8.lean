/- Package area: paint of a change with cells: contract. -/
import Derived.Test.YtnfjmmkokhncoaaGreatQd8
import Derived.Test.YtnfjmmkokhncoaaGreatIn8
namespace Go.Proofs.YtnfjmmkokhncoaaGreat
open Go.RowKit Go.Maps
set_option maxRecDepth 100000

/-- A row of points that no painter's call turns. -/
def Kq (w : World) (B g : Nat) (v : Value) (l : List (Int × Int)) : Prop := ∃ a cap, v = .slice a l.length cap ∧ Rk8 w a l ∧ ∀ bk off, a = some ⟨bk, off, none⟩ → B ≤ bk ∧ bk < w.heap.size ∧ bk ≠ g
theorem Kq.of {w : World} {B g : Nat} {v : Value} {l : List (Int × Int)} (h : OwG w B v l) (hg : g < B) : Kq w B g v l := by
  obtain ⟨a, cap, hv, h1, h2⟩ := h.rk
  exact ⟨a, cap, hv, h1, fun bk off e => by obtain ⟨x1, x2⟩ := h2 bk off e; exact ⟨x1, x2, by omega⟩⟩
theorem Kq.keep {w w' : World} {B g g' : Nat} {v : Value} {l : List (Int × Int)} (h : Kq w B g v l) (hs : w.heap.size ≤ w'.heap.size) (hg : g' = g ∨ w.heap.size ≤ g') (hk : ∀ b, B ≤ b → b < w.heap.size → b ≠ g → w'.heap[b]? = w.heap[b]?) : Kq w' B g' v l := by
  obtain ⟨a, cap, hv, h1, h2⟩ := h
  refine ⟨a, cap, hv, fun j c hc => ?_, fun bk off e => ?_⟩
  · obtain ⟨bk, off, e, x0, x1⟩ := h1 j c hc
    obtain ⟨y1, y2, y3⟩ := h2 bk off e
    have hb := hk bk y1 y2 y3
    exact ⟨bk, off, e, (World.cell?_of_block (w := w) hb).trans x0, (World.cell?_of_block (w := w) hb).trans x1⟩
  · obtain ⟨y1, y2, y3⟩ := h2 bk off e
    exact ⟨y1, by omega, by rcases hg with e | e <;> omega⟩
theorem Kq.px {w w' : World} {sb tb mb ab most c g g' B : Nat} {N N' : List Nd} {P : R4} {v : Value} {l : List (Int × Int)} (h : Kq w B g v l) (hn : Px sb tb mb ab most P c w g N w' g' N') (h1 : sb < B) (h2 : tb < B) (h3 : mb < B) : Kq w' B g' v l :=
  h.keep hn.frm.size hn.gin fun b hb hlt hne => hn.frm.block b hlt (by simp; omega)
theorem Kq.later {w w' : World} {B g : Nat} {v : Value} {l : List (Int × Int)} (h : Kq w B g v l) (hb : Below w.heap.size w w') : Kq w' B g v l := h.keep hb.size (Or.inl rfl) fun b _ hlt _ => hb.block b hlt
theorem Kq.other {w : World} {B g : Nat} {v : Value} {l : List (Int × Int)} (h : Kq w B g v l) {p : Addr} (hp : p.block < B) (u : Value) : Kq (w.setCell p u) B g v l := h.keep (by simp) (Or.inl rfl) fun b hb _ _ => Below.heap_setCell _ _ _ _ (by omega)
theorem qq_pl (r : R4) (n : Nat) (a b : Bool) : qq r n (pl a b) = qR r n a b := by cases a <;> cases b <;> rfl
theorem fixC0 (q : Nat → R4) (v : Nat → Value) (w : World) : (Instr.index 138 (.agg (fourC q v)) (.int .i64 0)).run Tryz.prog w = .ok (.agg #[.int .i64 (q 0).x, .int .i64 (q 0).y, .int .i64 (q 0).X, .int .i64 (q 0).Y, v 0]) w := by kernel_rfl
theorem fixC1 (q : Nat → R4) (v : Nat → Value) (w : World) : (Instr.index 138 (.agg (fourC q v)) (.int .i64 1)).run Tryz.prog w = .ok (.agg #[.int .i64 (q 1).x, .int .i64 (q 1).y, .int .i64 (q 1).X, .int .i64 (q 1).Y, v 1]) w := by kernel_rfl
theorem fixC2 (q : Nat → R4) (v : Nat → Value) (w : World) : (Instr.index 138 (.agg (fourC q v)) (.int .i64 2)).run Tryz.prog w = .ok (.agg #[.int .i64 (q 2).x, .int .i64 (q 2).y, .int .i64 (q 2).X, .int .i64 (q 2).Y, v 2]) w := by kernel_rfl
theorem fixC3 (q : Nat → R4) (v : Nat → Value) (w : World) : (Instr.index 138 (.agg (fourC q v)) (.int .i64 3)).run Tryz.prog w = .ok (.agg #[.int .i64 (q 3).x, .int .i64 (q 3).y, .int .i64 (q 3).X, .int .i64 (q 3).Y, v 3]) w := by kernel_rfl
theorem fixC (q : Nat → R4) (v : Nat → Value) {i : Nat} (hi : i < 4) (w : World) : (Instr.index 138 (.agg (fourC q v)) (.int .i64 (i : Int))).run Tryz.prog w = .ok (.agg #[.int .i64 (q i).x, .int .i64 (q i).y, .int .i64 (q i).X, .int .i64 (q i).Y, v i]) w :=
  match i, hi with
  | 0, _ => fixC0 q v w
  | 1, _ => fixC1 q v w
  | 2, _ => fixC2 q v w
  | 3, _ => fixC3 q v w
set_option maxHeartbeats 8000000 in
theorem paint_any (sb tb mb ab most : Nat) (P : R4) (c : Nat) (hc : c ≤ 1) : ∀ (n : Nat) {w : World} {g : Nat} {N : List Nd} (_ : Pn w sb g tb mb ab most N P c) {x : Nat} {r : R4} (_ : n ≤ 62) (_ : Sq0 N n x) (_ : RIn n r) (_ : Pr P n r) (L : List (Int × Int)) (_ : L.length ≤ 100000) (_ : LIn n L) (a : Option Addr) (cp : Nat) (_ : Rk8 w a L),
    Calls Tryz.prog 93 #[.pointer (some ⟨ab, 0, none⟩), .int .u32 (x : Int), .int .i64 (n : Int), .agg #[.int .i64 r.x, .int .i64 r.y, .int .i64 r.X, .int .i64 r.Y, .slice a L.length cp]] w fun e w' => ∃ g' N', Px sb tb mb ab most P c w g N w' g' N' ∧ Res8 most e N n (Tc N n x r c L) N' := by
  intro n
  induction n with
  | zero =>
    intro w g N h x r hn hx hi hr L hl hL a cp hR
    by_cases hL0 : L = []
    · subst hL0
      exact paint_nil sb tb mb ab most P c hc 0 h hn hx hi hr a cp
    have HB := Lib.hid (bel1 w (.cells #[.int .i64 r.x, .int .i64 r.y, .int .i64 r.X, .int .i64 r.Y, .slice a L.length cp] 92))
    have HP0 := Lib.hid h
    have hch : (w.alloc (.cells #[.int .i64 r.x, .int .i64 r.y, .int .i64 r.X, .int .i64 r.Y, .slice a L.length cp] 92)).heap[w.heap.size]? = some (chO r (.slice a L.length cp)) := heap_alloc_new w _
    obtain ⟨c0, c1, c2, c3, c4⟩ := ch_cells hch
    have hlz : ((L.length : Int) == 0) = false := by rw [beq_eq_false_iff_ne]; intro e; exact hL0 (List.eq_nil_of_length_eq_zero (by omega))
    have HLI := Lib.hid hL
    have HL0 := Lib.hid hL0
    clear h hx hi hr hL hL0 hR hch hl
    rw [show (((0 : Nat) : Int)) = 0 from rfl]
    go_enter Tryz.func93, Tryz.ntmps93
    go_wp2_with fail
    go_ret2
    refine ⟨g, N, Px.of_below HP0.out HB.out, New8.refl _ _ _, Or.inl ⟨1, rfl, sq_alive HP0.out.wf, fun X Y hX hY => ?_⟩⟩
    show 1 = _
    obtain ⟨p, hp⟩ := List.exists_mem_of_ne_nil _ HL0.out
    obtain ⟨h1, h2⟩ := HLI.out p hp
    have e0 : (2 : Int) ^ 0 = 1 := rfl
    rw [e0] at hX hY h1 h2
    have : p = (X, Y) := Prod.ext (by show p.1 = X; omega) (by show p.2 = Y; omega)
    unfold Tc
    rw [if_pos (this ▸ hp)]
  | succ n ih =>
    intro w g N h x r hn hx hi hr L hl hL a cp hR
    by_cases hL0 : L = []
    · subst hL0
      exact paint_nil sb tb mb ab most P c hc (n + 1) h hn hx hi hr a cp
    have hn62 : n < 62 := by omega
    rw [show (((n + 1 : Nat)) : Int) = (n : Int) + 1 by omega]
    have HB := Lib.hid (bel1 w (.cells #[.int .i64 r.x, .int .i64 r.y, .int .i64 r.X, .int .i64 r.Y, .slice a L.length cp] 92))
    have HP0 := Lib.hid h
    have HP := Lib.hid (h.later HB.out)
    have ho : Oc (w.alloc (.cells #[.int .i64 r.x, .int .i64 r.y, .int .i64 r.X, .int .i64 r.Y, .slice a L.length cp] 92)) sb g tb mb w.heap.size (chO r (.slice a L.length cp)) := Oc.new h _ _
    have HO := Lib.hid ho
    have HR := Lib.hid (hR.later HB.out)
    have HX := Lib.hid hx
    have HI := Lib.hid hi
    have HPR := Lib.hid hr
    have HLI := Lib.hid hL
    have HLL := Lib.hid hl
    have HFO := Lib.hid (four_any HP.out hx)
    have HQU := Lib.hid (fun W (h : Rk8 W a L) => quarters_any r n hn62 L hl hL a cp W h)
    have h0 : ((n : Int) + 1 == 0) = false := by rw [beq_eq_false_iff_ne]; omega
    have hlz : ((L.length : Int) == 0) = false := by rw [beq_eq_false_iff_ne]; intro e; exact hL0 (List.eq_nil_of_length_eq_zero (by omega))
    obtain ⟨c0, c1, c2, c3, c4⟩ := ch_cells HO.out.at_
    clear h hx hi hr hL hL0 hR ho hl
    go_enter Tryz.func93, Tryz.ntmps93
    go_wp2_with fail
    generalize w.alloc (.cells #[.int .i64 r.x, .int .i64 r.y, .int .i64 r.X, .int .i64 r.Y, .slice a L.length cp] 92) = W0 at *
    refine HFO.out.mono ?_
    rintro e w6 ⟨rfl, hb⟩
    have HP6 := Lib.hid (HP.out.later hb)
    have HPX6 := Lib.hid ((Px.of_below HP0.out HB.out).trans (Px.of_below HP.out hb))
    have HO6 := Lib.hid (HO.out.later hb)
    have HR6 := Lib.hid (HR.out.later hb)
    clear hb HP HO HR HFO HB c0 c1 c2 c3 c4
    generalize hkd : kidZ N x = k0 at *
    have HKD := Lib.hid hkd
    clear hkd
    have hk0 : Oc (w6.alloc (.cells #[.int .u32 (k0.1 : Int), .int .u32 (k0.2.1 : Int), .int .u32 (k0.2.2.1 : Int), .int .u32 (k0.2.2.2 : Int)] 96)) sb g tb mb w6.heap.size (kO k0) := Oc.new HP6.out _ _
    have HK7 := Lib.hid hk0
    have hb7 := bel1 w6 (.cells #[.int .u32 (k0.1 : Int), .int .u32 (k0.2.1 : Int), .int .u32 (k0.2.2.1 : Int), .int .u32 (k0.2.2.2 : Int)] 96)
    have HPX7 := Lib.hid (HPX6.out.trans (Px.of_below HP6.out hb7))
    have HP7 := Lib.hid (HP6.out.later hb7)
    have HO7 := Lib.hid (HO6.out.later hb7)
    have HR7 := Lib.hid (HR6.out.later hb7)
    have HKB : Hid (w.heap.size ≤ w6.heap.size ∧ w6.heap.size ≠ ab) := ⟨HPX6.out.frm.size, by have := HP6.out.alt; omega⟩
    obtain ⟨c0, c1, c2, c3, c4⟩ := ch_cells HO7.out.at_
    clear hk0 hb7 HP6 HPX6 HO6 HR6
    go_wp2_with fail
    generalize w6.alloc (.cells #[.int .u32 (k0.1 : Int), .int .u32 (k0.2.1 : Int), .int .u32 (k0.2.2.1 : Int), .int .u32 (k0.2.2.2 : Int)] 96) = W7 at *
    generalize w6.heap.size = kb at *
    refine (HQU.out _ HR7.out).mono ?_
    rintro e w8 ⟨v, rfl, hq4, hb⟩
    have HPX8 := Lib.hid (HPX7.out.trans (Px.of_below HP7.out hb))
    have HK8 := Lib.hid (HK7.out.later hb)
    obtain ⟨B, hB⟩ : ∃ B, B = W7.heap.size := ⟨_, rfl⟩
    have HBB : Hid (sb < B ∧ tb < B ∧ mb < B ∧ kb < B) := by
      obtain ⟨cap, hs⟩ := HP7.out.st
      obtain ⟨l1, l2, l3⟩ := hs.lt
      have l4 := HP7.out.mlt
      have l5 := HK7.out.lt
      rw [hB]; exact ⟨l1, l3, l4, l5⟩
    have HKQ : Hid (∀ i, i < 4 → Kq w8 B g (v i) (lq L n i)) := fun i hi => by
      obtain ⟨cap, hs⟩ := HP7.out.st
      obtain ⟨l1, l2, l3⟩ := hs.lt
      rw [hB]
      exact Kq.of (hq4.own i hi) l2
    clear hq4 hb hB HP7 HPX7 HO7 HR7 HK7 HQU c0 c1 c2 c3 c4
    obtain ⟨F, hF⟩ : ∃ F : Int → Int → Nat, F = Tc N (n + 1) x r c L := ⟨_, rfl⟩
    have HFF := Lib.hid hF
    clear hF
    go_wp2_with fail
    go_loopg [11, 12, 13, 14, 36] 4 (fun m v11 v12 v13 v14 cnt wr => ∃ (j g8 : Nat) (M8 : List Nd) (f : Nat → Nat), m = 4 - j ∧ j ≤ 4 ∧ cnt = .int .i64 (j : Int) ∧ Px sb tb mb ab most P c w g N wr g8 M8 ∧ New8 N (n + 1) F M8 ∧ Oc wr sb g8 tb mb kb (kO (mk4 f)) ∧ (∀ i, j ≤ i → i < 4 → f i = kAt k0 i) ∧ (∀ a b, pl a b < j → Con M8 n (f (pl a b)) (qF F n a b)) ∧ (∀ i, i < 4 → Kq wr B g8 (v i) (lq L n i)))
    case atStart => exact ⟨0, g, N, kAt k0, rfl, Nat.zero_le _, rfl, HPX8.out, New8.refl _ _ _, HK8.out, fun i _ _ => rfl, fun a b h => by omega, HKQ.out⟩
    case round =>
      clear HPX8 HK8 HKQ
      obtain ⟨j, g8, M8, f, hm, hj, rfl, hpx, hnew, hk, hf1, hf2, hkq⟩ := hrel
      have HM := Lib.hid hm
      have HPX8 := Lib.hid hpx
      have HP8 := Lib.hid hpx.pn
      have HNW8 := Lib.hid hnew
      have HK8 := Lib.hid hk
      have HF1 := Lib.hid hf1
      have HF2 := Lib.hid hf2
      have HKQ := Lib.hid hkq
      clear hm hpx hnew hk hf1 hf2 hkq
      by_cases hlt : j < 4
      · have hgj : decide ((j : Int) < 4) = true := by simp; omega
        obtain ⟨a', b', hjp⟩ := pl_of hlt
        obtain ⟨aj, capj, hvj, hrk, hbk⟩ := HKQ.out j hlt
        have hix := fixC (qq r n) v hlt
        have hqj : qq r n j = qR r n a' b' := by rw [hjp, qq_pl]
        rw [hqj, hvj] at hix
        have HJP := Lib.hid hjp
        have HFJ : Hid (kAt (mk4 f) j = kAt k0 j) := by
          show _ = _
          rw [kAt_mk4 _ hlt]; exact HF1.out j (Nat.le_refl _) hlt
        have HS8 : Hid (Sq0 N n (kAt k0 j)) := by
          show Sq0 _ _ _
          rw [hjp, ← pick_kAt k0 a' b', ← HKD.out]; exact HX.out.kid HP0.out.wf a' b'
        have hlj : (lq L n j).length ≤ 100000 := Nat.le_trans (lq_len L n j) HLL.out
        have hLj : LIn n (lq L n j) := by rw [hjp, lq_pl]; exact qL_in L n a' b'
        have HIH : Hid (∀ W, Below wr.heap.size wr W → Calls Tryz.prog 93 #[.pointer (some ⟨ab, 0, none⟩), .int .u32 (kAt k0 j : Int), .int .i64 (n : Int), .agg #[.int .i64 (qR r n a' b').x, .int .i64 (qR r n a' b').y, .int .i64 (qR r n a' b').X, .int .i64 (qR r n a' b').Y, .slice aj (lq L n j).length capj]] W fun e w' => ∃ g' N', Px sb tb mb ab most P c wr g8 M8 w' g' N' ∧ Res8 most e M8 n (qF F n a' b') N') := fun W hb => by
          obtain ⟨E, hE⟩ := HPX8.out.ext
          refine (ih (HP8.out.later hb) (by omega) (hE ▸ HS8.out.app E) (qR_in r n a' b') (qR_pr HPR.out HI.out a' b') (lq L n j) hlj hLj aj capj (hrk.later hb)).mono ?_
          rintro e w' ⟨g', N', h1, h2⟩
          refine ⟨g', N', (Px.of_below HP8.out hb).trans h1, h2.of fun X Y hX hY => ?_⟩
          have hw8 := HP8.out.wf
          rw [hE] at hw8 ⊢
          rw [Tc_app HP0.out.wf E hw8 HS8.out, HFF.out, hjp, lq_pl, ← pick_kAt k0 a' b', ← HKD.out]
          exact Tc_q HLI.out a' b' hX hY
        clear hlj hLj HS8 hqj hrk hbk hvj hjp
        generalize qR r n a' b' = q at *
        generalize (lq L n j).length = mj at *
        generalize kAt k0 j = x1 at *
        have HBR := Lib.hid (bel1 wr (.cells #[.int .i64 q.x, .int .i64 q.y, .int .i64 q.X, .int .i64 q.Y, .slice aj mj capj] 92))
        have hcr : (wr.alloc (.cells #[.int .i64 q.x, .int .i64 q.y, .int .i64 q.X, .int .i64 q.Y, .slice aj mj capj] 92)).heap[wr.heap.size]? = some (chO q (.slice aj mj capj)) := heap_alloc_new wr _
        have HCR := Lib.hid hcr
        have HK9 := Lib.hid (HK8.out.later HBR.out)
        have i1 : (0 : Int) ≤ (j : Int) := by omega
        have i2 : (j : Int) < 4 := by omega
        have hw1 : IntKind.i64.wrap (n : Int) = (n : Int) := IntWalk.i64_in _ (by omega)
        clear hcr
        go_upto_region 9 with fail
        generalize wr.alloc (.cells #[.int .i64 q.x, .int .i64 q.y, .int .i64 q.X, .int .i64 q.Y, .slice aj mj capj] 92) = W2 at *
        go_cut [13, 14] from 40 to 50 (fun v13 v14 wx => ∃ (y g9 : Nat) (M9 : List Nd), Px sb tb mb ab most P c wr g8 M8 wx g9 M9 ∧ v13 = .int .u32 (y : Int) ∧ New8 M8 n (qF F n a' b') M9 ∧ ((v14 = .nilIface ∧ Con M9 n y (qF F n a' b')) ∨ (v14 = .iface 52 (.int .i64 7) ∧ most ≤ M9.length)))
        case first =>
          refine region_sq 7 (fun W => Below W2.heap.size W2 W) [(0, 1), (1, 1), (2, 1), (3, 2), (4, 1), (5, 1), (6, 2), (7, 3), (8, 1), (9, 1), (10, 1), (11, 1), (12, 1)] (by kernel_rfl) (by kernel_rfl) rfl (by intro c a d v w h; cases d <;> exact h) (by kernel_rfl) (below_drewN (Below.refl _ W2) 1) ?_
          refine ⟨_, ?_, rfl, by rfl, ?_, ?_⟩
          rotate_left
          · intro W; go_simp; first | done | rfl
          conv => arg 6; simp only [Act.put, List.setIfInBounds_toArray, List.set_cons_zero, List.set_cons_succ]
          refine ⟨_, ?_, rfl, by rfl, ?_, ?_⟩
          rotate_left
          · intro W; go_simp; first | done | rfl
          conv => arg 6; simp only [Act.put, List.setIfInBounds_toArray, List.set_cons_zero, List.set_cons_succ]
          refine ⟨_, ?_, rfl, by rfl, ?_, ?_⟩
          rotate_left
          · intro W; go_simp; first | done | rfl
          conv => arg 6; simp only [Act.put, List.setIfInBounds_toArray, List.set_cons_zero, List.set_cons_succ]
          refine ⟨_, ?_, rfl, by rfl, ?_, ?_⟩
          rotate_left
          · intro W hW
            have y := ch_cells (keep8 HCR.out hW)
            obtain ⟨y0, y1, y2, y3, y4⟩ := y
            have z := k_cell (HK9.out.later hW).at_ hlt
            rw [HFJ.out] at z
            obtain ⟨z0, z1⟩ := z
            go_simp; first | done | rfl
          conv => arg 6; simp only [Act.put, List.setIfInBounds_toArray, List.set_cons_zero, List.set_cons_succ]
          refine ⟨_, ?_, rfl, by rfl, ?_, ?_⟩
          rotate_left
          · intro W; go_simp; first | done | rfl
          conv => arg 6; simp only [Act.put, List.setIfInBounds_toArray, List.set_cons_zero, List.set_cons_succ]
          refine ⟨_, ?_, rfl, by rfl, ?_, ?_⟩
          rotate_left
          · intro W; go_simp; first | done | rfl
          conv => arg 6; simp only [Act.put, List.setIfInBounds_toArray, List.set_cons_zero, List.set_cons_succ]
          refine ⟨_, ?_, rfl, by rfl, ?_, ?_⟩
          rotate_left
          · intro W hW
            have y := ch_cells (keep8 HCR.out hW)
            obtain ⟨y0, y1, y2, y3, y4⟩ := y
            have z := k_cell (HK9.out.later hW).at_ hlt
            rw [HFJ.out] at z
            obtain ⟨z0, z1⟩ := z
            go_simp; first | done | rfl
          conv => arg 6; simp only [Act.put, List.setIfInBounds_toArray, List.set_cons_zero, List.set_cons_succ]
          refine ⟨_, rfl, by rfl, fun K hK => ?_⟩
          go_simp
          refine (HIH.out _ (HBR.out.trans ((below_drewN (Below.refl _ W2) 1).mono HBR.out.size))).mono ?_
          rintro e w9 ⟨g9, M9, hpx, hres⟩
          obtain ⟨y, ev, rfl, hn8, hres2⟩ := two8 hres
          have HRS := Lib.hid hres2
          have HN9 := Lib.hid hn8
          have HX9 := Lib.hid hpx
          clear hres hres2 hn8 hpx
          refine hK _ _ ?_
          clear hK K
          conv => arg 6; simp only [Act.put, List.setIfInBounds_toArray, List.set_cons_zero, List.set_cons_succ]
          refine ⟨_, ?_, rfl, by rfl, ?_, ?_⟩
          rotate_left
          · intro W; go_simp; first | done | rfl
          conv => arg 6; simp only [Act.put, List.setIfInBounds_toArray, List.set_cons_zero, List.set_cons_succ]
          refine ⟨_, ?_, rfl, by rfl, ?_, ?_⟩
          rotate_left
          · intro W; go_simp; first | done | rfl
          conv => arg 6; simp only [Act.put, List.setIfInBounds_toArray, List.set_cons_zero, List.set_cons_succ]
          refine ⟨_, ?_, rfl, by rfl, ?_, ?_⟩
          rotate_left
          · intro W; go_simp; first | done | rfl
          conv => arg 6; simp only [Act.put, List.setIfInBounds_toArray, List.set_cons_zero, List.set_cons_succ]
          refine ⟨_, ?_, rfl, by rfl, ?_, ?_⟩
          rotate_left
          · intro W; go_simp; first | done | rfl
          conv => arg 6; simp only [Act.put, List.setIfInBounds_toArray, List.set_cons_zero, List.set_cons_succ]
          refine ⟨_, ?_, rfl, by rfl, ?_, ?_⟩
          rotate_left
          · intro W; go_simp; first | done | rfl
          conv => arg 6; simp only [Act.put, List.setIfInBounds_toArray, List.set_cons_zero, List.set_cons_succ]
          unfold wpSq
          all_goals go_wp2
          all_goals go_meet
          all_goals exact ⟨y, g9, M9, HX9.out, rfl, HN9.out, HRS.out⟩
        case rest =>
          obtain ⟨y, g9, M9, hpx, rfl, hnew, hres⟩ := hcut
          have HPX9 := Lib.hid (HPX8.out.trans hpx)
          have HEX : Hid (∃ E, M9 = M8 ++ E) := hpx.ext
          have HK10 := Lib.hid (HK8.out.px hpx)
          have HNW9 := Lib.hid (HNW8.out.trans HP8.out.wf hnew.up)
          have HWF8 := Lib.hid HP8.out.wf
          have HKQ9 : Hid (∀ i, i < 4 → Kq wc B g9 (v i) (lq L n i)) := fun i hi => (HKQ.out i hi).px hpx HBB.out.1 HBB.out.2.1 HBB.out.2.2.1
          clear hpx hnew HIH HK8 HNW8 HPX8 HP8 hix HK9 HCR HBR HKQ
          rcases hres with ⟨rfl, hcon⟩ | ⟨rfl, hfull⟩
          · have HC := Lib.hid hcon
            clear hcon
            obtain ⟨kc1, kc2⟩ := k_cell HK10.out.at_ hlt
            go_wp2_with fail
            go_roundg (4 - (j + 1))
            case measure => rw [HM.out]; omega
            case rel =>
              have hks := HK10.out.set hlt y
              rw [show (mk4 fun i => if i = j then y else kAt (mk4 f) i) = mk4 (fun i => if i = j then y else f i) from mk4_ext fun i hi => by show (if i = j then y else kAt (mk4 f) i) = _; rw [kAt_mk4 _ hi]] at hks
              refine ⟨j + 1, g9, M9, _, rfl, by omega, by go_num, HPX9.out.set HK10.out HKB.out.2 HKB.out.1 _, HNW9.out, hks, fun i hi hi4 => ?_, fun a1 b1 hab => ?_, fun i hi => (HKQ9.out i hi).other HBB.out.2.2.2 _⟩
              · show (if i = j then y else f i) = _
                rw [if_neg (by omega)]; exact HF1.out i (by omega) hi4
              · by_cases e : pl a1 b1 = j
                · simp only [e, if_true]
                  have e2 : pl a1 b1 = pl a' b' := e.trans HJP.out
                  obtain ⟨rfl, rfl⟩ := pl_inj.1 e2
                  exact HC.out
                · simp only [if_neg e]
                  obtain ⟨E, rfl⟩ := HEX.out
                  exact (HF2.out a1 b1 (by omega)).app HWF8.out E
          · have HC := Lib.hid hfull
            clear hfull
            go_wp2_with fail
            go_ret2
            rw [← HFF.out]
            exact ⟨g9, M9, HPX9.out, HNW9.out, Or.inr ⟨rfl, HC.out⟩⟩
      · obtain rfl : j = 4 := by omega
        have hgs : decide (((4 : Nat) : Int) < 4) = false := by simp
        have HCN : Hid (∀ r1 b1, Con M8 n (pick (mk4 f) r1 b1) (qF F n r1 b1)) := fun r1 b1 => by
          rw [pick_kAt, kAt_mk4 _ (pl_lt _ _)]
          exact HF2.out r1 b1 (pl_lt _ _)
        generalize hkk : mk4 f = kk at *
        clear HF1 HF2 hkk
        have HMK : Hid (∀ W, Below wr.heap.size wr W → Calls Tryz.prog 74 #[.pointer (some ⟨sb, 0, none⟩), .agg #[.int .u32 (kk.1 : Int), .int .u32 (kk.2.1 : Int), .int .u32 (kk.2.2.1 : Int), .int .u32 (kk.2.2.2 : Int)]] W fun e w' => ∃ g' N', Px sb tb mb ab most P c wr g8 M8 w' g' N' ∧ Res8 most e M8 (n + 1) F N') := fun W hb => by
          refine (make_con (HP8.out.later hb) hn62 HCN.out).mono ?_
          rintro e w' ⟨g', N', h1, h2⟩
          exact ⟨g', N', (Px.of_below HP8.out hb).trans h1, h2⟩
        obtain ⟨p0, p1, p2⟩ := pn_cells HP8.out.pt
        obtain ⟨k1, k2, k3, k4⟩ := k_cells HK8.out.at_
        go_upto_region 14 with fail
        go_region_with (first
          | (go_at_call 74; refine (HMK.out _ (below_drewN (Below.refl _ wr) 1)).mono ?_; rintro e w9 ⟨g9, M9, hpx, hres⟩; have HRS := Lib.hid hres; obtain ⟨y, ev, rfl, hn8, hres2⟩ := two8 hres; have HX9 := Lib.hid hpx; clear hres hres2 hn8 hpx))
        all_goals go_wp2_with fail
        all_goals go_ret2
        all_goals
          rw [← HFF.out]
          exact ⟨g9, M9, HPX8.out.trans HX9.out, HNW8.out.trans HP8.out.wf HRS.out.1, HRS.out.2⟩
end Go.Proofs.YtnfjmmkokhncoaaGreat
