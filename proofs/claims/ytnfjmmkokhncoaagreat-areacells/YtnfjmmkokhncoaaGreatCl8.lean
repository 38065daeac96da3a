/- Package area: the finder's cells: contract. -/
import Derived.Test.YtnfjmmkokhncoaaGreatM28
import Derived.Maps.AppendAt
namespace Go.Proofs.YtnfjmmkokhncoaaGreat
open Go.RowKit Go.Maps
set_option maxRecDepth 100000

theorem sh_sh (a b c d : Int) (l : List (Int × Int)) : sh a b (sh c d l) = sh (a + c) (b + d) l := by
  unfold sh
  rw [List.map_map]
  refine List.map_congr_left fun p _ => ?_
  simp only [Function.comp_apply]
  exact Prod.ext (by simp only; omega) (by simp only; omega)
theorem sh_app (a b : Int) (l l' : List (Int × Int)) : sh a b (l ++ l') = sh a b l ++ sh a b l' := List.map_append
theorem sh_len (a b : Int) (l : List (Int × Int)) : (sh a b l).length = l.length := by unfold sh; rw [List.length_map]
/-- A living cell's part. -/
theorem ptL_one {N : List Nd} {x : Nat} {r : R4} (h : ctP N 0 x r ≠ 0) (a b : Int) : sh a b (ptL N 0 x r) = [(a, b)] := by
  unfold ctP at h
  have hle : ptL N 0 x r = [] ∨ ptL N 0 x r = [(0, 0)] := by
    unfold ptL cellsQ
    split
    · rw [List.filter_cons]
      split
      · exact Or.inr rfl
      · exact Or.inl rfl
    · exact Or.inl rfl
  rcases hle with e | e
  · rw [e] at h; exact absurd rfl h
  · rw [e]; simp [sh]
theorem ptJ_next (N : List Nd) (m : Nat) (k : K4) (r : R4) (a b : Bool) (acc : List (Int × Int)) (fx fy : Int) : acc ++ sh fx fy (ptJ N m k r (pl a b + 1)) = (acc ++ sh fx fy (ptJ N m k r (pl a b))) ++ sh (fx + off m a) (fy + off m b) (ptL N m (pick k a b) (qR r m a b)) := by
  rw [ptJ, (pl_dec a b).1, (pl_dec a b).2, sh_app, sh_sh, pick_kAt, List.append_assoc]
/-- The blocks of a round: and the part that comes. -/
structure Hq8 (w : World) (sb g tb cb bb fb most : Nat) (N : List Nd) (P : R4) (B : Nat) (v : Value) (a : Part) (fx fy : Int) (vc : Value) (l : List (Int × Int)) (qb : Nat) (q : Part) (W : World) : Prop where
  hc : Hc8 w sb g tb cb bb fb most N P B v a fx fy vc l W
  at_ : W.heap[qb]? = some (ptO8 q)
theorem Hq8.later {w W W' : World} {sb g tb cb bb fb most B qb : Nat} {N : List Nd} {P : R4} {v vc : Value} {a q : Part} {fx fy : Int} {l : List (Int × Int)} (h : Hq8 w sb g tb cb bb fb most N P B v a fx fy vc l qb q W) (hb : Below W.heap.size W W') : Hq8 w sb g tb cb bb fb most N P B v a fx fy vc l qb q W' := ⟨h.hc.later hb, keep8 h.at_ hb⟩
theorem Hq8.drewN {w W : World} {sb g tb cb bb fb most B qb : Nat} {N : List Nd} {P : R4} {v vc : Value} {a q : Part} {fx fy : Int} {l : List (Int × Int)} (h : Hq8 w sb g tb cb bb fb most N P B v a fx fy vc l qb q W) (k : Nat) : Hq8 w sb g tb cb bb fb most N P B v a fx fy vc l qb q (W.drewN k) := ⟨h.hc.drewN k, h.at_⟩
theorem gp_cells {w : World} {b : Nat} {x y : Int} (h : w.heap[b]? = some (.cells #[.int .i64 x, .int .i64 y] 24 (0, 0))) : w.cell? ⟨b, 0, none⟩ = some (.int .i64 x) ∧ w.cell? ⟨b, 1, none⟩ = some (.int .i64 y) :=
  ⟨by rw [Lib.cell_of_heap h]; rfl, by rw [Lib.cell_of_heap h]; rfl⟩
theorem Hq8.cells {w W : World} {sb g tb cb bb fb most B qb n : Nat} {N : List Nd} {P : R4} {v vc : Value} {x : Nat} {r : R4} {q : Part} {fx fy : Int} {l : List (Int × Int)} (h : Hq8 w sb g tb cb bb fb most N P B v ⟨x, n, r⟩ fx fy vc l qb q W) :
    (W.cell? ⟨qb, 0, none⟩ = some (.int .u32 (q.x : Int)) ∧ W.cell? ⟨qb, 1, none⟩ = some (.int .i64 (q.n : Int)) ∧ W.cell? ⟨qb, 2, none⟩ = some (.int .i64 q.r.x) ∧ W.cell? ⟨qb, 3, none⟩ = some (.int .i64 q.r.y) ∧ W.cell? ⟨qb, 4, none⟩ = some (.int .i64 q.r.X) ∧ W.cell? ⟨qb, 5, none⟩ = some (.int .i64 q.r.Y)) ∧
    (W.cell? ⟨w.heap.size + 1, 0, none⟩ = some (.int .i64 fx) ∧ W.cell? ⟨w.heap.size + 1, 1, none⟩ = some (.int .i64 fy)) ∧ W.cell? ⟨w.heap.size, 1, none⟩ = some (.int .i64 (n : Int)) :=
  ⟨pt_cells8 h.at_, gp_cells h.hc.two, (pt_cells8 h.hc.one).2.1⟩
/-- The living cells of a part of a square of a level, behind a list. -/
def ClS (sb g tb cb bb fb most : Nat) (N : List Nd) (P : R4) (n : Nat) : Prop := ∀ {w : World} (_ : Fc w sb g tb cb bb fb most N P) {x : Nat} {r : R4} (_ : Sq N n x) (_ : RIn n r) (_ : Pr P n r) (_ : (cellsQ N n x).length ≤ 1000000)
    {B : Nat} {v : Value} {acc : List (Int × Int)} (_ : OwG w B v acc) (_ : sb < B ∧ g < B ∧ tb < B ∧ cb < B ∧ fb < B) (_ : B ≤ w.heap.size) (_ : acc.length + ctP N n x r ≤ 1000000) {fx fy : Int} (_ : (-2 ^ 62 ≤ fx ∧ fx + 2 ^ n ≤ 2 ^ 62) ∧ (-2 ^ 62 ≤ fy ∧ fy + 2 ^ n ≤ 2 ^ 62)),
    Calls Tryz.prog 36 #[.pointer (some ⟨fb, 0, none⟩), v, .agg #[.int .u32 (x : Int), .int .i64 (n : Int), .int .i64 r.x, .int .i64 r.y, .int .i64 r.X, .int .i64 r.Y], .agg #[.int .i64 fx, .int .i64 fy]] w fun e w' => ∃ v', e = .returned v' ∧ Fc w' sb g tb cb bb fb most N P ∧ Gw cb w v w' v' ∧ OwG w' B v' (acc ++ sh fx fy (ptL N n x r))
set_option maxHeartbeats 16000000 in
theorem cl_step (sb g tb cb bb fb most : Nat) (N : List Nd) (P : R4) (n : Nat) (ih : ∀ m, n = m + 1 → ClS sb g tb cb bb fb most N P m) : ClS sb g tb cb bb fb most N P n := by
  intro w h x r hx hi hp hl B v acc hO hBB hBw hln fx fy hxy
  obtain ⟨cap, hs⟩ := h.st
  have hwf := hs.wf
  have hn62 : n ≤ 62 := by
    cases n with
    | zero => omega
    | succ m => have := hx.le62 hwf; omega
  have HH0 : Hid (Hc8 w sb g tb cb bb fb most N P B v ⟨x, n, r⟩ fx fy v acc ((w.alloc (.cells #[.int .u32 (x : Int), .int .i64 (n : Int), .int .i64 r.x, .int .i64 r.y, .int .i64 r.X, .int .i64 r.Y] 83)).alloc (.cells #[.int .i64 fx, .int .i64 fy] 24))) := by
    have hb := bel2 w (.cells #[.int .u32 (x : Int), .int .i64 (n : Int), .int .i64 r.x, .int .i64 r.y, .int .i64 r.X, .int .i64 r.Y] 83) (.cells #[.int .i64 fx, .int .i64 fy] 24)
    refine ⟨h.later hb, Gw.of_below hb _, hO.later hb, keep8 (heap_alloc_new w _) (bel1 _ _), new_2 w _ _, ⟨by omega, by omega⟩, fun b hv => ?_⟩
    have := (owG_block hO hv).2
    omega
  have HCN := Lib.hid (fun W (hf : Fc W sb g tb cb bb fb most N P) => count8_any sb g tb cb bb fb most N P n hf hx hi hp hl)
  have HX := Lib.hid hx
  have HI := Lib.hid hi
  have HP := Lib.hid hp
  have HL := Lib.hid hl
  have HWF := Lib.hid hwf
  have HBB := Lib.hid hBB
  have HBW := Lib.hid hBw
  have HLN := Lib.hid hln
  have HXY := Lib.hid hxy
  have HONE := Lib.hid (hO.one)
  clear h hx hi hp hl hs hwf hBB hBw hln hxy hO
  obtain ⟨ct, hct⟩ : ∃ ct, ct = ctP N n x r := ⟨_, rfl⟩
  have HCT := Lib.hid hct
  rw [← hct] at HCN HLN
  clear hct
  go_enter Tryz.func36, Tryz.ntmps36
  go_upto_region 1 with fail
  generalize (w.alloc (.cells #[.int .u32 (x : Int), .int .i64 (n : Int), .int .i64 r.x, .int .i64 r.y, .int .i64 r.X, .int .i64 r.Y] 83)).alloc (.cells #[.int .i64 fx, .int .i64 fy] 24) = W0 at *
  obtain ⟨c0, c1, c2, c3, c4, c5⟩ := pt_cells8 HH0.out.one
  simp only at c0 c1 c2 c3 c4 c5
  go_wp2_with fail
  refine (HCN.out _ HH0.out.fn).mono ?_
  rintro e W1 ⟨rfl, hf1, hr1⟩
  have HH1 := Lib.hid (HH0.out.frm hf1 hr1 HBB.out.2.2.2.1)
  clear hf1 hr1 HH0 HCN c0 c1 c2 c3 c4 c5
  by_cases h0 : ct = 0
  · subst h0
    go_wp2_with fail
    go_ret
    refine ⟨v, rfl, HH1.out.fn, HH1.out.gw, ?_⟩
    rw [List.eq_nil_of_length_eq_zero (show (ptL N n x r).length = 0 from HCT.out.symm), sh_nil, List.append_nil]
    exact HH1.out.own
  · have hc0 : ((ct : Int) == 0) = false := by rw [beq_eq_false_iff_ne]; omega
    have HC0 := Lib.hid h0
    clear h0
    obtain ⟨c0, c1, c2, c3, c4, c5⟩ := pt_cells8 HH1.out.one
    simp only at c0 c1 c2 c3 c4 c5
    obtain ⟨p0, p1⟩ := gp_cells HH1.out.two
    cases n with
    | zero =>
      have c1' : W1.cell? ⟨w.heap.size, 1, none⟩ = some (.int .i64 0) := c1
      clear c1
      obtain ⟨i0, hi0, hz0, hz1, hz2⟩ := infoP8
      have HI0 := Lib.hid hi0
      have HZ0 := Lib.hid hz0
      have HZ1 := Lib.hid hz1
      have HZ2 := Lib.hid hz2
      clear hi0 hz0 hz1 hz2
      have hg := HH1.out.gw.size
      have hbw := HBW.out
      have hln := HLN.out
      have HOW := Lib.hid HH1.out.own
      go_wp2_with (at_builtin; refine wpList_append_own_at _ rfl _ _ 36 rfl B 24 i0 (.agg #[.int .i64 0, .int .i64 0]) 2 16 Tryz.underlying36 HI0.out HZ0.out HZ1.out HZ2.out rfl (by decide) _ _ _ rfl (World.ownsRow.alloc HOW.out _) ⟨W1.heap.size, 0, none⟩ 1 1 [.int .i64 fx, .int .i64 fy] rfl rfl ?_ ?_ ?_ ?_ ?_ ?_; (exact cell_pair8 _ _ _ _); (intro u hu; simp at hu; rcases hu with rfl | rfl <;> rfl); (unfold maxLen; omega); (omega); (simp; omega); intro v' w4 hown4 hgrow _ hat; have HG := Lib.hid hgrow; have HO4 := Lib.hid hown4; have HAT := Lib.hid hat; clear hgrow hown4 hat)
      go_ret
      refine ⟨v', rfl, ?_, ?_, ?_⟩
      · exact (HH1.out.fn.later (bel1 W1 _)).grown HG.out HBB.out fun b hb => (owG_block HOW.out hb).1
      · exact (HH1.out.gw.trans (Gw.of_below (bel1 W1 _) v)).trans (Gw.of_grown HG.out HAT.out)
      · rw [ptL_one (by rw [← HCT.out]; exact HC0.out)]
        unfold OwG
        rw [ptV8_snoc, List.length_append]
        exact HO4.out
    | succ m =>
      have c1' : W1.cell? ⟨w.heap.size, 1, none⟩ = some (.int .i64 ((m : Int) + 1)) := c1
      have hm0 : ((m : Int) + 1 == 0) = false := by rw [beq_eq_false_iff_ne]; omega
      have hm62 : m < 62 := by omega
      clear c1
      have HSQ : Hid (∀ a b, Sq N m (pick (kidZ N x) a b)) := HX.out.kid HWF.out
      have HFO : Hid (∀ W, Fc W sb g tb cb bb fb most N P → Calls Tryz.prog 64 #[.pointer (some ⟨fb, 0, none⟩), .agg #[.int .u32 (x : Int), .int .i64 ((m : Int) + 1), .int .i64 r.x, .int .i64 r.y, .int .i64 r.X, .int .i64 r.Y]] W fun e w' => e = .returned (fourP (kidZ N x) m r) ∧ Below W.heap.size W w') := by
        show ∀ W, _ → _
        intro W hf
        exact fourC_any hf HX.out r
      have HRES : Hid (acc ++ sh fx fy (ptJ N m (kidZ N x) r 4) = acc ++ sh fx fy (ptL N (m + 1) x r)) := by
        show _ = _
        rw [← ptL_succ]
      have HLJ : Hid (∀ j, j < 4 → (acc ++ sh fx fy (ptJ N m (kidZ N x) r (j + 1))).length ≤ 1000000) := by
        show ∀ j, _ → _
        intro j hj
        have h1 := ptJ_le N m (kidZ N x) r (4 - (j + 1)) (j + 1)
        rw [show j + 1 + (4 - (j + 1)) = 4 by omega, ← ptL_succ] at h1
        have h2 := HLN.out
        rw [HCT.out] at h2
        unfold ctP at h2
        rw [List.length_append, sh, List.length_map]
        omega
      have HIC : Hid (∀ (W : World) (a b : Bool) (vc : Value) (l : List (Int × Int)), Hc8 w sb g tb cb bb fb most N P B v ⟨x, m + 1, r⟩ fx fy vc l W → l.length + ctP N m (pick (kidZ N x) a b) (qR r m a b) ≤ 1000000 → Calls Tryz.prog 36 #[.pointer (some ⟨fb, 0, none⟩), vc, .agg #[.int .u32 (pick (kidZ N x) a b : Int), .int .i64 (m : Int), .int .i64 (qR r m a b).x, .int .i64 (qR r m a b).y, .int .i64 (qR r m a b).X, .int .i64 (qR r m a b).Y], .agg #[.int .i64 (fx + off m a), .int .i64 (fy + off m b)]] W fun e w' => ∃ v', e = .returned v' ∧ Fc w' sb g tb cb bb fb most N P ∧ Gw cb W vc w' v' ∧ OwG w' B v' (l ++ sh (fx + off m a) (fy + off m b) (ptL N m (pick (kidZ N x) a b) (qR r m a b)))) := by
        show ∀ (W : World) (a b : Bool) (vc : Value) (l : List (Int × Int)), _ → _ → _
        intro W a b vc l hh hln
        have hxy := HXY.out
        have ho1 := off_rng m a
        have ho2 := off_rng m b
        have hp2 := pow_two2 m
        refine ih m rfl hh.fn (HSQ.out a b) (qR_in r m a b) (qR_pr HP.out HI.out a b) (Nat.le_trans (cellsQ_kid N m x a b) HL.out) hh.own HBB.out (Nat.le_trans HBW.out hh.gw.size) hln ?_
        omega
      have HOF : Hid (∀ a b, I64 (fx + off m a) ∧ I64 (fy + off m b)) := by
        show ∀ a b, _
        intro a b
        have hxy := HXY.out
        have ho1 := off_rng m a
        have ho2 := off_rng m b
        have hp2 := pow_two2 m
        unfold I64
        omega
      go_wp2_with fail
      refine (HFO.out _ HH1.out.fn).mono ?_
      rintro e W6 ⟨rfl, hb⟩
      have HH6 := Lib.hid (HH1.out.later hb)
      clear ih hb HH1 HFO c0 c1' c2 c3 c4 c5 p0 p1 HX HI HP HL HSQ HCT HLN HXY
      generalize kidZ N x = k0 at *
      go_wp2_with fail
      go_loopg [1, 9, 10, 26] 4 (fun mm v1 v9 v10 cnt wr => ∃ j : Nat, mm = 4 - j ∧ j ≤ 4 ∧ cnt = .int .i64 (j : Int) ∧ Hc8 w sb g tb cb bb fb most N P B v ⟨x, m + 1, r⟩ fx fy v1 (acc ++ sh fx fy (ptJ N m k0 r j)) wr)
      case atStart => exact ⟨0, rfl, Nat.zero_le _, rfl, by rw [ptJ, sh_nil, List.append_nil]; exact HH6.out⟩
      case round =>
        clear HH6
        obtain ⟨j, hm, hj, rfl, hh⟩ := hrel
        have HM := Lib.hid hm
        have HH := Lib.hid hh
        clear hm hh
        by_cases hlt : j < 4
        · have hgj : decide ((j : Int) < 4) = true := by simp; omega
          have hix := fun w => pix k0 m r hlt w
          obtain ⟨a, b, hjp⟩ := pl_of hlt
          have hq : pq k0 m r j = (pick k0 a b, (m : Int), qR r m a b) := by
            unfold pq
            rw [hjp, (pl_dec a b).1, (pl_dec a b).2, pick_kAt]
          simp only [hq] at hix
          have hsucc := ptJ_next N m k0 r a b acc fx fy
          rw [← hjp] at hsucc
          have hle := HLJ.out j hlt
          rw [hsucc, List.length_append, sh_len] at hle
          have HSU := Lib.hid hsucc
          have HCC := Lib.hid (fun W vc hh => HIC.out W a b vc _ hh hle)
          have HFI := Lib.hid (fun W => first_any m hm62 a b W)
          rw [← hjp] at HFI
          have HPL := Lib.hid (fun W => plus_any fx fy (off m a) (off m b) (HOF.out a b).1 (HOF.out a b).2 W)
          clear hq hjp hsucc hle
          generalize hl0 : acc ++ sh fx fy (ptJ N m k0 r j) = l at *
          clear hl0
          generalize hyy : pick k0 a b = y at *
          generalize hqq : qR r m a b = qr at *
          generalize hoa : off m a = oa at *
          generalize hob : off m b = ob at *
          have i1 : (0 : Int) ≤ (j : Int) := by omega
          have i2 : (j : Int) < 4 := by omega
          have hbq := bel1 wr (.cells #[.int .u32 (y : Int), .int .i64 (m : Int), .int .i64 qr.x, .int .i64 qr.y, .int .i64 qr.X, .int .i64 qr.Y] 83)
          have hq0 : Hq8 w sb g tb cb bb fb most N P B v ⟨x, m + 1, r⟩ fx fy _ l wr.heap.size ⟨y, m, qr⟩ (wr.alloc (.cells #[.int .u32 (y : Int), .int .i64 (m : Int), .int .i64 qr.x, .int .i64 qr.y, .int .i64 qr.X, .int .i64 qr.Y] 83)) := ⟨HH.out.later hbq, heap_alloc_new wr _⟩
          have HQ := Lib.hid hq0
          clear hq0 hbq HH
          go_upto_region 8 with fail
          generalize wr.alloc (.cells #[.int .u32 (y : Int), .int .i64 (m : Int), .int .i64 qr.x, .int .i64 qr.y, .int .i64 qr.X, .int .i64 qr.Y] 83) = Wq at *
          generalize wr.heap.size = qb at *
          have hh := HQ.out.drewN 1
          obtain ⟨⟨e0, e1, e2, e3, e4, e5⟩, ⟨e6, e7⟩, e8⟩ := HQ.out.cells
          simp only at e0 e1 e2 e3 e4 e5
          have e8' : Wq.cell? ⟨w.heap.size, 1, none⟩ = some (.int .i64 ((m : Int) + 1)) := e8
          clear e8
          go_region_with
            (first
              | (go_at_call 36; refine (HCC.out _ _ (Hq8.hc (by assumption))).mono ?_; rintro e wl ⟨v', rfl, hf, hg, ho⟩; have hl := Hc8.call (Hq8.hc (by assumption)) hf hg ho; clear hf hg ho)
              | (go_at_call 65; refine (HFI.out _).mono ?_; rintro e wl ⟨rfl, hb⟩; have hl := Hq8.later (by assumption) hb; have k1 := hl.cells; simp only at k1; have k2 := k1.2.2; rw [Int.natCast_add] at k2; clear hb)
              | (go_at_call 60; refine (HPL.out _).mono ?_; rintro e wl ⟨rfl, hb⟩; have hl := Hq8.later (by assumption) hb; have k1 := hl.cells; simp only at k1; have k2 := k1.2.2; rw [Int.natCast_add] at k2; clear hb))
          all_goals
            go_wp2_with fail
            go_roundg (4 - (j + 1))
            case measure => rw [HM.out]; omega
            case rel => exact ⟨j + 1, rfl, by omega, by go_num, by rw [HSU.out]; exact hl⟩
        · obtain rfl : j = 4 := by omega
          have hgs : decide (((4 : Nat) : Int) < 4) = false := by simp
          rw [HRES.out] at HH
          go_wp2_with fail
          go_ret
          exact ⟨_, rfl, HH.out.fn, HH.out.gw, HH.out.own⟩
theorem cells8c_any (sb g tb cb bb fb most : Nat) (N : List Nd) (P : R4) : ∀ n, ClS sb g tb cb bb fb most N P n
  | 0 => cl_step sb g tb cb bb fb most N P 0 fun m e => by omega
  | n + 1 => cl_step sb g tb cb bb fb most N P (n + 1) fun m e => by
    obtain rfl : n = m := by omega
    exact cells8c_any sb g tb cb bb fb most N P n
end Go.Proofs.YtnfjmmkokhncoaaGreat
