/- Package collect: Collect, and what it tells of squares; Reach: contracts. -/
import Derived.Test.YtgciceogggldhaaAg13
import Derived.Test.YtgciceogggldhaaNew6
namespace Go.Proofs.Ytgciceogggldhaa
open Go.RowKit Go.Maps
set_option maxRecDepth 100000

theorem again_any {w : World} {sb g tb cap most : Nat} {N : List Nd} (h : St w sb g tb cap most N) {fb fg ftb fcap fmost : Nat} {F : List Bool} {j x mb : Nat} (hf : St w fb fg ftb fcap fmost ((cmpN N F).take (max j 2))) (hc : Cl13 N F)
    (hj : (ndL F N.length)[j]? = some x) (hm : GMap mkI w mb (nowF F j)) (hr : j < fmost) :
    Calls Try.prog 25 #[.pointer (some ⟨fb, 0, none⟩), .pointer (some ⟨sb, 0, none⟩), .int .u32 (x : Int), .map (some mb)] w fun e w' => ∃ fg' fcap', e = .returned (.int .u32 (j : Int)) ∧ St w' fb fg' ftb fcap' fmost ((cmpN N F).take (max (j + 1) 2)) ∧ Frm [fb, fg, ftb] w w' ∧ (fg' = fg ∨ w.heap.size ≤ fg') := by
  obtain ⟨h1, h2, h3⟩ := ndL_of hj
  by_cases hx : x < 2
  · have hx2 := hc.small hx
    obtain rfl : j = x := by omega
    refine (again_low h hx _ _).mono ?_
    rintro e w' ⟨rfl, hb⟩
    refine ⟨fg, fcap, rfl, ?_, Frm.of_below hb, Or.inl rfl⟩
    rw [show max (j + 1) 2 = max j 2 by omega]
    exact hf.later hb
  · have hx2 := hc.two (show 2 ≤ x by omega)
    rw [show max j 2 = j by omega] at hf
    rw [show max (j + 1) 2 = j + 1 by omega]
    exact again_up h hf hc hj (by omega) hm hr
/-- Which number a square has now. -/
def nowA (F : List Bool) (x : Nat) : Option Value := if nd13 F x = true then some (.int .u32 (rk13 F x : Int)) else none
theorem now_all {F : List Bool} {n : Nat} (h : F.length ≤ n) : nowF F (ndL F n).length = nowA F := by
  funext x
  unfold nowF nowA
  rw [ndL_len]
  by_cases hn : nd13 F x = true
  · rw [if_pos ⟨hn, rk_lt hn (Nat.lt_of_lt_of_le (nd_lt hn) h)⟩, if_pos hn]
  · rw [if_neg fun h => hn h.1, if_neg hn]
theorem now_zero (F : List Bool) : nowF F 0 = fun _ => none := by
  funext x
  unfold nowF
  rw [if_neg fun h => by have := h.2; omega]
/-- The function that tells of squares' numbers. -/
structure Now13 (w : World) (v : Value) (m : Nat → Option Value) : Prop where
  ex : ∃ tc mb, v = .func (.func 23) #[] #[.pointer (some ⟨tc, 0, none⟩)] ∧ w.cell? ⟨tc, 0, none⟩ = some (.map (some mb)) ∧ GMap mkI w mb m ∧ tc < w.heap.size
theorem Now13.later {w w' : World} {v : Value} {m : Nat → Option Value} (h : Now13 w v m) (hb : Below w.heap.size w w') : Now13 w' v m := by
  obtain ⟨tc, mb, h1, h2, h3, h4⟩ := h.ex
  exact ⟨tc, mb, h1, by rw [hb.cell (p := ⟨tc, 0, none⟩) h4]; exact h2, h3.later hb, Nat.lt_of_lt_of_le h4 hb.size⟩
theorem now_any {w : World} {tc mb : Nat} {m : Nat → Option Value} (hc : w.cell? ⟨tc, 0, none⟩ = some (.map (some mb))) (hm : GMap mkI w mb m) (x : Nat) (hx : x < 4294967296) :
    Calls Try.prog 23 #[.int .u32 (x : Int), .pointer (some ⟨tc, 0, none⟩)] w fun e w' => e = .returned (.tuple #[(m x).getD (.int .u32 0), .bool (m x).isSome]) ∧ w = w' := by
  obtain ⟨h1, h2⟩ := hm.look x hx
  obtain ⟨v, b, hv, hb, hl⟩ : ∃ v b, (m x).getD (.int .u32 0) = v ∧ (m x).isSome = b ∧ (Instr.lookup 71 (.map (some mb)) (.int .u32 (x : Int)) true).run Try.prog w = .ok (.tuple #[v, .bool b]) w := by
    cases hmx : m x with
    | none => exact ⟨_, _, rfl, rfl, h2 hmx⟩
    | some v => exact ⟨_, _, rfl, rfl, h1 v hmx⟩
  rw [hv, hb]
  clear h1 h2 hm hv hb
  go_enter Try.func23, Try.ntmps23
  go_wp2_with fail
  go_ret2
  exact ⟨rfl, rfl⟩
theorem IdRow.apart3 {w : World} {B b : Nat} {v : Value} {xs : List Nat} (h : IdRow w B v xs) (hv : v.ownBlock = some b) {sb g tb cap most : Nat} {N : List Nd} (hS : St w sb g tb cap most N) (ht : 34 ≠ 66) (ht2 : 34 ≠ 76) : b ≠ sb ∧ b ≠ g ∧ b ≠ tb := by
  obtain ⟨_, _, cur, hF⟩ := h.blk hv
  refine ⟨fun e => ?_, fun e => ?_, fun e => ?_⟩
  · rw [e, hS.blk] at hF
    simp only [Option.some.injEq, Obj.cells.injEq] at hF
    exact ht hF.2.1.symm
  · rcases hS.row.2 with ⟨hv, _⟩ | ⟨g2, cp, cur2, hv, _, hgg, _⟩
    · cases hv
    · cases hv
      rw [e, hgg] at hF
      simp only [Option.some.injEq, Obj.cells.injEq] at hF
      exact ht2 hF.2.1.symm
  · obtain ⟨D, ⟨es, cl, t1, _⟩, _⟩ := hS.tab
    rw [e, t1] at hF
    cases hF
theorem IdRow.apartM {w : World} {B b mb : Nat} {v : Value} {xs : List Nat} (h : IdRow w B v xs) (hv : v.ownBlock = some b) {m : Nat → Option Value} (hm : GMap mkI w mb m) : b ≠ mb := fun e => by
  obtain ⟨_, _, cur, hF⟩ := h.blk hv
  obtain ⟨es, cl, h1⟩ := hm.is_map
  rw [e, h1] at hF
  cases hF
/-- What holds from round to round. -/
structure Lp13 (w wr : World) (fb fg ftb fcap most : Nat) (M : List Nd) (tc mb : Nat) (m : Nat → Option Value) (B : Nat) (v : Value) (xs : List Nat) : Prop where
  st : St wr fb fg ftb fcap most M
  mp : GMap mkI wr mb m
  cell : wr.cell? ⟨tc, 0, none⟩ = some (.map (some mb))
  row : IdRow wr B v xs
  bel : Below w.heap.size w wr
  lm : w.heap.size ≤ mb
  lt : mb < tc
  lf : tc < fb ∧ tc < fg ∧ tc < ftb
theorem Lp13.made {w wr w' : World} {fb fg ftb fcap most : Nat} {M : List Nd} {tc mb : Nat} {m : Nat → Option Value} {B : Nat} {v : Value} {xs : List Nat} (h : Lp13 w wr fb fg ftb fcap most M tc mb m B v xs)
    {fg' fcap' : Nat} {M' : List Nd} (hS : St w' fb fg' ftb fcap' most M') (hF : Frm [fb, fg, ftb] wr w') (hg : fg' = fg ∨ wr.heap.size ≤ fg') : Lp13 w w' fb fg' ftb fcap' most M' tc mb m B v xs := by
  obtain ⟨l1, l2, l3⟩ := h.st.lt
  obtain ⟨f1, f2, f3⟩ := h.lf
  have hlm := h.lm
  have hlt := h.lt
  have hb : Below (tc + 1) wr w' := hF.below (fun b hb => by
    simp only [List.mem_cons, List.not_mem_nil, or_false] at hb
    rcases hb with rfl | rfl | rfl <;> omega) (by omega)
  refine ⟨hS, h.mp.blk (hb.block mb (by omega)), by rw [hb.cell (p := ⟨tc, 0, none⟩) (by show tc < tc + 1; omega)]; exact h.cell, h.row.of_block fun b hv => ?_, h.bel.trans (hb.mono (by omega)), hlm, hlt, f1, by omega, f3⟩
  obtain ⟨a1, a2, a3⟩ := h.row.apart3 hv h.st (by decide) (by decide)
  exact hF.block b (h.row.blk hv).2.1 (by simp [a1, a2, a3])
theorem Lp13.put {w wr w' : World} {fb fg ftb fcap most : Nat} {M : List Nd} {tc mb : Nat} {m m' : Nat → Option Value} {B : Nat} {v : Value} {xs : List Nat} (h : Lp13 w wr fb fg ftb fcap most M tc mb m B v xs)
    (hm : GMap mkI w' mb m') (hg : wr.grownBy w' (some mb)) : Lp13 w w' fb fg ftb fcap most M tc mb m' B v xs := by
  obtain ⟨l1, l2, l3⟩ := h.st.lt
  obtain ⟨f1, f2, f3⟩ := h.lf
  have hlm := h.lm
  have hlt := h.lt
  have hmb := h.mp.lt
  refine ⟨h.st.grown hg ⟨by omega, by omega, by omega⟩, hm, ?_, h.row.grown hg fun b hv e => h.row.apartM hv h.mp (by simpa using e), h.bel.trans (bel_grown hg hlm (by omega)), hlm, hlt, f1, f2, f3⟩
  have := h.cell
  unfold World.cell? at this ⊢
  simp only at this ⊢
  rw [hg.block tc (by omega) (by simp; omega)]
  exact this
theorem Lp13.drew {w wr : World} {fb fg ftb fcap most : Nat} {M : List Nd} {tc mb : Nat} {m : Nat → Option Value} {B : Nat} {v : Value} {xs : List Nat} (h : Lp13 w wr fb fg ftb fcap most M tc mb m B v xs) : Lp13 w wr.drew fb fg ftb fcap most M tc mb m B v xs :=
  ⟨h.st.drew, h.mp.blk rfl, h.cell, h.row.of_block fun _ _ => rfl, h.bel.drew, h.lm, h.lt, h.lf⟩
set_option maxHeartbeats 4000000 in
theorem collect_any {w : World} {sb g tb cap most : Nat} {N : List Nd} (h : St w sb g tb cap most N) {a : Option Addr} {L : List Nat} {l c : Nat} (hL : LRow w a L) (hl : l = L.length) (hl9 : l ≤ 1000000) :
    Calls Try.prog 11 #[.pointer (some ⟨sb, 0, none⟩), .slice a l c] w fun e w' => ∃ (v : Value) (fb fg ftb fcap : Nat), e = .returned (.tuple #[.pointer (some ⟨fb, 0, none⟩), v, .nilIface]) ∧ St w' fb fg ftb fcap most (cmpN N (nedF N L)) ∧ Now13 w' v (nowA (nedF N L)) ∧ Below w.heap.size w w' ∧ w.heap.size ≤ fb ∧ w.heap.size ≤ fg ∧ w.heap.size ≤ ftb := by
  have hc := ned_cl h.wf L
  have h2 := h.wf.two
  have hNl := h.room
  have hMl := h.most_le
  obtain ⟨F, hF⟩ : ∃ F, nedF N L = F := ⟨_, rfl⟩
  have HFF := Lib.hid hF
  rw [hF] at hc ⊢
  have HC := Lib.hid hc
  have HS := Lib.hid h
  have HL := Lib.hid hL
  have HLL := Lib.hid hl
  have HL9 := Lib.hid hl9
  clear hF h hc hL hl hl9
  have w1 : IntKind.i64.wrap ((N.length : Int) + ((most : Int) - (N.length : Int))) = (most : Int) := by rw [IntWalk.i64_in _ (by omega)]; omega
  have hmm := @run_makeMap Try.prog
  have hmf : ∀ (fn : Fn) (first cap : Array Value) (w : World), (Instr.makeFunc fn first cap).run Try.prog w = .ok (.func fn first cap) w := fun _ _ _ _ => rfl
  go_enter Try.func11, Try.ntmps11
  go_upto_region 2 with fail
  have HB0 := Lib.hid (bel2 w (.map #[] 0) (.cells #[.map (some w.heap.size)] 71))
  have HM0 := Lib.hid ((gmap_new mkI w).later (bel1 (w.alloc (.map #[] 0)) (.cells #[.map (some w.heap.size)] 71)))
  have HC0 : Hid (((w.alloc (.map #[] 0)).alloc (.cells #[.map (some w.heap.size)] 71)).cell? ⟨w.heap.size + 1, 0, none⟩ = some (.map (some w.heap.size))) := by
    have := heap_alloc_new (w.alloc (.map #[] 0)) (.cells #[.map (some w.heap.size)] 71)
    rw [show (w.alloc (.map #[] 0)).heap.size = w.heap.size + 1 by simp] at this
    exact (Lib.cell_of_heap this 0).trans rfl
  have HZ0 : Hid (w.heap.size + 2 ≤ ((w.alloc (.map #[] 0)).alloc (.cells #[.map (some w.heap.size)] 71)).heap.size) := by
    show _ ≤ _
    simp
  generalize (w.alloc (.map #[] 0)).alloc (.cells #[.map (some w.heap.size)] 71) = W0 at *
  clear hmm
  go_wp2_with fail
  refine (len_any (HS.out.later HB0.out)).mono ?_
  rintro e W1 ⟨rfl, rfl⟩
  go_wp2_with fail
  refine (room_any (HS.out.later HB0.out)).mono ?_
  rintro e W1 ⟨rfl, q, hW1⟩
  have HB1 : Hid (Below w.heap.size w W1) := by
    show Below _ _ _
    rw [hW1]; exact ⟨HB0.out.os, HB0.out.tape, HB0.out.output, HB0.out.size, HB0.out.block⟩
  have HM1 : Hid (GMap mkI W1 w.heap.size fun _ => none) := by
    show GMap _ _ _ _
    rw [hW1]; exact HM0.out.blk rfl
  have HC1 : Hid (W1.cell? ⟨w.heap.size + 1, 0, none⟩ = some (.map (some w.heap.size))) := by
    show _ = _
    rw [hW1]; exact HC0.out
  have HZ1 : Hid (w.heap.size + 2 ≤ W1.heap.size) := by
    show _ ≤ _
    rw [hW1]; exact HZ0.out
  clear hW1 HB0 HM0 HC0 HZ0
  go_wp2_with fail
  refine (new_good most (by omega) hMl _).mono ?_
  rintro e W2 ⟨fb, fg, ftb, rfl, hst, hb, l1, l2, l3⟩
  have HST := Lib.hid hst
  have HB2 := Lib.hid (HB1.out.trans (hb.mono HB1.out.size))
  have HM2 := Lib.hid (HM1.out.later hb)
  have HC2 : Hid (W2.cell? ⟨w.heap.size + 1, 0, none⟩ = some (.map (some w.heap.size))) := by
    show _ = _
    rw [hb.cell (p := ⟨w.heap.size + 1, 0, none⟩) (by have := HZ1.out; show w.heap.size + 1 < _; omega)]; exact HC1.out
  have HF2 : Hid (w.heap.size + 1 < fb ∧ w.heap.size + 1 < fg ∧ w.heap.size + 1 < ftb) := by
    have := HZ1.out
    exact ⟨by omega, by omega, by omega⟩
  clear hst hb l1 l2 l3 HB1 HM1 HC1 HZ1
  go_wp2_with fail
  refine (needed_any (HS.out.later HB2.out) (c := c) (HL.out.later HB2.out) HLL.out HL9.out).mono ?_
  rintro e W3 ⟨v, rfl, hrow, hb⟩
  rw [HFF.out] at hrow
  have hlen : 0 < (ndL F N.length).length := by
    rw [ndL_len]
    have := rk_lt HC.out.d (show 0 < N.length by omega)
    omega
  obtain ⟨lb, lcap, rfl⟩ := hrow.slice hlen
  have HLP : Hid (Lp13 w W3 fb fg ftb 2 most N0 (w.heap.size + 1) w.heap.size (fun _ => none) W2.heap.size (.slice (some ⟨lb, 0, none⟩) (ndL F N.length).length lcap) (ndL F N.length)) :=
    ⟨HST.out.later hb, HM2.out.later hb, by rw [hb.cell (p := ⟨w.heap.size + 1, 0, none⟩) (by have := HST.out.lt; have := HF2.out; show w.heap.size + 1 < _; omega)]; exact HC2.out, hrow, HB2.out.trans (hb.mono HB2.out.size), Nat.le_refl _, by omega, HF2.out⟩
  clear hrow hb HST HM2 HC2 HB2
  generalize W2.heap.size = B at *
  have hnl : (ndL F N.length).length ≤ N.length := by rw [ndL_len]; exact rk_le _ _
  obtain ⟨xs, hxs⟩ : ∃ xs, ndL F N.length = xs := ⟨_, rfl⟩
  have HXS := Lib.hid hxs
  rw [hxs] at HLP hlen hnl ⊢
  clear hxs hlen
  go_wp2_with fail
  go_loopg [12, 32] xs.length (fun mm v12 cnt wr => ∃ (j fg' fcap' : Nat), mm = xs.length - j ∧ j ≤ xs.length ∧ cnt = .int .i64 (j : Int) ∧ Lp13 w wr fb fg' ftb fcap' most ((cmpN N F).take (max j 2)) (w.heap.size + 1) w.heap.size (nowF F j) B (.slice (some ⟨lb, 0, none⟩) xs.length lcap) xs)
  case atStart =>
    refine ⟨0, fg, 2, rfl, Nat.zero_le _, rfl, ?_⟩
    rw [now_zero, show max 0 2 = 2 from rfl, cmp_two HC.out HS.out.wf]
    exact HLP.out
  case round =>
    clear HLP
    obtain ⟨j, fg1, fc1, hm, hj, rfl, hlp⟩ := hrel
    have HMM := Lib.hid hm
    have HLP := Lib.hid hlp
    clear hm hlp
    by_cases hlt : j < xs.length
    · have hgj : decide (j < xs.length) = true := by simp; omega
      obtain ⟨x, hx⟩ : ∃ x, xs[j]? = some x := ⟨_, List.getElem?_eq_getElem hlt⟩
      obtain ⟨cx, _⟩ := HLP.out.row.at rfl hx
      have HX : Hid ((ndL F N.length)[j]? = some x) := by
        show _ = _
        rw [HXS.out]; exact hx
      have i1 : (j : Int) < (xs.length : Int) := by omega
      have i2 : (0 : Int) ≤ (j : Int) := by omega
      have w2 : IntKind.i64.wrap ((j : Int) + 1) = ((j + 1 : Nat) : Int) := by rw [IntWalk.i64_in _ (by omega)]; omega
      have HJM : Hid (j < most) := show j < most by omega
      clear hx
      go_upto_region 9 with fail
      have e0 := HLP.out.cell
      refine region_sq 7 (fun W => W.cell? ⟨w.heap.size + 1, 0, none⟩ = some (.map (some w.heap.size))) [(0, 2), (1, 1), (2, 1), (3, 1), (4, 1), (5, 2), (6, 0), (7, 3)] (by kernel_rfl) (by kernel_rfl) rfl (by intro c a d v w h; cases d <;> exact h) (by kernel_rfl) e0 ?_
      refine ⟨_, ?_, rfl, by rfl, ?_, ?_⟩
      rotate_left
      · intro W hW
        have d1 : W.cell? ⟨w.heap.size + 1, 0, none⟩ = some (.map (some w.heap.size)) := hW
        go_simp; first | done | rfl
      conv => arg 6; simp only [Act.put, List.setIfInBounds_toArray, List.set_cons_zero, List.set_cons_succ]
      refine ⟨_, ?_, rfl, by rfl, ?_, ?_⟩
      rotate_left
      · intro W; go_simp; first | done | rfl
      conv => arg 6; simp only [Act.put, List.setIfInBounds_toArray, List.set_cons_zero, List.set_cons_succ]
      refine ⟨_, ?_, rfl, by rfl, ?_, ?_⟩
      rotate_left
      · intro W; go_simp; first | done | rfl
      conv => arg 6; simp only [Act.put, List.setIfInBounds_toArray, List.set_cons_zero, List.set_cons_succ]
      refine ⟨_, ?_, rfl, by rfl, ?_, ?_⟩
      rotate_left
      · intro W; go_simp; first | done | rfl
      conv => arg 6; simp only [Act.put, List.setIfInBounds_toArray, List.set_cons_zero, List.set_cons_succ]
      refine ⟨_, ?_, rfl, by rfl, ?_, ?_⟩
      rotate_left
      · intro W; go_simp; first | done | rfl
      conv => arg 6; simp only [Act.put, List.setIfInBounds_toArray, List.set_cons_zero, List.set_cons_succ]
      refine ⟨_, ?_, rfl, by rfl, ?_, ?_⟩
      rotate_left
      · intro W hW
        have d1 : W.cell? ⟨w.heap.size + 1, 0, none⟩ = some (.map (some w.heap.size)) := hW
        go_simp; first | done | rfl
      conv => arg 6; simp only [Act.put, List.setIfInBounds_toArray, List.set_cons_zero, List.set_cons_succ]
      refine ⟨_, rfl, by rfl, fun K hK => ?_⟩
      go_simp
      refine (again_any (HS.out.later HLP.out.drew.bel) HLP.out.drew.st HC.out HX.out HLP.out.drew.mp HJM.out).mono ?_
      rintro e w5 ⟨fg2, fc2, rfl, hs, hf, hg⟩
      have HLP2 := Lib.hid (HLP.out.drew.made hs hf hg)
      clear hs hf hg
      refine hK _ _ HLP2.out.cell ?_
      clear hK K
      conv => arg 6; simp only [Act.put, List.setIfInBounds_toArray, List.set_cons_zero, List.set_cons_succ]
      refine ⟨_, rfl, by rfl, fun K hK => ?_⟩
      obtain ⟨w6, hrun, hmp, hgr⟩ := HLP2.out.mp.put x (show x < 4294967296 by have := (ndL_of HX.out).2.1; omega) (.int .u32 (j : Int))
      have hrun' : (Instr.mapUpdate 71 (.map (some w.heap.size)) (.int .u32 (x : Int)) (.int .u32 (j : Int))).run Try.prog w5 = .ok () w6 := hrun
      have HLP3 := Lib.hid (HLP2.out.put (m' := nowF F (j + 1)) (by rw [← now_step HX.out]; exact hmp) hgr)
      clear hrun hmp hgr
      go_simp
      refine hK _ _ ?_
      clear hK K hrun' HLP2
      conv => arg 6; simp only [Act.put, List.setIfInBounds_toArray, List.set_cons_zero, List.set_cons_succ]
      unfold wpSq
      go_wp2_with fail
      go_roundg (xs.length - (j + 1))
      case measure => rw [HMM.out]; omega
      case rel =>
        exact ⟨j + 1, fg2, fc2, rfl, by omega, by go_num, HLP3.out⟩
    · obtain rfl : j = xs.length := by omega
      have hgj : decide (xs.length < xs.length) = false := by simp
      have HN : Hid (nowF F xs.length = nowA F) := by
        show _ = _
        rw [← HXS.out]
        exact now_all (Nat.le_of_eq HC.out.len)
      have HT : Hid ((cmpN N F).take (max xs.length 2) = cmpN N F) := by
        show _ = _
        refine List.take_of_length_le ?_
        rw [cmp_len, ← ndL_len, HXS.out]
        omega
      go_wp2_with fail
      go_ret3
      have hlp := HLP.out
      rw [HN.out, HT.out] at hlp
      obtain ⟨f1, f2, f3⟩ := hlp.lf
      exact ⟨_, fb, fg1, ftb, fc1, rfl, hlp.st, ⟨_, _, rfl, hlp.cell, hlp.mp, by have := hlp.st.lt; omega⟩, hlp.bel, by omega, by omega, by omega⟩
end Go.Proofs.Ytgciceogggldhaa
