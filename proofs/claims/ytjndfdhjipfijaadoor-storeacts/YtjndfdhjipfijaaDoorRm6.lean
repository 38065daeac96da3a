/- The document's store: Make: contract. -/
import Derived.Test.YtjndfdhjipfijaaDoorEq4
namespace Go.Proofs.YtjndfdhjipfijaaDoor
open Go.RowKit Go.Maps
set_option maxRecDepth 100000

/-- Four numbers in a block, as the document's array. -/
def RKAt (w : World) (b : Nat) (k : K4) : Prop := w.heap[b]? = some (.cells #[.int .u32 (k.1 : Int), .int .u32 (k.2.1 : Int), .int .u32 (k.2.2.1 : Int), .int .u32 (k.2.2.2 : Int)] 48 (0, 0))
theorem RKAt.lt {w : World} {b : Nat} {k : K4} (h : RKAt w b k) : b < w.heap.size := (Array.getElem?_eq_some_iff.1 h).1
theorem RKAt.cells {w : World} {b : Nat} {k : K4} (h : RKAt w b k) : w.cell? ⟨b, 0, none⟩ = some (.int .u32 (k.1 : Int)) ∧ w.cell? ⟨b, 1, none⟩ = some (.int .u32 (k.2.1 : Int)) ∧ w.cell? ⟨b, 2, none⟩ = some (.int .u32 (k.2.2.1 : Int)) ∧ w.cell? ⟨b, 3, none⟩ = some (.int .u32 (k.2.2.2 : Int)) :=
  ⟨by rw [Lib.cell_of_heap h]; rfl, by rw [Lib.cell_of_heap h]; rfl, by rw [Lib.cell_of_heap h]; rfl, by rw [Lib.cell_of_heap h]; rfl⟩
theorem RKAt.later {w w' : World} {b : Nat} {k : K4} (h : RKAt w b k) (hb : Below w.heap.size w w') : RKAt w' b k := by
  unfold RKAt; rw [hb.block b h.lt]; exact h
theorem rk_new (w : World) (k : K4) : RKAt (w.alloc (.cells #[.int .u32 (k.1 : Int), .int .u32 (k.2.1 : Int), .int .u32 (k.2.2.1 : Int), .int .u32 (k.2.2.2 : Int)] 48)) w.heap.size k := heap_alloc_new w _

def kAt (k : K4) : Nat → Nat
  | 0 => k.1
  | 1 => k.2.1
  | 2 => k.2.2.1
  | _ => k.2.2.2
/-- How many are alive of the first ones of four. -/
def pa (N : List Nd) (k : K4) : Nat → Nat
  | 0 => 0
  | j + 1 => sat (pa N k j) (ctZ N (kAt k j))
theorem pa_all (N : List Nd) (k : K4) : pa N k 4 = livZ N k := rfl
theorem pa_le (N : List Nd) (k : K4) : ∀ j, pa N k j ≤ topN
  | 0 => Nat.zero_le _
  | _ + 1 => sat_le _ _
/-- A square of the document's in a block. -/
def NdAt (w : World) (b : Nat) (n : Nd) : Prop := w.heap[b]? = some (.cells (ndV n).toArray 64 (0, 0))
theorem NdAt.lt {w : World} {b : Nat} {n : Nd} (h : NdAt w b n) : b < w.heap.size := (Array.getElem?_eq_some_iff.1 h).1
theorem NdAt.cells {w : World} {b : Nat} {n : Nd} (h : NdAt w b n) : w.cell? ⟨b, 0, none⟩ = some (.int .u32 (n.k.1 : Int)) ∧ w.cell? ⟨b, 1, none⟩ = some (.int .u32 (n.k.2.1 : Int)) ∧ w.cell? ⟨b, 2, none⟩ = some (.int .u32 (n.k.2.2.1 : Int)) ∧ w.cell? ⟨b, 3, none⟩ = some (.int .u32 (n.k.2.2.2 : Int)) ∧ w.cell? ⟨b, 4, none⟩ = some (.int .i64 (n.lv : Int)) ∧ w.cell? ⟨b, 5, none⟩ = some (.int .u64 (n.ct : Int)) ∧ w.frozen? ⟨b, 5, none⟩ = false :=
  ⟨by rw [Lib.cell_of_heap h]; rfl, by rw [Lib.cell_of_heap h]; rfl, by rw [Lib.cell_of_heap h]; rfl, by rw [Lib.cell_of_heap h]; rfl, by rw [Lib.cell_of_heap h]; rfl, by rw [Lib.cell_of_heap h]; rfl, Lib.frozen_of_heap h 5⟩
theorem NdAt.set {w : World} {b : Nat} {n : Nd} (h : NdAt w b n) (c : Nat) : NdAt (w.setCell ⟨b, 5, none⟩ (.int .u64 (c : Int))) b ⟨n.k, n.lv, c⟩ := by
  unfold NdAt at h ⊢
  simp only [World.setCell, Array.getElem?_modify, h]
  simp [ndV]
/-- The state while the living are counted. -/
structure Cn (w : World) (mb g cap most : Nat) (N : List Nd) (k : K4) (nb lv c : Nat) (W : World) : Prop where
  st : RSt W mb g cap most N
  ks : RKAt W w.heap.size k
  nd : NdAt W nb ⟨k, lv, c⟩
  bel : Below w.heap.size w W
  lt : mb < nb ∧ g < nb ∧ w.heap.size < nb
theorem RKAt.at {w : World} {b : Nat} {k : K4} (h : RKAt w b k) {j : Nat} (hj : j < 4) : w.cell? ⟨b, j, none⟩ = some (.int .u32 (kAt k j : Int)) := by
  obtain ⟨h0, h1, h2, h3⟩ := h.cells
  match j, hj with
  | 0, _ => exact h0
  | 1, _ => exact h1
  | 2, _ => exact h2
  | 3, _ => exact h3
theorem FitZ.at {N : List Nd} {k : K4} (h : FitZ N k) {j : Nat} (hj : j < 4) : kAt k j < N.length := by
  obtain ⟨h0, h1, h2, h3⟩ := h.lt
  match j, hj with
  | 0, _ => exact h0
  | 1, _ => exact h1
  | 2, _ => exact h2
  | 3, _ => exact h3
theorem Cn.put {w W : World} {mb g cap most : Nat} {N : List Nd} {k : K4} {nb lv c : Nat} (h : Cn w mb g cap most N k nb lv c W) (c' : Nat) : Cn w mb g cap most N k nb lv c' (W.setCell ⟨nb, 5, none⟩ (.int .u64 (c' : Int))) := by
  obtain ⟨l1, l2, l3⟩ := h.lt
  refine ⟨h.st.of_blocks (Below.heap_setCell _ _ _ _ (by simp; omega)) (Below.heap_setCell _ _ _ _ (by simp; omega)), ?_, h.nd.set c', h.bel.setCell (p := ⟨nb, 5, none⟩) (by simp; omega) _, h.lt⟩
  unfold RKAt
  rw [Below.heap_setCell _ _ _ _ (by simp; omega)]; exact h.ks
theorem Cn.drew {w W : World} {mb g cap most : Nat} {N : List Nd} {k : K4} {nb lv c : Nat} (h : Cn w mb g cap most N k nb lv c W) : Cn w mb g cap most N k nb lv c W.drew := ⟨h.st.drew, h.ks, h.nd, h.bel.drew, h.lt⟩

theorem Tryd.infoNd : (Tryd.prog.info? 64).map (fun i => (i.zero, i.size, i.bytes)) = some (some (.agg #[.int .u32 0, .int .u32 0, .int .u32 0, .int .u32 0, .int .i64 0, .int .u64 0]), 6, 32) := by kernel_rfl
theorem infoNd : ∃ i, Tryd.prog.info? 64 = some i ∧ i.zero = some (.agg #[.int .u32 0, .int .u32 0, .int .u32 0, .int .u32 0, .int .i64 0, .int .u64 0]) ∧ i.size = 6 ∧ i.bytes = 32 := by
  obtain ⟨i, hi, h⟩ := Option.map_eq_some_iff.1 Tryd.infoNd
  simp only [Prod.mk.injEq] at h
  exact ⟨i, hi, h.1, h.2.1, h.2.2⟩
theorem ndV_one (n : Nd) : ∀ u ∈ ndV n, u.oneCell' = true := by
  intro u hu
  simp [ndV] at hu
  rcases hu with rfl | rfl | rfl | rfl | rfl | rfl <;> rfl
/-- 'append(s.N, n)' at the operation. -/
theorem wp_rappend (w : World) {o : Oper} {a : Act} {K : Act → World → Prop} {Q : Exit → Act → World → Prop} (s x : Operand) (ho : o.op = .call { callee := .builtin .append, args := #[s, x], argTypes := #[45, 45] })
    {mb g cap most : Nat} {N : List Nd} (h : RSt w mb g cap most N) (hs : a.eval s = .slice (some ⟨g, 0, none⟩) N.length cap) (nb : Nat) (n : Nd) (hx : a.eval x = .slice (some ⟨nb, 0, none⟩) 1 1) (hnb : NdAt w nb n)
    (hK : ∀ g' cap' w', w'.ownsRow 0 64 6 (.slice (some ⟨g', 0, none⟩) (N.length + 1) cap') (N.length + 1) (ndVs N ++ ndV n) → w.grownBy w' (some g) → (g' = g ∨ w.heap.size ≤ g') → K (a.put o.dst (.slice (some ⟨g', 0, none⟩) (N.length + 1) cap')) w') : o.wp Tryd.prog a w K Q := by
  obtain ⟨i0, hi, hz0, hz1, hz2⟩ := infoNd
  have hr := h.room
  have hm := h.most_le
  obtain ⟨cur, hg, hl, hcm, hsz, htk, hfull⟩ := h.row
  by_cases hc : N.length < cap
  · have hown : w.ownsRow 0 64 6 (.slice (some ⟨g, 0, none⟩) N.length cap) N.length (ndVs N) := ⟨ndVs_len N, Or.inr ⟨g, cap, cur, rfl, Nat.zero_le _, hg, hl, hcm, hfull hc, htk⟩⟩
    refine wp_append_lies w s x 45 ho 0 64 i0 _ 6 32 Tryd.underlying45 hi hz0 hz1 hz2 rfl (by decide) _ _ _ hs hown ⟨nb, 0, none⟩ 1 1 (ndV n) hx rfl (World.news_of_block hnb) (ndV_one n) (by decide) (by unfold maxLen; omega) (by omega) (Nat.zero_le _) _ rfl ?_
    intro g' cap' w' h1 h2 h3 _
    refine hK g' cap' w' h1 h2 ?_
    rcases h3 with e | e
    · exact Or.inl (by simpa [Value.ownBlock] using e.symm)
    · exact Or.inr (by omega)
  · have hcap : cap = N.length := by omega
    subst hcap
    obtain ⟨v', w', hrun, r1, r2⟩ := run_append_arg_grows (P := Tryd.prog) w 45 o.type 64 i0 _ 6 32 Tryd.underlying45 hi hz0 hz1 hz2 rfl (by decide) ⟨g, 0, none⟩ N.length N.length (ndVs N) (ndVs_len N) (fun j u hj => by
      have hjl : j < N.length * 6 := by rw [← ndVs_len]; exact (List.getElem?_eq_some_iff.1 hj).1
      rw [Addr.add_lit, Nat.zero_add, h.cellAt j hjl]; exact hj) ⟨nb, 0, none⟩ 1 1 (ndV n) rfl (World.news_of_block hnb) (by omega) (by unfold maxLen; omega) (by omega)
    obtain ⟨g', cap', rfl, hge, _⟩ := r1.form (by omega)
    unfold Oper.wp execOp
    simp only [ho, resolve, invoke, builtin, Sem.run_bind, Sem.run_pure, Result.andThen_ok, List.map_toArray, List.map_cons, List.map_nil, hs, hx, hrun]
    have r1' : w'.ownsRow 0 64 6 (.slice (some ⟨g', 0, none⟩) (N.length + 1) cap') (N.length + 1) (ndVs N ++ ndV n) := ⟨r1.1, r1.2.imp id (fun ⟨g, c, cur, h1, _, r⟩ => ⟨g, c, cur, h1, Nat.zero_le _, r⟩)⟩
    refine hK g' cap' w' r1' ⟨r2.os, r2.tape, r2.output, r2.size, fun b hb _ => r2.block b hb (by simp)⟩ (Or.inr hge)
/-- Behind the store into s.N. -/
theorem rst_added {w W : World} {mb g cap most : Nat} {N : List Nd} (h : RSt w mb g cap most N) {k : K4} (hf : FitZ N k) (hn : findZ N k = none) (hl : N.length < most) {g' cap' : Nat} (hown : W.ownsRow 0 64 6 (.slice (some ⟨g', 0, none⟩) (N.length + 1) cap') (N.length + 1) (ndVs N ++ ndV (newNd N k)))
    (hg : w.grownBy W (some g)) (hat : g' = g ∨ w.heap.size ≤ g') :
    RSt (W.setCell ⟨mb, 0, none⟩ (.slice (some ⟨g', 0, none⟩) (N.length + 1) cap')) mb g' cap' most (N ++ [newNd N k]) ∧ Frm [mb, g] w (W.setCell ⟨mb, 0, none⟩ (.slice (some ⟨g', 0, none⟩) (N.length + 1) cap')) := by
  obtain ⟨l1, l2⟩ := h.lt
  have n3 : mb ≠ g' := by rcases hat with e | e; rw [e]; exact h.ne; omega
  have hb : W.heap[mb]? = w.heap[mb]? := hg.block mb l1 (by have := h.ne; simpa using this)
  have he : ndVs (N ++ [newNd N k]) = ndVs N ++ ndV (newNd N k) := by unfold ndVs; simp
  have hll : (N ++ [newNd N k]).length = N.length + 1 := by simp
  refine ⟨⟨?_, ?_, wf_add h.wf hf hn, by rw [hll]; omega, h.most_le, n3⟩, (Frm.of_grown (F := [mb, g]) hg (fun b e => by cases e; simp)).trans (Frm.of_set (F := [mb, g]) W (by simp) _) (fun b hb => Or.inl hb)⟩
  · rw [hll]
    simp only [World.setCell, Array.getElem?_modify, hb, h.blk]
    simp
  · rw [he, hll]
    rcases hown.2 with ⟨hv, _⟩ | ⟨g2, cp, cur, hv, h0, hgg, hc1, hc2, hc3, hc4⟩
    · cases hv
    · cases hv
      exact ⟨cur, by rw [Below.heap_setCell _ _ _ _ (by simpa using Ne.symm n3)]; exact hgg, hc1, hc2, by rw [hc3]; exact Nat.mul_le_mul_right _ hc1, hc4, fun _ => hc3⟩
theorem Cn.later {w W W' : World} {mb g cap most : Nat} {N : List Nd} {k : K4} {nb lv c : Nat} (h : Cn w mb g cap most N k nb lv c W) (hb : Below W.heap.size W W') : Cn w mb g cap most N k nb lv c W' :=
  ⟨h.st.later hb, h.ks.later hb, by unfold NdAt; rw [hb.block nb h.nd.lt]; exact h.nd, h.bel.trans (hb.mono h.bel.size), h.lt⟩

set_option maxHeartbeats 4000000 in
theorem rmake_any {w : World} {mb g cap most : Nat} {N : List Nd} (h : RSt w mb g cap most N) (k : K4) (hk : InK k) :
    Calls Tryd.prog 13 #[.pointer (some ⟨mb, 0, none⟩), .agg #[.int .u32 (k.1 : Int), .int .u32 (k.2.1 : Int), .int .u32 (k.2.2.1 : Int), .int .u32 (k.2.2.2 : Int)]] w fun e w' => ∃ g' cap', e = .returned (.tuple #[.int .u32 ((mkZ N most k).2.1 : Int), .int .i64 ((mkZ N most k).2.2 : Int)]) ∧ RSt w' mb g' cap' most (mkZ N most k).1 ∧ Frm [mb, g] w w' ∧ (g' = g ∨ w.heap.size ≤ g') := by
  have HS := Lib.hid h
  have HK := Lib.hid hk
  clear h hk
  go_enter Tryd.func13, Tryd.ntmps13
  have HB := Lib.hid (bel1 w (.cells #[.int .u32 (k.1 : Int), .int .u32 (k.2.1 : Int), .int .u32 (k.2.2.1 : Int), .int .u32 (k.2.2.2 : Int)] 48))
  have HS1 := Lib.hid (HS.out.later HB.out)
  have HK1 := Lib.hid (rk_new w k)
  go_wp2_with fail
  generalize w.alloc (.cells #[.int .u32 (k.1 : Int), .int .u32 (k.2.1 : Int), .int .u32 (k.2.2.1 : Int), .int .u32 (k.2.2.2 : Int)] 48) = W at *
  refine (rlevel_any HS1.out k.1 HK.out.1).mono ?_
  rintro e w' ⟨rfl, rfl⟩
  obtain ⟨u0, u1, u2, u3⟩ := HK1.out.cells
  by_cases hf : FitZ N k
  · obtain ⟨f1, f2, f3, f4, f5⟩ := id hf
    have g0 : decide (lvZ N k.1 < 0) = false := by simp; omega
    have g1 : decide (62 ≤ lvZ N k.1) = false := by simp; omega
    have q1 : (lvZ N k.2.1 != lvZ N k.1) = false := by simp [f3]
    have q2 : (lvZ N k.2.2.1 != lvZ N k.1) = false := by simp [f4]
    have q3 : (lvZ N k.2.2.2 != lvZ N k.1) = false := by simp [f5]
    have HF := Lib.hid hf
    clear hf f1 f2 f3 f4 f5
    go_wp2_with fail
    refine (rlevel_any HS1.out k.2.1 HK.out.2.1).mono ?_
    rintro e w' ⟨rfl, rfl⟩
    go_wp2_with fail
    refine (rlevel_any HS1.out k.2.2.1 HK.out.2.2.1).mono ?_
    rintro e w' ⟨rfl, rfl⟩
    go_wp2_with fail
    refine (rlevel_any HS1.out k.2.2.2 HK.out.2.2.2).mono ?_
    rintro e w' ⟨rfl, rfl⟩
    go_wp2_with fail
    clear g0 g1 q1 q2 q3 u0 u1 u2 u3
    go_loopg [7] (N.length - 2) (fun m i wr => ∃ j : Nat, m = N.length - j ∧ 2 ≤ j ∧ j ≤ N.length ∧ i = .int .i64 (j : Int) ∧ RSt wr mb g cap most N ∧ RKAt wr w.heap.size k ∧ Below w.heap.size w wr ∧ ∀ q n, 2 ≤ q → q < j → N[q]? = some n → n.k ≠ k)
    case atStart => exact ⟨2, rfl, Nat.le_refl _, HS1.out.wf.two, rfl, HS1.out, HK1.out, HB.out, fun q n h1 h2 => by omega⟩
    case round =>
      obtain ⟨j, hm, hj2, hj, rfl, hS, hKK, hBB, hno⟩ := hrel
      have HM := Lib.hid hm
      have HNO := Lib.hid hno
      have HS2 := Lib.hid hS
      have HK2 := Lib.hid hKK
      have HB2 := Lib.hid hBB
      clear hm hno hS hKK hBB HS1 HK1 HB HS
      obtain ⟨c0, c1, c2⟩ := HS2.out.cells
      obtain ⟨u0, u1, u2, u3⟩ := HK2.out.cells
      by_cases hlt : j < N.length
      · obtain ⟨n, hn⟩ : ∃ n, N[j]? = some n := ⟨N[j]'hlt, List.getElem?_eq_getElem _⟩
        have hgj : decide (j < N.length) = true := by simpa using hlt
        have hij : (j : Int) < (N.length : Int) := by omega
        have hi0 : (0 : Int) ≤ (j : Int) := by omega
        have hwj : IntKind.i64.wrap ((j : Int) + 1) = (j : Int) + 1 := IntWalk.i64_in _ (by have := HS2.out.room; have := HS2.out.most_le; omega)
        have hwu : IntKind.u32.wrap (j : Int) = (j : Int) := IntWalk.u32_in _ (by have := HS2.out.room; have := HS2.out.most_le; omega)
        obtain ⟨s0, s1, s2, s3, _, _⟩ := HS2.out.sq hn
        have heq := arrR_eq n.k k
        have HN := Lib.hid hn
        clear hn
        by_cases hk : n.k = k
        · have hkb : k4b n.k k = true := by unfold k4b; simpa using hk
          have HFD : Hid (findZ N k = some j) := by show _ = _; rw [← hk]; exact find_at HS2.out.wf hj2 HN.out
          clear hk
          go_wp2_with fail
          go_quiet (fail)
          go_wp2_with fail
          go_ret2
          refine ⟨g, cap, ?_, by rw [mk_there HF.out HFD.out]; exact HS2.out.drewN _, Frm.of_below ⟨HB2.out.os, HB2.out.tape, HB2.out.output, HB2.out.size, HB2.out.block⟩, Or.inl rfl⟩
          rw [mk_there HF.out HFD.out]; rfl
        · have hkb : k4b n.k k = false := by unfold k4b; simpa using hk
          have HNK := Lib.hid hk
          clear hk
          go_wp2_with fail
          go_quiet (fail)
          go_wp2_with fail
          go_roundg (N.length - (j + 1))
          case measure => rw [HM.out]; omega
          case rel =>
            refine ⟨j + 1, rfl, by omega, hlt, by go_num, HS2.out.drewN _, HK2.out, ⟨HB2.out.os, HB2.out.tape, HB2.out.output, HB2.out.size, HB2.out.block⟩, fun q n' h1 h2 hq => ?_⟩
            rcases Nat.lt_or_ge q j with h3 | h3
            · exact HNO.out q n' h1 h3 hq
            · obtain rfl : q = j := by omega
              have := HN.out
              rw [hq] at this
              cases this
              exact HNK.out
      · obtain rfl : j = N.length := by omega
        have hgj : decide (N.length < N.length) = false := by simp
        have HFD : Hid (findZ N k = none) := by
          show _ = _
          cases hfd : findZ N k with
          | none => rfl
          | some i =>
            obtain ⟨h1, n, hn, hk⟩ := find_some hfd
            exact absurd hk (HNO.out i n h1 (List.getElem?_eq_some_iff.1 hn).1 hn)
        by_cases hfull : most ≤ N.length
        · have hgf : decide (most ≤ N.length) = true := by simpa using hfull
          have hgf2 : decide ((most : Int) ≤ (N.length : Int)) = true := by simpa using hfull
          have HFU := Lib.hid hfull
          clear hfull
          go_wp2_with fail
          go_quiet (fail)
          go_wp2_with fail
          go_ret2
          refine ⟨g, cap, ?_, by rw [mk_full HF.out HFD.out HFU.out]; exact HS2.out.drewN _, Frm.of_below ⟨HB2.out.os, HB2.out.tape, HB2.out.output, HB2.out.size, HB2.out.block⟩, Or.inl rfl⟩
          rw [mk_full HF.out HFD.out HFU.out]; rfl
        · have hgf : decide (most ≤ N.length) = false := by simpa using hfull
          have HLV : Hid (IntKind.i64.wrap (lvZ N k.1 + 1) = (((newNd N k).lv : Nat) : Int)) := by
            have h1 := HF.out.1
            have h2 := HF.out.2.1
            show _ = _
            rw [IntWalk.i64_in _ (by omega)]
            simp only [newNd]; omega
          go_wp2_with fail
          go_quiet (fail)
          have HS3 := Lib.hid (HS2.out.drewN nq)
          have HK3 : Hid (RKAt (wr.drewN nq) w.heap.size k) := HK2.out
          have HB3 : Hid (Below w.heap.size w (wr.drewN nq)) := ⟨HB2.out.os, HB2.out.tape, HB2.out.output, HB2.out.size, HB2.out.block⟩
          have HLT : Hid (N.length < most) := by show _ < _; omega
          clear c0 c1 c2 u0 u1 u2 u3 HS2 HK2 HB2 hgj HNO HM hfull
          generalize wr.drewN nq = wx at *
          have hlv := HLV.out
          obtain ⟨c0, c1, c2⟩ := HS3.out.cells
          obtain ⟨u0, u1, u2, u3⟩ := HK3.out.cells
          go_wp2_with fail
          have HCN : Hid (Cn w mb g cap most N k wx.heap.size (newNd N k).lv (pa N k 0) (wx.alloc (.cells #[.int .u32 (k.1 : Int), .int .u32 (k.2.1 : Int), .int .u32 (k.2.2.1 : Int), .int .u32 (k.2.2.2 : Int), .int .i64 (((newNd N k).lv : Nat) : Int), .int .u64 0] 64))) := by
            have hb := bel1 wx (.cells #[.int .u32 (k.1 : Int), .int .u32 (k.2.1 : Int), .int .u32 (k.2.2.1 : Int), .int .u32 (k.2.2.2 : Int), .int .i64 (((newNd N k).lv : Nat) : Int), .int .u64 0] 64)
            exact ⟨HS3.out.later hb, HK3.out.later hb, heap_alloc_new wx _, HB3.out.trans (hb.mono HB3.out.size), ⟨HS3.out.lt.1, HS3.out.lt.2, HK3.out.lt⟩⟩
          clear c0 c1 c2 u0 u1 u2 u3 HS3 HK3 HB3 hlv HLV
          generalize wx.alloc (.cells #[.int .u32 (k.1 : Int), .int .u32 (k.2.1 : Int), .int .u32 (k.2.2.1 : Int), .int .u32 (k.2.2.2 : Int), .int .i64 (((newNd N k).lv : Nat) : Int), .int .u64 0] 64) = w5 at *
          generalize wx.heap.size = nb at *
          generalize hlvv : (newNd N k).lv = lv at *
          have HLV := Lib.hid hlvv
          clear hlvv
          go_loopg [9] 4 (fun m i wr => ∃ j : Nat, m = 4 - j ∧ j ≤ 4 ∧ i = .int .i64 (j : Int) ∧ Cn w mb g cap most N k nb lv (pa N k j) wr)
          case atStart => exact ⟨0, rfl, by omega, rfl, HCN.out⟩
          case round =>
            obtain ⟨j, hm, hj4, rfl, hcn⟩ := hrel
            have HM := Lib.hid hm
            have HC := Lib.hid hcn
            clear hm hcn HCN
            by_cases hlt : j < 4
            · have hgj : decide ((j : Int) < 4) = true := by simp; omega
              have hxl := HF.out.at hlt
              have hct : ctZ N (kAt k j) = N[kAt k j].ct := ct_of hxl
              have s5 := (HC.out.st.sq (List.getElem?_eq_getElem hxl)).2.2.2.2.2
              rw [← hct] at s5
              have HS5 := Lib.hid s5
              have HPL := Lib.hid (plus_any (pa N k j) (ctZ N (kAt k j)) (pa_le N k j) (ctZ_le HC.out.st.wf _))
              have HUJ := Lib.hid (HC.out.ks.at hlt)
              obtain ⟨c0, c1, c2⟩ := HC.out.st.cells
              have n5 := HC.out.nd.cells.2.2.2.2.2.1
              have f5 := HC.out.nd.cells.2.2.2.2.2.2
              have HC0 := Lib.hid c0
              have HN5 := Lib.hid n5
              have HF5 := Lib.hid f5
              have i0 : (0 : Int) ≤ (j : Int) := by omega
              have i1 : (j : Int) < 4 := by omega
              have i2 : ((kAt k j : Nat) : Int) < (N.length : Int) := by omega
              have i3 : (0 : Int) ≤ ((kAt k j : Nat) : Int) := by omega
              clear s5 c0 c1 c2 n5 f5 hct hxl
              generalize hxx : kAt k j = x at *
              have HX := Lib.hid hxx
              clear hxx
              go_wp2_with fail
              refine region_sq 14 (fun W => W = wr.drew) [(0, 1), (2, 1), (3, 1), (4, 1), (6, 1), (7, 1), (1, 2), (5, 2), (8, 2), (9, 1), (10, 1), (11, 2), (12, 0), (13, 1), (14, 3)] (by kernel_rfl) (by kernel_rfl) rfl (by intro c a d v w h; cases d <;> exact h) (by kernel_rfl) rfl ?_
              refine ⟨_, ?_, rfl, by rfl, ?_, ?_⟩
              rotate_left
              · intro W; go_simp; first | done | rfl
              conv => arg 6; simp only [Act.put, List.setIfInBounds_toArray, List.set_cons_zero, List.set_cons_succ]
              refine ⟨_, ?_, rfl, by rfl, ?_, ?_⟩
              rotate_left
              · intro W; go_simp; first | done | rfl
              conv => arg 6; simp only [Act.put, List.setIfInBounds_toArray, List.set_cons_zero, List.set_cons_succ]
              refine ⟨_, ?_, rfl, by rfl, ?_, ?_⟩
              rotate_left
              · intro W; go_simp; first | done | rfl
              conv => arg 6; simp only [Act.put, List.setIfInBounds_toArray, List.set_cons_zero, List.set_cons_succ]
              refine ⟨_, ?_, rfl, by rfl, ?_, ?_⟩
              rotate_left
              · intro W; go_simp; first | done | rfl
              conv => arg 6; simp only [Act.put, List.setIfInBounds_toArray, List.set_cons_zero, List.set_cons_succ]
              refine ⟨_, ?_, rfl, by rfl, ?_, ?_⟩
              rotate_left
              · intro W; go_simp; first | done | rfl
              conv => arg 6; simp only [Act.put, List.setIfInBounds_toArray, List.set_cons_zero, List.set_cons_succ]
              refine ⟨_, ?_, rfl, by rfl, ?_, ?_⟩
              rotate_left
              · intro W; go_simp; first | done | rfl
              conv => arg 6; simp only [Act.put, List.setIfInBounds_toArray, List.set_cons_zero, List.set_cons_succ]
              refine ⟨_, ?_, rfl, by rfl, ?_, ?_⟩
              rotate_left
              · rintro W rfl
                have a0 : wr.drew.cell? ⟨mb, 0, none⟩ = some (.slice (some ⟨g, 0, none⟩) N.length cap) := HC0.out
                have a1 : wr.drew.cell? ⟨nb, 5, none⟩ = some (.int .u64 ((pa N k j : Nat) : Int)) := HN5.out
                have a2 : wr.drew.cell? ⟨w.heap.size, j, none⟩ = some (.int .u32 (x : Int)) := HUJ.out
                have a3 : wr.drew.cell? ⟨g, x * 6 + 5, none⟩ = some (.int .u64 ((ctZ N x : Nat) : Int)) := HS5.out
                go_simp; first | done | rfl
              conv => arg 6; simp only [Act.put, List.setIfInBounds_toArray, List.set_cons_zero, List.set_cons_succ]
              refine ⟨_, ?_, rfl, by rfl, ?_, ?_⟩
              rotate_left
              · rintro W rfl
                have a0 : wr.drew.cell? ⟨mb, 0, none⟩ = some (.slice (some ⟨g, 0, none⟩) N.length cap) := HC0.out
                have a1 : wr.drew.cell? ⟨nb, 5, none⟩ = some (.int .u64 ((pa N k j : Nat) : Int)) := HN5.out
                have a2 : wr.drew.cell? ⟨w.heap.size, j, none⟩ = some (.int .u32 (x : Int)) := HUJ.out
                have a3 : wr.drew.cell? ⟨g, x * 6 + 5, none⟩ = some (.int .u64 ((ctZ N x : Nat) : Int)) := HS5.out
                go_simp; first | done | rfl
              conv => arg 6; simp only [Act.put, List.setIfInBounds_toArray, List.set_cons_zero, List.set_cons_succ]
              refine ⟨_, ?_, rfl, by rfl, ?_, ?_⟩
              rotate_left
              · rintro W rfl
                have a0 : wr.drew.cell? ⟨mb, 0, none⟩ = some (.slice (some ⟨g, 0, none⟩) N.length cap) := HC0.out
                have a1 : wr.drew.cell? ⟨nb, 5, none⟩ = some (.int .u64 ((pa N k j : Nat) : Int)) := HN5.out
                have a2 : wr.drew.cell? ⟨w.heap.size, j, none⟩ = some (.int .u32 (x : Int)) := HUJ.out
                have a3 : wr.drew.cell? ⟨g, x * 6 + 5, none⟩ = some (.int .u64 ((ctZ N x : Nat) : Int)) := HS5.out
                go_simp; first | done | rfl
              conv => arg 6; simp only [Act.put, List.setIfInBounds_toArray, List.set_cons_zero, List.set_cons_succ]
              refine ⟨_, ?_, rfl, by rfl, ?_, ?_⟩
              rotate_left
              · intro W; go_simp; first | done | rfl
              conv => arg 6; simp only [Act.put, List.setIfInBounds_toArray, List.set_cons_zero, List.set_cons_succ]
              refine ⟨_, ?_, rfl, by rfl, ?_, ?_⟩
              rotate_left
              · intro W; go_simp; first | done | rfl
              conv => arg 6; simp only [Act.put, List.setIfInBounds_toArray, List.set_cons_zero, List.set_cons_succ]
              refine ⟨_, ?_, rfl, by rfl, ?_, ?_⟩
              rotate_left
              · rintro W rfl
                have a0 : wr.drew.cell? ⟨mb, 0, none⟩ = some (.slice (some ⟨g, 0, none⟩) N.length cap) := HC0.out
                have a1 : wr.drew.cell? ⟨nb, 5, none⟩ = some (.int .u64 ((pa N k j : Nat) : Int)) := HN5.out
                have a2 : wr.drew.cell? ⟨w.heap.size, j, none⟩ = some (.int .u32 (x : Int)) := HUJ.out
                have a3 : wr.drew.cell? ⟨g, x * 6 + 5, none⟩ = some (.int .u64 ((ctZ N x : Nat) : Int)) := HS5.out
                go_simp; first | done | rfl
              conv => arg 6; simp only [Act.put, List.setIfInBounds_toArray, List.set_cons_zero, List.set_cons_succ]
              refine ⟨_, rfl, by rfl, fun K hK => ?_⟩
              go_simp
              refine (HPL.out _).mono ?_
              rintro e W1 ⟨rfl, rfl⟩
              refine hK _ _ rfl ?_
              clear hK K
              conv => arg 6; simp only [Act.put, List.setIfInBounds_toArray, List.set_cons_zero, List.set_cons_succ]
              refine ⟨_, ?_, rfl, by rfl, ?_, ?_⟩
              rotate_left
              · intro W; go_simp; first | done | rfl
              conv => arg 6; simp only [Act.put, List.setIfInBounds_toArray, List.set_cons_zero, List.set_cons_succ]
              refine ⟨_, rfl, by rfl, fun K hK => ?_⟩
              have n5 : wr.drew.cell? ⟨nb, 5, none⟩ = some (.int .u64 ((pa N k j : Nat) : Int)) := HN5.out
              have f5 : wr.drew.frozen? ⟨nb, 5, none⟩ = false := HF5.out
              go_simp
              refine hK _ _ ?_
              clear hK K n5 f5
              conv => arg 6; simp only [Act.put, List.setIfInBounds_toArray, List.set_cons_zero, List.set_cons_succ]
              unfold wpSq
              go_wp2_with fail
              go_roundg (4 - (j + 1))
              case measure => rw [HM.out]; omega
              case rel => exact ⟨j + 1, rfl, hlt, by go_num, by rw [show pa N k (j + 1) = sat (pa N k j) (ctZ N (kAt k j)) from rfl, HX.out]; exact HC.out.drew.put _⟩
            · obtain rfl : j = 4 := by omega
              have hgj : decide (((4 : Nat) : Int) < 4) = false := by decide
              rw [pa_all] at HC
              go_wp2_with fail
              refine region_sq 7 (fun W => Cn w mb g cap most N k nb lv (livZ N k) W) [(0, 1), (1, 1), (2, 1), (3, 1), (4, 2), (5, 2), (6, 0), (7, 3), (8, 1), (9, 1), (10, 3)] (by kernel_rfl) (by kernel_rfl) rfl (by intro c a d v w h; cases d <;> exact h) (by kernel_rfl) HC.out.drew ?_
              have HCD := Lib.hid HC.out.drew
              clear HC
              generalize wr.drew = wq at *
              refine ⟨_, ?_, rfl, by rfl, ?_, ?_⟩
              rotate_left
              · intro W; go_simp; first | done | rfl
              conv => arg 6; simp only [Act.put, List.setIfInBounds_toArray, List.set_cons_zero, List.set_cons_succ]
              refine ⟨_, ?_, rfl, by rfl, ?_, ?_⟩
              rotate_left
              · intro W; go_simp; first | done | rfl
              conv => arg 6; simp only [Act.put, List.setIfInBounds_toArray, List.set_cons_zero, List.set_cons_succ]
              refine ⟨_, ?_, rfl, by rfl, ?_, ?_⟩
              rotate_left
              · intro W; go_simp; first | done | rfl
              conv => arg 6; simp only [Act.put, List.setIfInBounds_toArray, List.set_cons_zero, List.set_cons_succ]
              refine ⟨_, ?_, rfl, by rfl, ?_, ?_⟩
              rotate_left
              · intro W; go_simp; first | done | rfl
              conv => arg 6; simp only [Act.put, List.setIfInBounds_toArray, List.set_cons_zero, List.set_cons_succ]
              refine ⟨_, ?_, rfl, by rfl, ?_, ?_⟩
              rotate_left
              · intro W hW
                have hW' : Cn w mb g cap most N k nb lv (livZ N k) W := hW
                obtain ⟨c0, c1, c2⟩ := hW'.st.cells
                obtain ⟨n0, n1, n2, n3, n4, n5, _⟩ := hW'.nd.cells
                go_simp; first | done | rfl
              conv => arg 6; simp only [Act.put, List.setIfInBounds_toArray, List.set_cons_zero, List.set_cons_succ]
              refine ⟨_, ?_, rfl, by rfl, ?_, ?_⟩
              rotate_left
              · intro W hW
                have hW' : Cn w mb g cap most N k nb lv (livZ N k) W := hW
                obtain ⟨c0, c1, c2⟩ := hW'.st.cells
                obtain ⟨n0, n1, n2, n3, n4, n5, _⟩ := hW'.nd.cells
                go_simp; first | done | rfl
              conv => arg 6; simp only [Act.put, List.setIfInBounds_toArray, List.set_cons_zero, List.set_cons_succ]
              refine ⟨_, rfl, by rfl, fun K hK => ?_⟩
              go_simp
              have hb := bel1 wq (.cells #[.int .u32 (k.1 : Int), .int .u32 (k.2.1 : Int), .int .u32 (k.2.2.1 : Int), .int .u32 (k.2.2.2 : Int), .int .i64 (lv : Int), .int .u64 ((livZ N k : Nat) : Int)] 64)
              have HC6 := Lib.hid (HCD.out.later hb)
              have HNB : Hid (NdAt (wq.alloc (.cells #[.int .u32 (k.1 : Int), .int .u32 (k.2.1 : Int), .int .u32 (k.2.2.1 : Int), .int .u32 (k.2.2.2 : Int), .int .i64 (lv : Int), .int .u64 ((livZ N k : Nat) : Int)] 64)) wq.heap.size (newNd N k)) := by
                show NdAt _ _ _
                unfold NdAt
                have : (newNd N k).lv = lv := HLV.out
                rw [show (newNd N k) = ⟨k, lv, livZ N k⟩ by rw [← this]; rfl]
                exact heap_alloc_new wq _
              refine hK _ _ HC6.out ?_
              clear hK K hb
              generalize wq.alloc (.cells #[.int .u32 (k.1 : Int), .int .u32 (k.2.1 : Int), .int .u32 (k.2.2.1 : Int), .int .u32 (k.2.2.2 : Int), .int .i64 (lv : Int), .int .u64 ((livZ N k : Nat) : Int)] 64) = W6 at *
              generalize wq.heap.size = b6 at *
              conv => arg 6; simp only [Act.put, List.setIfInBounds_toArray, List.set_cons_zero, List.set_cons_succ]
              refine ⟨_, rfl, by rfl, fun K hK => ?_⟩
              refine wp_rappend _ _ _ (by rfl) HC6.out.st (by rfl) b6 (newNd N k) (by rfl) HNB.out ?_
              intro g7 c7 W7 hown hgrow hat
              have HAD := Lib.hid (rst_added HC6.out.st HF.out HFD.out HLT.out hown hgrow hat)
              have HAT := Lib.hid hat
              have l1 := HC6.out.st.lt.1
              have hsg : some mb ≠ some g := by have := HC6.out.st.ne; simpa using this
              obtain ⟨c0, c1, c2⟩ := HC6.out.st.cells
              have HM0 := Lib.hid ((hgrow.cell_far ⟨mb, 0, none⟩ l1 hsg).trans c0)
              have HM1 := Lib.hid ((hgrow.frozen_far ⟨mb, 0, none⟩ l1 hsg).trans c2)
              refine hK _ _ ?_
              clear hK K hown hgrow hat l1 hsg c0 c1 c2
              conv => arg 6; simp only [Act.put, List.setIfInBounds_toArray, List.set_cons_zero, List.set_cons_succ]
              refine ⟨_, ?_, rfl, by rfl, ?_, ?_⟩
              rotate_left
              · intro W; go_simp; first | done | rfl
              conv => arg 6; simp only [Act.put, List.setIfInBounds_toArray, List.set_cons_zero, List.set_cons_succ]
              refine ⟨_, ?_, rfl, by rfl, ?_, ?_⟩
              rotate_left
              · intro W; go_simp; first | done | rfl
              conv => arg 6; simp only [Act.put, List.setIfInBounds_toArray, List.set_cons_zero, List.set_cons_succ]
              refine ⟨_, rfl, by rfl, fun K hK => ?_⟩
              have s1 := HM0.out
              have s2 := HM1.out
              go_simp
              refine hK _ _ ?_
              clear hK K s1 s2 HM0 HM1
              generalize W7.setCell ⟨mb, 0, none⟩ (.slice (some ⟨g7, 0, none⟩) (N.length + 1) c7) = W8 at *
              conv => arg 6; simp only [Act.put, List.setIfInBounds_toArray, List.set_cons_zero, List.set_cons_succ]
              unfold wpSq
              obtain ⟨d0, d1, d2⟩ := HAD.out.1.cells
              rw [show (N ++ [newNd N k]).length = N.length + 1 by simp] at d0
              have hw0 : IntKind.i64.wrap (((N.length + 1 : Nat) : Int) - 1) = (N.length : Int) := by rw [IntWalk.i64_in _ (by have := HC6.out.st.room; have := HC6.out.st.most_le; omega)]; omega
              have hw1 : IntKind.i64.wrap ((N.length : Int) + 1 - 1) = (N.length : Int) := by rw [IntWalk.i64_in _ (by have := HC6.out.st.room; have := HC6.out.st.most_le; omega)]; omega
              have hw2 : IntKind.i64.wrap (N.length : Int) = (N.length : Int) := IntWalk.i64_in _ (by have := HC6.out.st.room; have := HC6.out.st.most_le; omega)
              have hw3 : IntKind.u32.wrap (N.length : Int) = (N.length : Int) := IntWalk.u32_in _ (by have := HC6.out.st.room; have := HC6.out.st.most_le; omega)
              go_wp2_with fail
              go_ret2
              refine ⟨g7, c7, ?_, by rw [mk_add HF.out HFD.out HLT.out]; exact HAD.out.1, (Frm.of_below (F := [mb, g]) HC6.out.bel).trans HAD.out.2 (fun b hb => Or.inl hb), ?_⟩
              · rw [mk_add HF.out HFD.out HLT.out]; rfl
              · rcases HAT.out with e | e
                · exact Or.inl e
                · exact Or.inr (Nat.le_trans HC6.out.bel.size e)
  · have HNF := Lib.hid hf
    clear hf
    by_cases h0 : lvZ N k.1 < 0
    · have g0 : decide (lvZ N k.1 < 0) = true := by simpa using h0
      go_wp2_with fail
      go_ret2
      refine ⟨g, cap, ?_, by rw [mk_bad HNF.out]; exact HS1.out, Frm.of_below HB.out, Or.inl rfl⟩
      rw [mk_bad HNF.out]; rfl
    have g0 : decide (lvZ N k.1 < 0) = false := by simpa using h0
    by_cases h1 : 62 ≤ lvZ N k.1
    · have g1 : decide (62 ≤ lvZ N k.1) = true := by simpa using h1
      go_wp2_with fail
      go_ret2
      refine ⟨g, cap, ?_, by rw [mk_bad HNF.out]; exact HS1.out, Frm.of_below HB.out, Or.inl rfl⟩
      rw [mk_bad HNF.out]; rfl
    have g1 : decide (62 ≤ lvZ N k.1) = false := by simpa using h1
    by_cases h2 : lvZ N k.2.1 = lvZ N k.1
    · have q1 : (lvZ N k.2.1 != lvZ N k.1) = false := by simp [h2]
      by_cases h3 : lvZ N k.2.2.1 = lvZ N k.1
      · have q2 : (lvZ N k.2.2.1 != lvZ N k.1) = false := by simp [h3]
        have q3 : (lvZ N k.2.2.2 != lvZ N k.1) = true := by
          simp only [bne_iff_ne, ne_eq]
          exact fun e => HNF.out ⟨by omega, by omega, h2, h3, e⟩
        clear h0 h1 h2 h3
        go_wp2_with fail
        refine (rlevel_any HS1.out k.2.1 HK.out.2.1).mono ?_
        rintro e w' ⟨rfl, rfl⟩
        go_wp2_with fail
        refine (rlevel_any HS1.out k.2.2.1 HK.out.2.2.1).mono ?_
        rintro e w' ⟨rfl, rfl⟩
        go_wp2_with fail
        refine (rlevel_any HS1.out k.2.2.2 HK.out.2.2.2).mono ?_
        rintro e w' ⟨rfl, rfl⟩
        go_wp2_with fail
        go_ret2
        refine ⟨g, cap, ?_, by rw [mk_bad HNF.out]; exact HS1.out, Frm.of_below HB.out, Or.inl rfl⟩
        rw [mk_bad HNF.out]; rfl
      · have q2 : (lvZ N k.2.2.1 != lvZ N k.1) = true := by simpa using h3
        clear h0 h1 h2 h3
        go_wp2_with fail
        refine (rlevel_any HS1.out k.2.1 HK.out.2.1).mono ?_
        rintro e w' ⟨rfl, rfl⟩
        go_wp2_with fail
        refine (rlevel_any HS1.out k.2.2.1 HK.out.2.2.1).mono ?_
        rintro e w' ⟨rfl, rfl⟩
        go_wp2_with fail
        go_ret2
        refine ⟨g, cap, ?_, by rw [mk_bad HNF.out]; exact HS1.out, Frm.of_below HB.out, Or.inl rfl⟩
        rw [mk_bad HNF.out]; rfl
    · have q1 : (lvZ N k.2.1 != lvZ N k.1) = true := by simpa using h2
      clear h0 h1 h2
      go_wp2_with fail
      refine (rlevel_any HS1.out k.2.1 HK.out.2.1).mono ?_
      rintro e w' ⟨rfl, rfl⟩
      go_wp2_with fail
      go_ret2
      refine ⟨g, cap, ?_, by rw [mk_bad HNF.out]; exact HS1.out, Frm.of_below HB.out, Or.inl rfl⟩
      rw [mk_bad HNF.out]; rfl
end Go.Proofs.YtjndfdhjipfijaaDoor
