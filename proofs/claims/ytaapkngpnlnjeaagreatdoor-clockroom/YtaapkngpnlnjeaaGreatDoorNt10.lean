/- Package evolve: note: contract. -/
import Derived.Test.YtaapkngpnlnjeaaGreatDoorSe10
namespace Go.Proofs.YtaapkngpnlnjeaaGreatDoor
open Go.RowKit Go.Maps
set_option maxRecDepth 100000

theorem snL_set : ∀ (S : List (K4 × Int)) (j : Nat) (s : K4 × Int), j < S.length → (((((snL S).set (j * 5) (.int .u32 (s.1.1 : Int))).set (j * 5 + 1) (.int .u32 (s.1.2.1 : Int))).set (j * 5 + 2) (.int .u32 (s.1.2.2.1 : Int))).set (j * 5 + 3) (.int .u32 (s.1.2.2.2 : Int))).set (j * 5 + 4) (.int .i64 s.2) = snL (S.set j s)
  | s' :: S, 0, s, _ => rfl
  | s' :: S, j + 1, s, h => by
    have ih := snL_set S j s (by simpa using h)
    have e : ∀ (k : Nat) (v : Value) (T : List Value), ([.int .u32 (s'.1.1 : Int), .int .u32 (s'.1.2.1 : Int), .int .u32 (s'.1.2.2.1 : Int), .int .u32 (s'.1.2.2.2 : Int), .int .i64 s'.2] ++ T : List Value).set ((j + 1) * 5 + k) v = [.int .u32 (s'.1.1 : Int), .int .u32 (s'.1.2.1 : Int), .int .u32 (s'.1.2.2.1 : Int), .int .u32 (s'.1.2.2.2 : Int), .int .i64 s'.2] ++ T.set (j * 5 + k) v := fun k v T => by
      rw [List.set_append_right _ _ (by simp only [List.length_cons, List.length_nil]; omega)]
      congr 2
      simp only [List.length_cons, List.length_nil]; omega
    have e0 := fun v T => e 0 v T
    simp only [Nat.add_zero] at e0
    rw [snL_cons, e0, e 1, e 2, e 3, e 4, ih, List.set_cons_succ, snL_cons]
theorem snL_append (S T : List (K4 × Int)) : snL (S ++ T) = snL S ++ snL T := by unfold snL; rw [List.flatMap_append]
theorem zeL_sn : ∀ m, zeL [.int .u32 0, .int .u32 0, .int .u32 0, .int .u32 0, .int .i64 0] m = snL (List.replicate m (((0, 0, 0, 0) : K4), (0 : Int)))
  | 0 => rfl
  | m + 1 => by rw [zeL, zeL_sn m, List.replicate_succ', snL_append]; rfl
theorem Tryz.infoSg : (Tryz.prog.info? 160).map (fun i => (i.zero, i.size)) = some (some (.agg #[.int .u32 0, .int .u32 0, .int .u32 0, .int .u32 0, .int .i64 0]), 5) := by kernel_rfl
theorem Tryz.infoSb : ((Tryz.prog.info? 160).map (fun i => decide (i.bytes ≤ 24))) = some true := by kernel_rfl
theorem infoSg : ∃ i, Tryz.prog.info? 160 = some i ∧ i.zero = some (.agg #[.int .u32 0, .int .u32 0, .int .u32 0, .int .u32 0, .int .i64 0]) ∧ i.size = 5 ∧ i.bytes ≤ 24 := by
  obtain ⟨i, hi, h⟩ := Option.map_eq_some_iff.1 Tryz.infoSg
  simp only [Prod.mk.injEq] at h
  obtain ⟨i', hi', h'⟩ := Option.map_eq_some_iff.1 Tryz.infoSb
  rw [hi] at hi'
  obtain rfl := Option.some.inj hi'
  exact ⟨i, hi, h.1, h.2, of_decide_eq_true h'⟩
/-- The row of what was seen grows. -/
theorem Me.grow {w : World} {sb g tb most mb : Nat} {N : List Nd} {fb : FbT} {m : Stp → Option Value} (h : Me w sb g tb most N mb fb m) {sv : Value} {cl : Int} {S : List (K4 × Int)} (hb : w.heap[mb]? = some (meO sb fb.f sv cl)) (hrow : w.ownsRow 0 160 5 sv S.length (snL S)) (hq : sv.ownBlock = fb.q)
    (hSl : S.length < N.length) (hS : ∀ j s, S[j]? = some s → 0 < s.2 → s.1 = kidZ N j) (hN : N.length ≤ 1100000) (ty : TypeId) :
    ∃ (gq cap : Nat) (w2 : World) (S' : List (K4 × Int)), (Builtin.append_ #[75, 3] ty #[sv, .int .i64 ((N.length - S.length : Nat) : Int)]).run Tryz.prog w = .ok (.slice (some ⟨gq, 0, none⟩) N.length cap) w2 ∧ (w2.cell? ⟨mb, 2, none⟩ = some sv ∧ w2.frozen? ⟨mb, 2, none⟩ = false) ∧
      Mx sb tb mb most w g N fb m 0 (w2.setCell ⟨mb, 2, none⟩ (.slice (some ⟨gq, 0, none⟩) N.length cap)) g N ⟨fb.f, some gq⟩ m ∧ S'.length = N.length ∧ (w2.setCell ⟨mb, 2, none⟩ (.slice (some ⟨gq, 0, none⟩) N.length cap)).heap[mb]? = some (meO sb fb.f (.slice (some ⟨gq, 0, none⟩) N.length cap) cl) ∧
      (w2.setCell ⟨mb, 2, none⟩ (.slice (some ⟨gq, 0, none⟩) N.length cap)).ownsRow 0 160 5 (.slice (some ⟨gq, 0, none⟩) N.length cap) S'.length (snL S') ∧ (∀ j s, S'[j]? = some s → 0 < s.2 → s.1 = kidZ N j) := by
  obtain ⟨i, hi, hz, hsz, hby⟩ := infoSg
  have hnm : S.length + (N.length - S.length) = N.length := by omega
  obtain ⟨gq, cap, w2, hrun, hown, hgrow, hat⟩ := run_append_zeros (P := Tryz.prog) w 0 75 3 ty 160 i _ 5 i.bytes Tryz.underlying75 Tryz.underlying3 hi hz hsz rfl rfl (by decide) (by intro u hu; simp [Value.cells] at hu; rcases hu with rfl | rfl <;> rfl) sv S.length (snL S) hrow (N.length - S.length) (by omega) (by rw [hnm]; unfold maxLen; omega) (by rw [hnm]; calc N.length * i.bytes ≤ 1100000 * 24 := Nat.mul_le_mul hN hby
    _ ≤ 140737488355328 := by decide) (Nat.zero_le _)
  rw [hnm] at hrun hown
  have hzl : (Value.agg #[.int .u32 0, .int .u32 0, .int .u32 0, .int .u32 0, .int .i64 0]).cells.toList = [.int .u32 0, .int .u32 0, .int .u32 0, .int .u32 0, .int .i64 0] := rfl
  rw [hzl, zeL_sn, ← snL_append] at hown
  obtain ⟨cap0, hst⟩ := h.st
  obtain ⟨l1, l2, l3⟩ := hst.lt
  obtain ⟨a1, a2, a3⟩ := h.ap
  have hml := h.mlt
  have hbq : ∀ b, fb.q = some b → b < w.heap.size := fun b e => h.flt (mem_bl.2 (Or.inr e))
  have hap : ∀ b, b < w.heap.size → fb.q ≠ some b → w2.heap[b]? = w.heap[b]? := fun b hb hn => hgrow.block b hb (by rw [hq]; exact fun e => hn (e ▸ rfl))
  have hqn : ∀ b, (b = sb ∨ b = g ∨ b = tb ∨ b = mb) → fb.q ≠ some b := fun b hb' e => by
    obtain ⟨q1, q2, q3, q4⟩ := h.apf b (mem_bl.2 (Or.inr e))
    rcases hb' with e | e | e | e
    · exact q1 e
    · exact q2 e
    · exact q3 e
    · exact q4 e
  have hmb2 : w2.heap[mb]? = some (meO sb fb.f sv cl) := by rw [hap mb hml (hqn mb (by simp))]; exact hb
  have hgqn : gq ≠ sb ∧ gq ≠ g ∧ gq ≠ tb ∧ gq ≠ mb := by
    rcases hat with e | e
    · exact h.apf gq (mem_bl.2 (Or.inr (hq ▸ e)))
    · omega
  have hne : ∀ b, b ≠ mb → (w2.setCell ⟨mb, 2, none⟩ (.slice (some ⟨gq, 0, none⟩) N.length cap)).heap[b]? = w2.heap[b]? := fun b hb' => Below.heap_setCell _ _ _ _ hb'
  have hmbn : (w2.setCell ⟨mb, 2, none⟩ (.slice (some ⟨gq, 0, none⟩) N.length cap)).heap[mb]? = some (meO sb fb.f (.slice (some ⟨gq, 0, none⟩) N.length cap) cl) := by
    simp only [World.setCell, Array.getElem?_modify, hmb2, meO]
    simp
  have hrow2 : (w2.setCell ⟨mb, 2, none⟩ (.slice (some ⟨gq, 0, none⟩) N.length cap)).ownsRow 0 160 5 (.slice (some ⟨gq, 0, none⟩) N.length cap) (S ++ List.replicate (N.length - S.length) (((0, 0, 0, 0) : K4), (0 : Int))).length (snL (S ++ List.replicate (N.length - S.length) (((0, 0, 0, 0) : K4), (0 : Int)))) := by
    have e : (S ++ List.replicate (N.length - S.length) (((0, 0, 0, 0) : K4), (0 : Int))).length = N.length := by rw [List.length_append, List.length_replicate]; omega
    rw [e]
    exact ownsRow_blk hown fun b e => by cases e; exact hne _ hgqn.2.2.2
  have hinv : ∀ j s, (S ++ List.replicate (N.length - S.length) (((0, 0, 0, 0) : K4), (0 : Int)))[j]? = some s → 0 < s.2 → s.1 = kidZ N j := fun j s hj hs => by
    rw [List.getElem?_append] at hj
    split at hj
    · exact hS j s hj hs
    · rw [List.getElem?_replicate] at hj
      split at hj
      · cases hj; cases hs
      · cases hj
  have hlen' : (S ++ List.replicate (N.length - S.length) (((0, 0, 0, 0) : K4), (0 : Int))).length = N.length := by rw [List.length_append, List.length_replicate]; omega
  refine ⟨gq, cap, w2, _, hrun, ⟨by rw [Lib.cell_of_heap hmb2]; rfl, Lib.frozen_of_heap hmb2 2⟩, ⟨⟨⟨cap0, hst.keep ?_ ?_ ?_⟩, ⟨_, _, hmbn, _, hrow2, rfl, Nat.le_of_eq hlen', hinv⟩, ?_, h.tr, h.ap, fun b hb' => ?_⟩, ⟨hgrow.os, hgrow.tape, hgrow.output, by simpa using hgrow.size, fun b h1 h2 => ?_⟩, Or.inl rfl, fun b hb' => ?_, ⟨[], by simp, by simp⟩, fun _ _ h => h⟩, hlen', hmbn, hrow2, hinv⟩
  · rw [hne sb (Ne.symm a1), hap sb l1 (hqn sb (by simp))]
  · rw [hne g (Ne.symm a2), hap g l2 (hqn g (by simp))]
  · rw [hne tb (Ne.symm a3), hap tb l3 (hqn tb (by simp))]
  · refine h.mp.imp id fun ⟨b, e, hm⟩ => ⟨b, e, hm.blk ?_⟩
    rw [hne b (h.apf b (mem_bl.2 (Or.inl e))).2.2.2, hap b hm.lt (h.fq e)]
  · rcases mem_bl.1 hb' with e | e
    · exact h.apf b (mem_bl.2 (Or.inl e))
    · cases e; exact hgqn
  · simp only [List.mem_cons, not_or] at h2
    rw [hne b h2.2.2.2.1, hap b h1 (fun e => h2.2.2.2.2 (mem_bl.2 (Or.inr e)))]
  · rcases mem_bl.1 hb' with e | e
    · exact Or.inl (mem_bl.2 (Or.inl e))
    · cases e
      rcases hat with e | e
      · exact Or.inl (mem_bl.2 (Or.inr (hq ▸ e)))
      · exact Or.inr (by omega)
theorem one_set {w W : World} {gq : Nat} (h : Frm [gq] w W ∧ ∀ b, b ≠ gq → W.heap[b]? = w.heap[b]?) (i : Nat) (v : Value) : Frm [gq] w (W.setCell ⟨gq, i, none⟩ v) ∧ ∀ b, b ≠ gq → (W.setCell ⟨gq, i, none⟩ v).heap[b]? = w.heap[b]? :=
  ⟨h.1.trans (Frm.of_set (F := [gq]) W (p := ⟨gq, i, none⟩) List.mem_cons_self v) fun _ hb => Or.inl hb, fun b hb => (Below.heap_setCell _ _ _ _ hb).trans (h.2 b hb)⟩
theorem five_set (w : World) (gq : Nat) (i0 i1 i2 i3 i4 : Nat) (v0 v1 v2 v3 v4 : Value) : ∃ W, ((((w.setCell ⟨gq, i0, none⟩ v0).setCell ⟨gq, i1, none⟩ v1).setCell ⟨gq, i2, none⟩ v2).setCell ⟨gq, i3, none⟩ v3).setCell ⟨gq, i4, none⟩ v4 = W ∧ Frm [gq] w W ∧ ∀ b, b ≠ gq → W.heap[b]? = w.heap[b]? :=
  ⟨_, rfl, one_set (one_set (one_set (one_set (one_set ⟨Frm.refl _ w, fun _ _ => rfl⟩ i0 v0) i1 v1) i2 v2) i3 v3) i4 v4⟩
/-- What is seen of a square is noted. -/
theorem Me.noted {w : World} {sb g tb most mb : Nat} {N : List Nd} {fb : FbT} {m : Stp → Option Value} (h : Me w sb g tb most N mb fb m) {gq cap : Nat} {cl : Int} {S : List (K4 × Int)} (hb : w.heap[mb]? = some (meO sb fb.f (.slice (some ⟨gq, 0, none⟩) S.length cap) cl)) (hrow : w.ownsRow 0 160 5 (.slice (some ⟨gq, 0, none⟩) S.length cap) S.length (snL S)) (hq : fb.q = some gq)
    (hSl : S.length ≤ N.length) (hS : ∀ j s, S[j]? = some s → 0 < s.2 → s.1 = kidZ N j) {x : Nat} (hx : x < S.length) (k : K4) (hk : kidZ N x = k) (c : Int) :
    Mx sb tb mb most w g N fb m 0 (((((w.setCell ⟨gq, x * 5, none⟩ (.int .u32 (k.1 : Int))).setCell ⟨gq, x * 5 + 1, none⟩ (.int .u32 (k.2.1 : Int))).setCell ⟨gq, x * 5 + 2, none⟩ (.int .u32 (k.2.2.1 : Int))).setCell ⟨gq, x * 5 + 3, none⟩ (.int .u32 (k.2.2.2 : Int))).setCell ⟨gq, x * 5 + 4, none⟩ (.int .i64 c)) g N fb m := by
  obtain ⟨cap0, hst⟩ := h.st
  obtain ⟨a1, a2, a3⟩ := h.ap
  obtain ⟨q1, q2, q3, q4⟩ := h.apf gq (mem_bl.2 (Or.inr hq))
  have hr := (((((hrow.stored (x * 5) (.int .u32 (k.1 : Int))).1.stored (x * 5 + 1) (.int .u32 (k.2.1 : Int))).1.stored (x * 5 + 2) (.int .u32 (k.2.2.1 : Int))).1.stored (x * 5 + 3) (.int .u32 (k.2.2.2 : Int))).1.stored (x * 5 + 4) (.int .i64 c)).1
  rw [show ((((((snL S).set (x * 5) (.int .u32 (k.1 : Int))).set (x * 5 + 1) (.int .u32 (k.2.1 : Int))).set (x * 5 + 2) (.int .u32 (k.2.2.1 : Int))).set (x * 5 + 3) (.int .u32 (k.2.2.2 : Int))).set (x * 5 + 4) (.int .i64 c)) = snL (S.set x (k, c)) from snL_set S x (k, c) hx] at hr
  obtain ⟨W, hW, hF, hne⟩ := five_set w gq (x * 5) (x * 5 + 1) (x * 5 + 2) (x * 5 + 3) (x * 5 + 4) (.int .u32 (k.1 : Int)) (.int .u32 (k.2.1 : Int)) (.int .u32 (k.2.2.1 : Int)) (.int .u32 (k.2.2.2 : Int)) (.int .i64 c)
  rw [hW] at hr ⊢
  clear hW
  have e : (S.set x (k, c)).length = S.length := List.length_set
  refine ⟨⟨⟨cap0, hst.keep (hne sb (Ne.symm q1)) (hne g (Ne.symm q2)) (hne tb (Ne.symm q3))⟩, ⟨.slice (some ⟨gq, 0, none⟩) S.length cap, cl, by rw [hne mb (Ne.symm q4)]; exact hb, S.set x (k, c), by rw [e]; exact hr, hq.symm, by rw [e]; exact hSl, fun j s hj hs => ?_⟩, ?_, h.tr, h.ap, h.apf⟩, ⟨hF.os, hF.tape, hF.output, hF.size, fun b h1 h2 => hne b (fun e => h2 (by simp [e, mem_bl, hq]))⟩, Or.inl rfl, fun _ h => Or.inl h, ⟨[], by simp, by simp⟩, fun _ _ h => h⟩
  · rw [List.getElem?_set] at hj
    split at hj
    · rename_i hxj
      subst hxj
      simp only [Option.some.injEq] at hj
      rw [← hj]; exact hk.symm
    · exact hS j s hj hs
  · refine h.mp.imp id fun ⟨b, e, hm⟩ => ⟨b, e, hm.blk (hne b ?_)⟩
    rintro rfl
    exact h.fq e hq
set_option maxHeartbeats 4000000 in
theorem note_any {w : World} {sb g tb most mb : Nat} {N : List Nd} {fb : FbT} {m : Stp → Option Value} (h : Me w sb g tb most N mb fb m) {n x : Nat} (hx : Sq N n x) (k : K4) (hk : kidZ N x = k) :
    Calls Tryz.prog 97 #[.pointer (some ⟨mb, 0, none⟩), .int .u32 (x : Int), .agg #[.int .u32 (k.1 : Int), .int .u32 (k.2.1 : Int), .int .u32 (k.2.2.1 : Int), .int .u32 (k.2.2.2 : Int)]] w fun e w' => e = .returned (.tuple #[]) ∧ ∃ fb', Mx sb tb mb most w g N fb m 0 w' g N fb' m := by
  have hxu : x < 4294967296 := by obtain ⟨cap, hs⟩ := h.st; exact Sq.u32 hs hx
  have hxl := hx.lt
  have hN : N.length ≤ 1100000 := by obtain ⟨cap, hs⟩ := h.st; have h2 := hs.room; have h3 := hs.most_le; omega
  have HB := Lib.hid (bel1 w (.cells #[.int .u32 (k.1 : Int), .int .u32 (k.2.1 : Int), .int .u32 (k.2.2.1 : Int), .int .u32 (k.2.2.2 : Int)] 63))
  have HO : Hid (Oe (w.alloc (.cells #[.int .u32 (k.1 : Int), .int .u32 (k.2.1 : Int), .int .u32 (k.2.2.1 : Int), .int .u32 (k.2.2.2 : Int)] 63)) sb g tb mb fb w.heap.size (kO k)) := Oe.new h _ _
  have HM0 := Lib.hid (Mx.of_below h HB.out)
  have HK := Lib.hid hk
  have w1 : IntKind.i64.wrap (x : Int) = (x : Int) := IntWalk.i64_in _ (by omega)
  clear h hk
  go_enter Tryz.func97, Tryz.ntmps97
  go_upto_region 1 with fail
  generalize w.alloc (.cells #[.int .u32 (k.1 : Int), .int .u32 (k.2.1 : Int), .int .u32 (k.2.2.1 : Int), .int .u32 (k.2.2.2 : Int)] 63) = W0 at *
  obtain ⟨sv, cl, hblk, S, hrow, hq, hSl, hS⟩ := HM0.out.me.blk
  have HBK := Lib.hid hblk
  have HROW := Lib.hid hrow
  have HQ := Lib.hid hq
  have HSL := Lib.hid hSl
  have HIN := Lib.hid hS
  clear hblk hrow hq hSl hS
  by_cases h2 : x < S.length
  · have g2 : decide (S.length ≤ x) = false := decide_eq_false (by omega)
    have g2' : decide ((S.length : Int) ≤ (x : Int)) = false := decide_eq_false (by omega)
    obtain ⟨A, c, rfl, hA⟩ := row_form HROW.out
    obtain ⟨gq, rfl⟩ := hA (by omega)
    have mv : W0.cell? ⟨mb, 2, none⟩ = some (.slice (some ⟨gq, 0, none⟩) S.length c) := by rw [Lib.cell_of_heap HBK.out]; rfl
    have m2 : W0.cell? ⟨mb, 3, none⟩ = some (.int .i64 cl) := by rw [Lib.cell_of_heap HBK.out]; rfl
    have HNT := Lib.hid (HM0.out.me.noted HBK.out HROW.out HQ.out.symm HSL.out HIN.out h2 k HK.out cl)
    obtain ⟨s, hs⟩ : ∃ s, S[x]? = some s := ⟨S[x], List.getElem?_eq_getElem h2⟩
    obtain ⟨s0, s1, s2, s3, s4⟩ := sight_cells HROW.out hs
    have HF := Lib.hid (fun j => HROW.out.frozenAt j)
    have f0 := HF.out (x * 5)
    have f1 := HF.out (x * 5 + 1)
    have f2 := HF.out (x * 5 + 2)
    have f3 := HF.out (x * 5 + 3)
    have f4 := HF.out (x * 5 + 4)
    have HC := Lib.hid (And.intro s0 (And.intro s1 (And.intro s2 (And.intro s3 (And.intro s4 (And.intro f0 (And.intro f1 (And.intro f2 (And.intro f3 f4)))))))))
    have i1 : (0 : Int) ≤ (x : Int) := by omega
    have i2 : (x : Int) < (S.length : Int) := by omega
    obtain ⟨k0, k1, k2, k3⟩ := k_cells HO.out.at_
    clear s0 s1 s2 s3 s4 f0 f1 f2 f3 f4 hA hs
    generalize hgl : S.length = sl at *
    go_upto_region 3 with fail
    refine region_sq 12 (fun W => W = W0.drew) [(0, 1), (1, 1), (2, 1), (3, 2), (4, 1), (5, 2), (6, 1), (7, 1), (8, 1), (9, 2), (10, 1), (11, 1), (12, 3)] (by kernel_rfl) (by kernel_rfl) rfl (by intro c a d v w h; cases d <;> exact h) (by kernel_rfl) rfl ?_
    refine ⟨_, ?_, rfl, by rfl, ?_, ?_⟩
    rotate_left
    · intro W; go_simp; first | done | rfl
    conv => arg 6; simp only [Act.put, List.setIfInBounds_toArray, List.set_cons_zero, List.set_cons_succ]
    refine ⟨_, ?_, rfl, by rfl, ?_, ?_⟩
    rotate_left
    · intro W; go_simp; first | done | rfl
    conv => arg 6; simp only [Act.put, List.setIfInBounds_toArray, List.set_cons_zero, List.set_cons_succ]
    refine ⟨_, ?_, rfl, by rfl, ?_, ?_⟩
    rotate_left
    · intro W; go_simp; first | done | rfl
    conv => arg 6; simp only [Act.put, List.setIfInBounds_toArray, List.set_cons_zero, List.set_cons_succ]
    refine ⟨_, ?_, rfl, by rfl, ?_, ?_⟩
    rotate_left
    · rintro W rfl
      skip
      go_simp; first | done | rfl
    conv => arg 6; simp only [Act.put, List.setIfInBounds_toArray, List.set_cons_zero, List.set_cons_succ]
    refine ⟨_, ?_, rfl, by rfl, ?_, ?_⟩
    rotate_left
    · intro W; go_simp; first | done | rfl
    conv => arg 6; simp only [Act.put, List.setIfInBounds_toArray, List.set_cons_zero, List.set_cons_succ]
    refine ⟨_, ?_, rfl, by rfl, ?_, ?_⟩
    rotate_left
    · rintro W rfl
      skip
      go_simp; first | done | rfl
    conv => arg 6; simp only [Act.put, List.setIfInBounds_toArray, List.set_cons_zero, List.set_cons_succ]
    refine ⟨_, ?_, rfl, by rfl, ?_, ?_⟩
    rotate_left
    · intro W; go_simp; first | done | rfl
    conv => arg 6; simp only [Act.put, List.setIfInBounds_toArray, List.set_cons_zero, List.set_cons_succ]
    refine ⟨_, ?_, rfl, by rfl, ?_, ?_⟩
    rotate_left
    · intro W; go_simp; first | done | rfl
    conv => arg 6; simp only [Act.put, List.setIfInBounds_toArray, List.set_cons_zero, List.set_cons_succ]
    refine ⟨_, ?_, rfl, by rfl, ?_, ?_⟩
    rotate_left
    · intro W; go_simp; first | done | rfl
    conv => arg 6; simp only [Act.put, List.setIfInBounds_toArray, List.set_cons_zero, List.set_cons_succ]
    refine ⟨_, ?_, rfl, by rfl, ?_, ?_⟩
    rotate_left
    · rintro W rfl
      skip
      go_simp; first | done | rfl
    conv => arg 6; simp only [Act.put, List.setIfInBounds_toArray, List.set_cons_zero, List.set_cons_succ]
    refine ⟨_, ?_, rfl, by rfl, ?_, ?_⟩
    rotate_left
    · intro W; go_simp; first | done | rfl
    conv => arg 6; simp only [Act.put, List.setIfInBounds_toArray, List.set_cons_zero, List.set_cons_succ]
    refine ⟨_, ?_, rfl, by rfl, ?_, ?_⟩
    rotate_left
    · intro W; go_simp; first | done | rfl
    conv => arg 6; simp only [Act.put, List.setIfInBounds_toArray, List.set_cons_zero, List.set_cons_succ]
    refine ⟨_, rfl, by rfl, fun K hK => ?_⟩
    obtain ⟨s0, s1, s2, s3, s4, f0, f1, f2, f3, f4⟩ := HC.out
    go_simp
    refine hK _ _ ?_
    clear hK K s0 s1 s2 s3 s4 f0 f1 f2 f3 f4
    conv => arg 6; simp only [Act.put, List.setIfInBounds_toArray, List.set_cons_zero, List.set_cons_succ]
    unfold wpSq
    go_wp2_with fail
    refine bodyPost_end (results_none rfl _ _ _) rfl ?_
    exact ⟨rfl, fb, (HM0.out.trans HNT.out).drew.mono (by omega)⟩
  · have g2 : decide (S.length ≤ x) = true := decide_eq_true (by omega)
    have g2' : decide ((S.length : Int) ≤ (x : Int)) = true := decide_eq_true (by omega)
    obtain ⟨A, c, rfl, hA⟩ := row_form HROW.out
    have mv : W0.cell? ⟨mb, 2, none⟩ = some (.slice A S.length c) := by rw [Lib.cell_of_heap HBK.out]; rfl
    have m0 : W0.cell? ⟨mb, 0, none⟩ = some (.pointer (some ⟨sb, 0, none⟩)) := by rw [Lib.cell_of_heap HBK.out]; rfl
    have HLN : Hid (Calls Tryz.prog 54 #[.pointer (some ⟨sb, 0, none⟩)] W0.drew fun e w' => e = .returned (.int .i64 (N.length : Int)) ∧ W0.drew = w') := by
      obtain ⟨cap, hs⟩ := HM0.out.me.st
      exact len_any hs.drew
    obtain ⟨gq, cap, w2, S', hrun, hw2, hmx, hSl', hbk', hrow', hin'⟩ := HM0.out.me.drew.grow HBK.out HROW.out HQ.out (by omega) HIN.out hN 75
    have HRUN := Lib.hid hrun
    have HW2 := Lib.hid hw2
    have HMX := Lib.hid hmx
    have HBK' := Lib.hid hbk'
    have HROW' := Lib.hid hrow'
    have HIN' := Lib.hid hin'
    have hsub : IntKind.i64.wrap ((N.length : Int) - (S.length : Int)) = ((N.length - S.length : Nat) : Int) := by rw [show (N.length : Int) - (S.length : Int) = ((N.length - S.length : Nat) : Int) by omega]; exact IntWalk.i64_in _ (by omega)
    clear hrun hw2 hmx hbk' hrow' hin' hA HBK HROW HIN
    go_upto_region 2 with fail
    generalize hgs : S.length = sl at *
    refine region_sq 16 (fun W => W = W0.drew) [(0, 1), (1, 1), (2, 1), (3, 1), (4, 2), (5, 1), (6, 1), (7, 1), (8, 2), (10, 1), (11, 1), (12, 1), (13, 2), (14, 1), (9, 0), (15, 1), (16, 3), (17, 1), (18, 1), (19, 3)] (by kernel_rfl) (by kernel_rfl) rfl (by intro c a d v w h; cases d <;> exact h) (by kernel_rfl) rfl ?_
    refine ⟨_, ?_, rfl, by rfl, ?_, ?_⟩
    rotate_left
    · intro W; go_simp; first | done | rfl
    conv => arg 6; simp only [Act.put, List.setIfInBounds_toArray, List.set_cons_zero, List.set_cons_succ]
    refine ⟨_, ?_, rfl, by rfl, ?_, ?_⟩
    rotate_left
    · intro W; go_simp; first | done | rfl
    conv => arg 6; simp only [Act.put, List.setIfInBounds_toArray, List.set_cons_zero, List.set_cons_succ]
    refine ⟨_, ?_, rfl, by rfl, ?_, ?_⟩
    rotate_left
    · intro W; go_simp; first | done | rfl
    conv => arg 6; simp only [Act.put, List.setIfInBounds_toArray, List.set_cons_zero, List.set_cons_succ]
    refine ⟨_, ?_, rfl, by rfl, ?_, ?_⟩
    rotate_left
    · intro W; go_simp; first | done | rfl
    conv => arg 6; simp only [Act.put, List.setIfInBounds_toArray, List.set_cons_zero, List.set_cons_succ]
    refine ⟨_, ?_, rfl, by rfl, ?_, ?_⟩
    rotate_left
    · rintro W rfl
      skip
      go_simp; first | done | rfl
    conv => arg 6; simp only [Act.put, List.setIfInBounds_toArray, List.set_cons_zero, List.set_cons_succ]
    refine ⟨_, ?_, rfl, by rfl, ?_, ?_⟩
    rotate_left
    · intro W; go_simp; first | done | rfl
    conv => arg 6; simp only [Act.put, List.setIfInBounds_toArray, List.set_cons_zero, List.set_cons_succ]
    refine ⟨_, ?_, rfl, by rfl, ?_, ?_⟩
    rotate_left
    · intro W; go_simp; first | done | rfl
    conv => arg 6; simp only [Act.put, List.setIfInBounds_toArray, List.set_cons_zero, List.set_cons_succ]
    refine ⟨_, ?_, rfl, by rfl, ?_, ?_⟩
    rotate_left
    · intro W; go_simp; first | done | rfl
    conv => arg 6; simp only [Act.put, List.setIfInBounds_toArray, List.set_cons_zero, List.set_cons_succ]
    refine ⟨_, ?_, rfl, by rfl, ?_, ?_⟩
    rotate_left
    · rintro W rfl
      skip
      go_simp; first | done | rfl
    conv => arg 6; simp only [Act.put, List.setIfInBounds_toArray, List.set_cons_zero, List.set_cons_succ]
    refine ⟨_, ?_, rfl, by rfl, ?_, ?_⟩
    rotate_left
    · intro W; go_simp; first | done | rfl
    conv => arg 6; simp only [Act.put, List.setIfInBounds_toArray, List.set_cons_zero, List.set_cons_succ]
    refine ⟨_, ?_, rfl, by rfl, ?_, ?_⟩
    rotate_left
    · intro W; go_simp; first | done | rfl
    conv => arg 6; simp only [Act.put, List.setIfInBounds_toArray, List.set_cons_zero, List.set_cons_succ]
    refine ⟨_, ?_, rfl, by rfl, ?_, ?_⟩
    rotate_left
    · intro W; go_simp; first | done | rfl
    conv => arg 6; simp only [Act.put, List.setIfInBounds_toArray, List.set_cons_zero, List.set_cons_succ]
    refine ⟨_, ?_, rfl, by rfl, ?_, ?_⟩
    rotate_left
    · rintro W rfl
      skip
      go_simp; first | done | rfl
    conv => arg 6; simp only [Act.put, List.setIfInBounds_toArray, List.set_cons_zero, List.set_cons_succ]
    refine ⟨_, ?_, rfl, by rfl, ?_, ?_⟩
    rotate_left
    · intro W; go_simp; first | done | rfl
    conv => arg 6; simp only [Act.put, List.setIfInBounds_toArray, List.set_cons_zero, List.set_cons_succ]
    refine ⟨_, rfl, by rfl, fun K hK => ?_⟩
    go_simp
    refine HLN.out.mono ?_
    rintro e w6 ⟨rfl, rfl⟩
    refine hK _ _ rfl ?_
    clear hK K
    conv => arg 6; simp only [Act.put, List.setIfInBounds_toArray, List.set_cons_zero, List.set_cons_succ]
    refine ⟨_, ?_, rfl, by rfl, ?_, ?_⟩
    rotate_left
    · intro W; go_simp; first | done | rfl
    conv => arg 6; simp only [Act.put, List.setIfInBounds_toArray, List.set_cons_zero, List.set_cons_succ]
    refine ⟨_, rfl, by rfl, fun K hK => ?_⟩
    refine wp_append_run _ _ _ _ (by rfl) (by rfl) (by rfl) HRUN.out ?_
    refine hK _ _ ?_
    clear hK K
    conv => arg 6; simp only [Act.put, List.setIfInBounds_toArray, List.set_cons_zero, List.set_cons_succ]
    refine ⟨_, ?_, rfl, by rfl, ?_, ?_⟩
    rotate_left
    · intro W; go_simp; first | done | rfl
    conv => arg 6; simp only [Act.put, List.setIfInBounds_toArray, List.set_cons_zero, List.set_cons_succ]
    refine ⟨_, ?_, rfl, by rfl, ?_, ?_⟩
    rotate_left
    · intro W; go_simp; first | done | rfl
    conv => arg 6; simp only [Act.put, List.setIfInBounds_toArray, List.set_cons_zero, List.set_cons_succ]
    refine ⟨_, rfl, by rfl, fun K hK => ?_⟩
    obtain ⟨s1, s2⟩ := HW2.out
    go_simp
    refine hK _ _ ?_
    clear hK K s1 s2
    conv => arg 6; simp only [Act.put, List.setIfInBounds_toArray, List.set_cons_zero, List.set_cons_succ]
    unfold wpSq
    have HM1 := Lib.hid (HM0.out.trans HMX.out.undrew)
    have HO1 := Lib.hid (HO.out.drew.mx HMX.out)
    clear HMX HLN m0 mv HO HM0
    generalize w2.setCell ⟨mb, 2, none⟩ (.slice (some ⟨gq, 0, none⟩) N.length cap) = W1 at *
    rw [← hSl'] at HBK' HROW'
    have hx' : x < S'.length := by omega
    have mv : W1.cell? ⟨mb, 2, none⟩ = some (.slice (some ⟨gq, 0, none⟩) S'.length cap) := by rw [Lib.cell_of_heap HBK'.out]; rfl
    have m2 : W1.cell? ⟨mb, 3, none⟩ = some (.int .i64 cl) := by rw [Lib.cell_of_heap HBK'.out]; rfl
    have HNT := Lib.hid (HM1.out.me.noted HBK'.out HROW'.out rfl (Nat.le_of_eq hSl') HIN'.out hx' k HK.out cl)
    obtain ⟨s, hs⟩ : ∃ s, S'[x]? = some s := ⟨S'[x], List.getElem?_eq_getElem hx'⟩
    obtain ⟨s0, s1, s2, s3, s4⟩ := sight_cells HROW'.out hs
    have HF := Lib.hid (fun j => HROW'.out.frozenAt j)
    have f0 := HF.out (x * 5)
    have f1 := HF.out (x * 5 + 1)
    have f2 := HF.out (x * 5 + 2)
    have f3 := HF.out (x * 5 + 3)
    have f4 := HF.out (x * 5 + 4)
    have HC := Lib.hid (And.intro s0 (And.intro s1 (And.intro s2 (And.intro s3 (And.intro s4 (And.intro f0 (And.intro f1 (And.intro f2 (And.intro f3 f4)))))))))
    have i1 : (0 : Int) ≤ (x : Int) := by omega
    have i2 : (x : Int) < (S'.length : Int) := by omega
    obtain ⟨k0, k1, k2, k3⟩ := k_cells HO1.out.at_
    clear s0 s1 s2 s3 s4 f0 f1 f2 f3 f4 hs HRUN HW2
    generalize hgl : S'.length = sl' at *
    go_upto_region 3 with fail
    refine region_sq 12 (fun W => W = W1.drew) [(0, 1), (1, 1), (2, 1), (3, 2), (4, 1), (5, 2), (6, 1), (7, 1), (8, 1), (9, 2), (10, 1), (11, 1), (12, 3)] (by kernel_rfl) (by kernel_rfl) rfl (by intro c a d v w h; cases d <;> exact h) (by kernel_rfl) rfl ?_
    refine ⟨_, ?_, rfl, by rfl, ?_, ?_⟩
    rotate_left
    · intro W; go_simp; first | done | rfl
    conv => arg 6; simp only [Act.put, List.setIfInBounds_toArray, List.set_cons_zero, List.set_cons_succ]
    refine ⟨_, ?_, rfl, by rfl, ?_, ?_⟩
    rotate_left
    · intro W; go_simp; first | done | rfl
    conv => arg 6; simp only [Act.put, List.setIfInBounds_toArray, List.set_cons_zero, List.set_cons_succ]
    refine ⟨_, ?_, rfl, by rfl, ?_, ?_⟩
    rotate_left
    · intro W; go_simp; first | done | rfl
    conv => arg 6; simp only [Act.put, List.setIfInBounds_toArray, List.set_cons_zero, List.set_cons_succ]
    refine ⟨_, ?_, rfl, by rfl, ?_, ?_⟩
    rotate_left
    · rintro W rfl
      skip
      go_simp; first | done | rfl
    conv => arg 6; simp only [Act.put, List.setIfInBounds_toArray, List.set_cons_zero, List.set_cons_succ]
    refine ⟨_, ?_, rfl, by rfl, ?_, ?_⟩
    rotate_left
    · intro W; go_simp; first | done | rfl
    conv => arg 6; simp only [Act.put, List.setIfInBounds_toArray, List.set_cons_zero, List.set_cons_succ]
    refine ⟨_, ?_, rfl, by rfl, ?_, ?_⟩
    rotate_left
    · rintro W rfl
      skip
      go_simp; first | done | rfl
    conv => arg 6; simp only [Act.put, List.setIfInBounds_toArray, List.set_cons_zero, List.set_cons_succ]
    refine ⟨_, ?_, rfl, by rfl, ?_, ?_⟩
    rotate_left
    · intro W; go_simp; first | done | rfl
    conv => arg 6; simp only [Act.put, List.setIfInBounds_toArray, List.set_cons_zero, List.set_cons_succ]
    refine ⟨_, ?_, rfl, by rfl, ?_, ?_⟩
    rotate_left
    · intro W; go_simp; first | done | rfl
    conv => arg 6; simp only [Act.put, List.setIfInBounds_toArray, List.set_cons_zero, List.set_cons_succ]
    refine ⟨_, ?_, rfl, by rfl, ?_, ?_⟩
    rotate_left
    · intro W; go_simp; first | done | rfl
    conv => arg 6; simp only [Act.put, List.setIfInBounds_toArray, List.set_cons_zero, List.set_cons_succ]
    refine ⟨_, ?_, rfl, by rfl, ?_, ?_⟩
    rotate_left
    · rintro W rfl
      skip
      go_simp; first | done | rfl
    conv => arg 6; simp only [Act.put, List.setIfInBounds_toArray, List.set_cons_zero, List.set_cons_succ]
    refine ⟨_, ?_, rfl, by rfl, ?_, ?_⟩
    rotate_left
    · intro W; go_simp; first | done | rfl
    conv => arg 6; simp only [Act.put, List.setIfInBounds_toArray, List.set_cons_zero, List.set_cons_succ]
    refine ⟨_, ?_, rfl, by rfl, ?_, ?_⟩
    rotate_left
    · intro W; go_simp; first | done | rfl
    conv => arg 6; simp only [Act.put, List.setIfInBounds_toArray, List.set_cons_zero, List.set_cons_succ]
    refine ⟨_, rfl, by rfl, fun K hK => ?_⟩
    obtain ⟨s0, s1, s2, s3, s4, f0, f1, f2, f3, f4⟩ := HC.out
    go_simp
    refine hK _ _ ?_
    clear hK K s0 s1 s2 s3 s4 f0 f1 f2 f3 f4
    conv => arg 6; simp only [Act.put, List.setIfInBounds_toArray, List.set_cons_zero, List.set_cons_succ]
    unfold wpSq
    go_wp2_with fail
    refine bodyPost_end (results_none rfl _ _ _) rfl ?_
    exact ⟨rfl, _, (HM1.out.trans HNT.out).drew.mono (by omega)⟩
end Go.Proofs.YtaapkngpnlnjeaaGreatDoor
