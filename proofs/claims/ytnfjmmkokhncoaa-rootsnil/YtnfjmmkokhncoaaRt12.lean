/- Package roots: contracts. -/
import Derived.Test.YtnfjmmkokhncoaaGd12
namespace Go.Proofs.Ytnfjmmkokhncoaa
open Go.RowKit Go.Maps
set_option maxRecDepth 100000

theorem bl1 (w : World) (o : Obj) : Below w.heap.size w (w.alloc o) := (Below.refl _ w).alloc (Nat.le_refl _) o
theorem nw2 (w : World) (o1 o2 : Obj) : ((w.alloc o1).alloc o2).heap[w.heap.size + 1]? = some o2 := by
  have := heap_alloc_new (w.alloc o1) o2
  rw [World.size_alloc] at this
  exact this
set_option maxHeartbeats 1000000 in
theorem new12 (n : Int) (w : World) : Calls Try.prog 15 #[.int .i64 n] w fun e w' => ∃ rb mb : Nat, e = .returned (.pointer (some ⟨rb, 0, none⟩)) ∧ Rts w' rb mb n 0 (fun _ => none) ∧ Below w.heap.size w w' ∧ w.heap.size ≤ rb ∧ w.heap.size ≤ mb := by
  have hmm := @run_makeMap Try.prog
  have HB : Hid (Below w.heap.size w ((w.alloc (.map #[] 0)).alloc (.cells #[.map (some w.heap.size), .int .i64 n, .int .i64 0] 47))) := (bl1 w _).trans ((bl1 _ _).mono (by simp))
  have hm := (gmap_new mkR w).later (bl1 _ (.cells #[.map (some w.heap.size), .int .i64 n, .int .i64 0] 47))
  have HR : Hid (Rts ((w.alloc (.map #[] 0)).alloc (.cells #[.map (some w.heap.size), .int .i64 n, .int .i64 0] 47)) (w.heap.size + 1) w.heap.size n 0 (fun _ => none)) := ⟨nw2 w _ _, hm, by omega, fun h r e => by cases e⟩
  clear hm
  go_enter Try.func15, Try.ntmps15
  go_wp2_with fail
  go_ret
  exact ⟨_, _, rfl, HR.out, HB.out, by omega, Nat.le_refl _⟩
theorem res_cellR {P : Program} {fn : Func} {tmps : Array Value} {w : World} {i j : Nat} {t : TypeId} {ad : Addr} {v u : Value} (hr : fn.results = #[.cell i t, .tmp j]) (ha : tmps.getD i undef = .pointer (some ad)) (hj : tmps.getD j undef = u) (hl : (loadVar t ad).run P w = .ok v w) : (results fn tmps).run P w = .ok (.tuple #[v, u]) w := by
  unfold results
  rw [hr]
  rw [Array.getD_eq_getD_getElem?] at ha hj
  simp [ha, hj, asAddr, hl]
/-- A root in a block. -/
def rtO (x : Nat) (n : Int) : Obj := .cells #[.int .u32 (x : Int), .int .i64 n] 49 (0, 0)
theorem rt_cells {w : World} {b x : Nat} {n : Int} (h : w.heap[b]? = some (rtO x n)) : w.cell? ⟨b, 0, none⟩ = some (.int .u32 (x : Int)) ∧ w.cell? ⟨b, 1, none⟩ = some (.int .i64 n) ∧ w.frozen? ⟨b, 0, none⟩ = false ∧ w.frozen? ⟨b, 1, none⟩ = false :=
  ⟨by rw [Lib.cell_of_heap h]; rfl, by rw [Lib.cell_of_heap h]; rfl, Lib.frozen_of_heap h 0, Lib.frozen_of_heap h 1⟩
theorem rt_put {w : World} {b x y : Nat} {n k : Int} (h : w.heap[b]? = some (rtO x n)) : ((w.setCell ⟨b, 0, none⟩ (.int .u32 (y : Int))).setCell ⟨b, 1, none⟩ (.int .i64 k)).heap[b]? = some (rtO y k) := by
  simp only [World.setCell, Array.getElem?_modify, h, rtO]; simp
theorem rt_ret {fn : Func} {tmps : Array Value} {w : World} {i j b x : Nat} {n : Int} {u : Value} (hr : fn.results = #[.cell i 49, .tmp j]) (ha : tmps.getD i undef = .pointer (some ⟨b, 0, none⟩)) (hj : tmps.getD j undef = u) (h : w.heap[b]? = some (rtO x n)) : (results fn tmps).run Try.prog w = .ok (.tuple #[.agg #[.int .u32 (x : Int), .int .i64 n], u]) w :=
  res_cellR hr ha hj (run_loadVar_row w b 49 49 _ (0, 0) _ h Try.underlying49 rfl (by as_aux_lemma => kernel_rfl))
theorem kp12 {w w' : World} {b : Nat} {o : Obj} (h : w.heap[b]? = some o) (hb : Below w.heap.size w w') : w'.heap[b]? = some o := by
  rw [hb.block b (Array.getElem?_eq_some_iff.1 h).1]; exact h
set_option maxHeartbeats 1000000 in
theorem find12_nil (h : Int) (w : World) : Calls Try.prog 16 #[.pointer none, .int .i64 h] w fun e w' => e = .returned (.tuple #[.agg #[.int .u32 0, .int .i64 0], .bool false]) ∧ Below w.heap.size w w' := by
  have HZ : Hid ((w.alloc (.cells #[.int .u32 0, .int .i64 0] 49)).heap[w.heap.size]? = some (rtO 0 0)) := heap_alloc_new w _
  have HB := Lib.hid (bl1 w (.cells #[.int .u32 0, .int .i64 0] 49))
  obtain ⟨z0, z1, f0, f1⟩ := rt_cells HZ.out
  go_enter Try.func16, Try.ntmps16
  go_wp2_with fail
  refine bodyPost_ret (rt_ret (i := 4) (j := 5) rfl rfl rfl HZ.out) rfl ?_
  exact ⟨rfl, HB.out⟩
/-- What find answers. -/
def fdV : Option Rt12 → Value
  | some r => .tuple #[.agg #[.int .u32 (r.x : Int), .int .i64 (r.n : Int)], .bool true]
  | none => .tuple #[.agg #[.int .u32 0, .int .i64 0], .bool false]
/-- The result's cell, made. -/
theorem fd_start {w : World} {rb mb last : Nat} {most : Int} {m : Int → Option Rt12} (h : Rts w rb mb most last m) : ∃ W, w.alloc (.cells #[.int .u32 0, .int .i64 0] 49) = W ∧ Rts W rb mb most last m ∧ W.heap[w.heap.size]? = some (rtO 0 0) ∧ Below w.heap.size w W :=
  ⟨_, rfl, h.later (bl1 w _), heap_alloc_new w _, bl1 w _⟩
set_option maxHeartbeats 1000000 in
theorem find12 {w : World} {rb mb last : Nat} {most : Int} {m : Int → Option Rt12} (h : Rts w rb mb most last m) (i : Int) (hi : HaOk i) : Calls Try.prog 16 #[.pointer (some ⟨rb, 0, none⟩), .int .i64 i] w fun e w' => e = .returned (fdV (m i)) ∧ Below w.heap.size w w' := by
  obtain ⟨W, hW, hR, hz, hb⟩ := fd_start h
  have HB := Lib.hid hb
  have HZ := Lib.hid hz
  have hl : ∃ (x n : Nat) (ok : Bool), (Instr.lookup 45 (.map (some mb)) (.int .i64 i) true).run Try.prog W = .ok (.tuple #[.agg #[.int .u32 (x : Int), .int .i64 (n : Int)], .bool ok]) W ∧ fdV (m i) = .tuple #[.agg #[.int .u32 (x : Int), .int .i64 (n : Int)], .bool ok] := by
    have hh := hR.mp.look i hi
    cases hm : m i with
    | some r => exact ⟨r.x, r.n, true, hh.1 (rtV r) (by rw [hm]; rfl), rfl⟩
    | none => exact ⟨0, 0, false, hh.2 (by rw [hm]; rfl), rfl⟩
  obtain ⟨x, n, ok, hl, hend⟩ := hl
  have HE := Lib.hid hend
  have HW := Lib.hid hW
  obtain ⟨c0, c1, c2, f⟩ := hR.cells
  have HY : Hid ((W.alloc (.cells #[.int .u32 (x : Int), .int .i64 (n : Int)] 49)).heap[W.heap.size]? = some (rtO x n)) := heap_alloc_new W _
  have HZ2 := Lib.hid (kp12 hz (bl1 W (.cells #[.int .u32 (x : Int), .int .i64 (n : Int)] 49)))
  have HB2 := Lib.hid (hb.trans ((bl1 W (.cells #[.int .u32 (x : Int), .int .i64 (n : Int)] 49)).mono hb.size))
  obtain ⟨z0, z1, f0, f1⟩ := rt_cells HZ2.out
  obtain ⟨y0, y1, _, _⟩ := rt_cells HY.out
  clear h hW hR hz hb hend
  go_enter Try.func16, Try.ntmps16
  go_upto_region 3 with fail
  rw [HW.out]
  go_wp2_with fail
  refine bodyPost_ret (rt_ret (i := 4) (j := 5) rfl rfl rfl (rt_put HZ2.out)) rfl ?_
  exact ⟨by rw [HE.out]; rfl, (HB2.out.setCell (p := ⟨w.heap.size, 0, none⟩) (Nat.le_refl _) _).setCell (p := ⟨w.heap.size, 1, none⟩) (Nat.le_refl _) _⟩
set_option maxHeartbeats 1000000 in
theorem get12_nil (h : Int) (w : World) : Calls Try.prog 6 #[.pointer none, .int .i64 h] w fun e w' => e = .returned (.tuple #[.int .u32 0, .bool false]) ∧ Below w.heap.size w w' := by
  go_enter Try.func6, Try.ntmps6
  go_wp2_with fail
  refine (find12_nil h w).mono ?_
  rintro e W ⟨rfl, hb⟩
  have HB := Lib.hid hb
  have HY : Hid ((W.alloc (.cells #[.int .u32 0, .int .i64 0] 49)).heap[W.heap.size]? = some (rtO 0 0)) := heap_alloc_new W _
  have HB2 := Lib.hid (hb.trans ((bl1 W (.cells #[.int .u32 0, .int .i64 0] 49)).mono hb.size))
  obtain ⟨y0, y1, _, _⟩ := rt_cells HY.out
  clear hb
  go_wp2_with fail
  go_ret2
  exact ⟨rfl, HB2.out⟩
/-- What Get answers. -/
def gtV : Option Rt12 → Value
  | some r => .tuple #[.int .u32 (r.x : Int), .bool true]
  | none => .tuple #[.int .u32 0, .bool false]
set_option maxHeartbeats 1000000 in
theorem get12 {w : World} {rb mb last : Nat} {most : Int} {m : Int → Option Rt12} (h : Rts w rb mb most last m) (i : Int) (hi : HaOk i) : Calls Try.prog 6 #[.pointer (some ⟨rb, 0, none⟩), .int .i64 i] w fun e w' => e = .returned (gtV (m i)) ∧ Below w.heap.size w w' := by
  have hf := find12 h i hi
  have hv : ∃ (x n : Nat) (ok : Bool), fdV (m i) = .tuple #[.agg #[.int .u32 (x : Int), .int .i64 (n : Int)], .bool ok] ∧ gtV (m i) = .tuple #[.int .u32 (x : Int), .bool ok] := by
    cases m i with
    | some r => exact ⟨r.x, r.n, true, rfl, rfl⟩
    | none => exact ⟨0, 0, false, rfl, rfl⟩
  obtain ⟨x, n, ok, h1, h2⟩ := hv
  rw [h1] at hf
  rw [h2]
  have HF := Lib.hid hf
  clear h hf h1 h2
  go_enter Try.func6, Try.ntmps6
  go_wp2_with fail
  refine HF.out.mono ?_
  rintro e W ⟨rfl, hb⟩
  have HY : Hid ((W.alloc (.cells #[.int .u32 (x : Int), .int .i64 (n : Int)] 49)).heap[W.heap.size]? = some (rtO x n)) := heap_alloc_new W _
  have HB2 := Lib.hid (hb.trans ((bl1 W (.cells #[.int .u32 (x : Int), .int .i64 (n : Int)] 49)).mono hb.size))
  obtain ⟨y0, y1, _, _⟩ := rt_cells HY.out
  clear hb
  go_wp2_with fail
  go_ret2
  exact ⟨rfl, HB2.out⟩
theorem set12_nil (h x : Int) (w : World) : Calls Try.prog 9 #[.pointer none, .int .i64 h, .int .u32 x] w fun e w' => e = .returned (.iface 35 (.int .i64 6)) ∧ Below w.heap.size w w' := by
  go_enter Try.func9, Try.ntmps9
  go_wp2_with fail
  refine (find12_nil h w).mono ?_
  rintro e W ⟨rfl, hb⟩
  have HB2 := Lib.hid (hb.trans ((bl1 W (.cells #[.int .u32 0, .int .i64 0] 49)).mono hb.size))
  clear hb
  go_wp2_with fail
  go_ret
  exact ⟨rfl, HB2.out⟩
theorem take12_nil (h : Int) (w : World) : Calls Try.prog 10 #[.pointer none, .int .i64 h] w fun e w' => e = .returned (.iface 35 (.int .i64 6)) ∧ Below w.heap.size w w' := by
  go_enter Try.func10, Try.ntmps10
  go_wp2_with fail
  refine (find12_nil h w).mono ?_
  rintro e W ⟨rfl, hb⟩
  have HB2 := Lib.hid (hb.trans ((bl1 W (.cells #[.int .u32 0, .int .i64 0] 49)).mono hb.size))
  clear hb
  go_wp2_with fail
  go_ret
  exact ⟨rfl, HB2.out⟩
theorem drop12_nil (h : Int) (w : World) : Calls Try.prog 11 #[.pointer none, .int .i64 h] w fun e w' => e = .returned (.iface 35 (.int .i64 6)) ∧ Below w.heap.size w w' := by
  go_enter Try.func11, Try.ntmps11
  go_wp2_with fail
  refine (find12_nil h w).mono ?_
  rintro e W ⟨rfl, hb⟩
  have HB2 := Lib.hid (hb.trans ((bl1 W (.cells #[.int .u32 0, .int .i64 0] 49)).mono hb.size))
  clear hb
  go_wp2_with fail
  go_ret
  exact ⟨rfl, HB2.out⟩
theorem put12_nil (x : Int) (w : World) : Calls Try.prog 5 #[.pointer none, .int .u32 x] w fun e w' => e = .returned (.tuple #[.int .i64 0, .iface 35 (.int .i64 1)]) ∧ Below w.heap.size w w' := by
  go_enter Try.func5, Try.ntmps5
  go_wp2_with fail
  go_ret2
  exact ⟨rfl, Below.refl _ _⟩
theorem len12_nil (w : World) : Calls Try.prog 12 #[.pointer none] w fun e w' => e = .returned (.int .i64 0) ∧ Below w.heap.size w w' := by
  go_enter Try.func12, Try.ntmps12
  go_wp2_with fail
  go_ret
  exact ⟨rfl, Below.refl _ _⟩
theorem all12_nil (w : World) : Calls Try.prog 13 #[.pointer none] w fun e w' => e = .returned (.slice none 0 0) ∧ Below w.heap.size w w' := by
  go_enter Try.func13, Try.ntmps13
  go_wp2_with fail
  go_ret
  exact ⟨rfl, Below.refl _ _⟩
theorem squares12_nil (w : World) : Calls Try.prog 14 #[.pointer none] w fun e w' => e = .returned (.slice none 0 0) ∧ Below w.heap.size w w' := by
  go_enter Try.func14, Try.ntmps14
  go_wp2_with fail
  go_ret
  exact ⟨rfl, Below.refl _ _⟩
theorem change12_none (p : Value) (w : World) : Calls Try.prog 7 #[p, .nilFunc] w fun e w' => e = .returned (.tuple #[]) ∧ Below w.heap.size w w' := by
  have he : ∀ W, (binOp .eql 52 .nilFunc .nilFunc).run Try.prog W = .ok (.bool true) W := fun W => by kernel_rfl
  go_enter Try.func7, Try.ntmps7
  go_wp2_with fail
  refine bodyPost_ret (results_none rfl _ _ _) rfl ?_
  exact ⟨rfl, Below.refl _ _⟩
/-- Roots are changed: what was below stays. -/
theorem Rts.set {w : World} {rb mb last : Nat} {most : Int} {m : Int → Option Rt12} (h : Rts w rb mb most last m) (i : Int) (hi : HaOk i) (r : Rt12) (h1 : 1 ≤ i) (h2 : i ≤ last) (hx : r.x < 4294967296) (hn : 1 ≤ r.n ∧ r.n ≤ 1000000) (k : Int) (hk : k = r.n) :
    ∃ w', (Instr.mapUpdate 45 (.map (some mb)) (.int .i64 i) (.agg #[.int .u32 (r.x : Int), .int .i64 k])).run Try.prog w = .ok () w' ∧ Rts w' rb mb most last (fun j => if j = i then some r else m j) ∧ ∀ B, B ≤ mb → B ≤ w.heap.size → Below B w w' := by
  subst hk
  obtain ⟨w', e, hm, hg⟩ := h.mp.put i hi (rtV r)
  refine ⟨w', e, ⟨?_, ?_, h.ap, fun j q hq => ?_⟩, fun B hB hS => (Below.refl B w).grown hg hS (fun k hk => by cases hk; exact hB)⟩
  · rw [hg.block rb h.lt (fun e => h.ap (Option.some.inj e).symm)]; exact h.blk
  · have : (fun x => if x = i then some (rtV r) else (m x).map rtV) = fun x => (if x = i then some r else m x).map rtV := by
      funext x; split <;> rfl
    rw [← this]; exact hm
  · by_cases e : j = i
    · subst e
      rw [if_pos rfl] at hq
      obtain rfl := Option.some.inj hq
      exact ⟨h1, h2, hx, hn⟩
    · rw [if_neg e] at hq
      exact h.all j q hq
theorem Rts.del {w : World} {rb mb last : Nat} {most : Int} {m : Int → Option Rt12} (h : Rts w rb mb most last m) (i : Int) (hi : HaOk i) (ty : TypeId) :
    ∃ w', (Builtin.delete_ #[45, 24] ty #[.map (some mb), .int .i64 i]).run Try.prog w = .ok (.tuple #[]) w' ∧ Rts w' rb mb most last (fun j => if j = i then none else m j) ∧ ∀ B, B ≤ mb → B ≤ w.heap.size → Below B w w' := by
  obtain ⟨w', e, hm, hg⟩ := h.mp.del i hi ty
  refine ⟨w', e, ⟨?_, ?_, h.ap, fun j q hq => ?_⟩, fun B hB hS => (Below.refl B w).grown hg hS (fun k hk => by cases hk; exact hB)⟩
  · rw [hg.block rb h.lt (fun e => h.ap (Option.some.inj e).symm)]; exact h.blk
  · have : (fun x => if x = i then none else (m x).map rtV) = fun x => (if x = i then none else m x).map rtV := by
      funext x; split <;> rfl
    rw [← this]; exact hm
  · by_cases e : j = i
    · rw [if_pos e] at hq; cases hq
    · rw [if_neg e] at hq
      exact h.all j q hq
theorem Rts.drewN {w : World} {rb mb last : Nat} {most : Int} {m : Int → Option Rt12} (h : Rts w rb mb most last m) (q : Nat) : Rts (w.drewN q) rb mb most last m := ⟨h.blk, h.mp.drewN q, h.ap, h.all⟩
/-- The last handle, written. -/
theorem Rts.last_ {w : World} {rb mb last : Nat} {most : Int} {m : Int → Option Rt12} (h : Rts w rb mb most last m) (_ : last < 1000000) : Rts (w.setCell ⟨rb, 2, none⟩ (.int .i64 ((last : Int) + 1))) rb mb most (last + 1) m := by
  refine ⟨?_, h.mp.blk (Below.heap_setCell _ _ _ _ h.ap), h.ap, fun j q hq => by have := h.all j q hq; omega⟩
  simp only [World.setCell, Array.getElem?_modify, h.blk]
  simp
set_option maxHeartbeats 2000000 in
/-- One more root, where there is room. -/
theorem put12 {w : World} {rb mb last : Nat} {most : Int} {m : Int → Option Rt12} (h : Rts w rb mb most last m) (hl : last < 1000000) (ks : List Int) (hn : ks.Nodup) (hk : ∀ a, a ∈ ks ↔ (m a).isSome = true) (hc : (ks.length : Int) < most) (x : Nat) (hx : x < 4294967296) :
    Calls Try.prog 5 #[.pointer (some ⟨rb, 0, none⟩), .int .u32 (x : Int)] w fun e w' => e = .returned (.tuple #[.int .i64 ((last : Int) + 1), .nilIface]) ∧ Rts w' rb mb most (last + 1) (fun j => if j = (last : Int) + 1 then some ⟨x, 1⟩ else m j) ∧ ∀ B, B ≤ rb → B ≤ mb → B ≤ w.heap.size → Below B w w' := by
  have hd : Rts w.drew rb mb most last m := h.drewN 1
  have hbd : ∀ B, B ≤ w.heap.size → Below B w w.drew := fun B hB => ⟨rfl, rfl, rfl, Nat.le_refl _, fun _ _ => rfl⟩
  have hlen0 := h.mp.len_ ks hn (fun a => by rw [hk]; cases m a <;> rfl)
  have hlen := hd.mp.len_ ks hn (fun a => by rw [hk]; cases m a <;> rfl)
  obtain ⟨a0, a1, a2, _⟩ := h.cells
  obtain ⟨c0, c1, c2, f⟩ := hd.cells
  have hg : decide (most ≤ (ks.length : Int)) = false := by simp; omega
  have hf2 := f 2
  have hw1 : IntKind.i64.wrap ((last : Int) + 1) = (last : Int) + 1 := IntWalk.i64_in _ (by omega)
  obtain ⟨W3, hW3⟩ : ∃ W3, (w.setCell ⟨rb, 2, none⟩ (.int .i64 ((last : Int) + 1))).drew = W3 := ⟨_, rfl⟩
  have hL : Rts W3 rb mb most (last + 1) m := by rw [← hW3]; exact hd.last_ hl
  have hb3 : ∀ B, B ≤ rb → B ≤ w.heap.size → Below B w W3 := fun B h1 h3 => by
    rw [← hW3]; exact (hbd B h3).setCell (p := ⟨rb, 2, none⟩) h1 (.int .i64 ((last : Int) + 1))
  have hsz : W3.heap.size = w.heap.size := by rw [← hW3]; simp [World.drew]
  have hLd : Rts W3.drew rb mb most (last + 1) m := hL.drewN 1
  obtain ⟨w1, r1, hR, hb1⟩ := hLd.set ((last : Int) + 1) ⟨by omega, by omega⟩ ⟨x, 1⟩ (by omega) (by omega) hx ⟨Nat.le_refl _, by simp⟩ 1 rfl
  obtain ⟨d0, d1, d2, _⟩ := hL.cells
  obtain ⟨d3, d4, d5, _⟩ := hLd.cells
  obtain ⟨e0, e1, e2, _⟩ := hR.cells
  have HR := Lib.hid hR
  have HB : Hid (∀ B, B ≤ rb → B ≤ mb → B ≤ w.heap.size → Below B w w1) := fun B h1 h2 h3 => (hb3 B h1 h3).trans ((show Below B W3 W3.drew from ⟨rfl, rfl, rfl, Nat.le_refl _, fun _ _ => rfl⟩).trans (hb1 B h2 (by show B ≤ W3.heap.size; omega)))
  have HW3 := Lib.hid hW3
  have r1' : (Instr.mapUpdate 45 (.map (some mb)) (.int .i64 ((last : Int) + 1)) (.agg #[.int .u32 (x : Int), .int .i64 1])).run Try.prog W3.drew = .ok () w1 := r1
  have ec : (((last + 1 : Nat) : Int)) = (last : Int) + 1 := by omega
  rw [ec] at d2 d5 e2
  clear h hL hR hb1 f hn hk hd hbd hLd hW3 hb3 hsz r1 ec
  go_enter Try.func5, Try.ntmps5
  go_upto_region 3 with fail
  go_region_with fail
  all_goals
    go_upto_region 6 with fail
    rw [HW3.out]
    clear a0 a1 a2 c0 c1 c2 hlen0 hlen hf2
    go_region_with fail
    all_goals
      go_wp2_with fail
      go_ret2
      exact ⟨rfl, HR.out, HB.out⟩
/-- A root in a block of its own, behind a call. -/
theorem own_rt {w : World} {rb mb last : Nat} {most : Int} {m : Int → Option Rt12} (h : Rts w rb mb most last m) (x : Nat) (k : Int) : ∃ W2, w.alloc (.cells #[.int .u32 (x : Int), .int .i64 k] 49) = W2 ∧ Rts W2 rb mb most last m ∧ W2.heap[w.heap.size]? = some (rtO x k) ∧ Below w.heap.size w W2 :=
  ⟨_, rfl, h.later (bl1 w _), heap_alloc_new w _, bl1 w _⟩
set_option maxHeartbeats 2000000 in
theorem take12 {w : World} {rb mb last : Nat} {most : Int} {m : Int → Option Rt12} (h : Rts w rb mb most last m) (i : Int) (hi : HaOk i) (r : Rt12) (hr : m i = some r) (hn : r.n < 1000000) :
    Calls Try.prog 10 #[.pointer (some ⟨rb, 0, none⟩), .int .i64 i] w fun e w' => e = .returned .nilIface ∧ Rts w' rb mb most last (fun j => if j = i then some ⟨r.x, r.n + 1⟩ else m j) ∧ ∀ B, B ≤ rb → B ≤ mb → B ≤ w.heap.size → Below B w w' := by
  have hf := find12 h i hi
  rw [hr] at hf
  have hf' : Calls Try.prog 16 #[.pointer (some ⟨rb, 0, none⟩), .int .i64 i] w fun e w' => e = .returned (.tuple #[.agg #[.int .u32 (r.x : Int), .int .i64 (r.n : Int)], .bool true]) ∧ Below w.heap.size w w' := hf
  have HF := Lib.hid hf'
  have HR := Lib.hid h
  obtain ⟨h1, h2, h3, h4, h5⟩ := h.all i r hr
  clear h hf hf'
  go_enter Try.func10, Try.ntmps10
  go_wp2_with fail
  refine HF.out.mono ?_
  rintro e W ⟨rfl, hb⟩
  have hw1 : IntKind.i64.wrap ((r.n : Int) + 1) = (r.n : Int) + 1 := IntWalk.i64_in _ (by omega)
  obtain ⟨W2, hW2, hR2, hY2, hb2⟩ := own_rt (HR.out.later hb) r.x ((r.n : Int) + 1)
  have hd : Rts W2.drew rb mb most last m := hR2.drewN 1
  have hyd : W2.drew.heap[W.heap.size]? = some (rtO r.x ((r.n : Int) + 1)) := hY2
  obtain ⟨w3, q1, hR3, hb3⟩ := hd.set i hi ⟨r.x, r.n + 1⟩ h1 h2 h3 ⟨by simp, by simp; omega⟩ ((r.n : Int) + 1) (by simp)
  have HR3 := Lib.hid hR3
  have HB3 : Hid (∀ B, B ≤ rb → B ≤ mb → B ≤ w.heap.size → Below B w w3) := fun B b1 b2 b3 => ((hb.mono b3).trans (hb2.mono (Nat.le_trans b3 hb.size))).trans ((show Below B W2 W2.drew from ⟨rfl, rfl, rfl, Nat.le_refl _, fun _ _ => rfl⟩).trans (hb3 B b2 (Nat.le_trans b3 (Nat.le_trans hb.size hb2.size))))
  obtain ⟨c0, c1, c2, _⟩ := hR2.cells
  obtain ⟨d0, d1, d2, _⟩ := hd.cells
  obtain ⟨x0, x1, _, _⟩ := rt_cells hY2
  obtain ⟨u0, u1, _, _⟩ := rt_cells hyd
  have HW2 := Lib.hid hW2
  simp only at q1
  clear hR3 hb3 hb hb2 hR2 hd hY2 hyd HF hW2
  go_upto_region 5 with fail
  rw [HW2.out]
  go_region_with fail
  all_goals
    go_wp2_with fail
    go_ret
    exact ⟨rfl, HR3.out, HB3.out⟩
set_option maxHeartbeats 2000000 in
/-- Let go once; it stays. -/
theorem drop12 {w : World} {rb mb last : Nat} {most : Int} {m : Int → Option Rt12} (h : Rts w rb mb most last m) (i : Int) (hi : HaOk i) (x n : Nat) (hr : m i = some ⟨x, n + 1⟩) (hn : 1 ≤ n) :
    Calls Try.prog 11 #[.pointer (some ⟨rb, 0, none⟩), .int .i64 i] w fun e w' => e = .returned .nilIface ∧ Rts w' rb mb most last (fun j => if j = i then some ⟨x, n⟩ else m j) ∧ ∀ B, B ≤ rb → B ≤ mb → B ≤ w.heap.size → Below B w w' := by
  have hf := find12 h i hi
  rw [hr] at hf
  have hf' : Calls Try.prog 16 #[.pointer (some ⟨rb, 0, none⟩), .int .i64 i] w fun e w' => e = .returned (.tuple #[.agg #[.int .u32 (x : Int), .int .i64 ((n : Int) + 1)], .bool true]) ∧ Below w.heap.size w w' := hf
  have HF := Lib.hid hf'
  have HR := Lib.hid h
  obtain ⟨h1, h2, h3, h4, h5⟩ := h.all i _ hr
  simp only at h3 h5
  clear h hf hf'
  go_enter Try.func11, Try.ntmps11
  go_wp2_with fail
  refine HF.out.mono ?_
  rintro e W ⟨rfl, hb⟩
  have hw1 : IntKind.i64.wrap ((n : Int) + 1 - 1) = (n : Int) := by rw [show (n : Int) + 1 - 1 = (n : Int) by omega]; exact IntWalk.i64_in _ (by omega)
  have hg : ((n : Int) + 1 == 1) = false := by rw [beq_eq_false_iff_ne]; omega
  obtain ⟨W2, hW2, hR2, hY2, hb2⟩ := own_rt (HR.out.later hb) x (n : Int)
  have hd : Rts W2.drew rb mb most last m := hR2.drewN 1
  have hyd : W2.drew.heap[W.heap.size]? = some (rtO x (n : Int)) := hY2
  obtain ⟨w3, q1, hR3, hb3⟩ := hd.set i hi ⟨x, n⟩ h1 h2 h3 ⟨hn, by simp; omega⟩ (n : Int) (by simp)
  have HR3 := Lib.hid hR3
  have HB3 : Hid (∀ B, B ≤ rb → B ≤ mb → B ≤ w.heap.size → Below B w w3) := fun B b1 b2 b3 => ((hb.mono b3).trans (hb2.mono (Nat.le_trans b3 hb.size))).trans ((show Below B W2 W2.drew from ⟨rfl, rfl, rfl, Nat.le_refl _, fun _ _ => rfl⟩).trans (hb3 B b2 (Nat.le_trans b3 (Nat.le_trans hb.size hb2.size))))
  obtain ⟨c0, c1, c2, _⟩ := hR2.cells
  obtain ⟨d0, d1, d2, _⟩ := hd.cells
  obtain ⟨x0, x1, _, _⟩ := rt_cells hY2
  obtain ⟨u0, u1, _, _⟩ := rt_cells hyd
  have HW2 := Lib.hid hW2
  simp only at q1
  clear hR3 hb3 hb hb2 hR2 hd hY2 hyd HF hW2
  go_upto_region 8 with fail
  rw [HW2.out]
  go_region_with fail
  all_goals
    go_wp2_with fail
    go_ret
    exact ⟨rfl, HR3.out, HB3.out⟩
set_option maxHeartbeats 2000000 in
/-- Let go for the last time. -/
theorem drop12_last {w : World} {rb mb last : Nat} {most : Int} {m : Int → Option Rt12} (h : Rts w rb mb most last m) (i : Int) (hi : HaOk i) (x : Nat) (hr : m i = some ⟨x, 1⟩) :
    Calls Try.prog 11 #[.pointer (some ⟨rb, 0, none⟩), .int .i64 i] w fun e w' => e = .returned .nilIface ∧ Rts w' rb mb most last (fun j => if j = i then none else m j) ∧ ∀ B, B ≤ rb → B ≤ mb → B ≤ w.heap.size → Below B w w' := by
  have hf := find12 h i hi
  rw [hr] at hf
  have hf' : Calls Try.prog 16 #[.pointer (some ⟨rb, 0, none⟩), .int .i64 i] w fun e w' => e = .returned (.tuple #[.agg #[.int .u32 (x : Int), .int .i64 1], .bool true]) ∧ Below w.heap.size w w' := hf
  have HF := Lib.hid hf'
  have HR := Lib.hid h
  clear h hf hf'
  go_enter Try.func11, Try.ntmps11
  go_wp2_with fail
  refine HF.out.mono ?_
  rintro e W ⟨rfl, hb⟩
  obtain ⟨W2, hW2, hR2, hY2, hb2⟩ := own_rt (HR.out.later hb) x 1
  obtain ⟨y0, y1, g0, g1⟩ := rt_cells hY2
  have hd : ∃ w3, (∀ ty, (Builtin.delete_ #[45, 24] ty #[.map (some mb), .int .i64 i]).run Try.prog W2 = .ok (.tuple #[]) w3) ∧ Rts w3 rb mb most last (fun j => if j = i then none else m j) ∧ ∀ B, B ≤ mb → B ≤ W2.heap.size → Below B W2 w3 := by
    obtain ⟨w3, q1, hR3, hb3⟩ := hR2.del i hi 0
    refine ⟨w3, fun ty => ?_, hR3, hb3⟩
    exact q1
  obtain ⟨w3, q1, hR3, hb3⟩ := hd
  have HR3 := Lib.hid hR3
  have HB3 : Hid (∀ B, B ≤ rb → B ≤ mb → B ≤ w.heap.size → Below B w w3) := fun B b1 b2 b3 => ((hb.mono b3).trans (hb2.mono (Nat.le_trans b3 hb.size))).trans (hb3 B b2 (Nat.le_trans b3 (Nat.le_trans hb.size hb2.size)))
  obtain ⟨c0, c1, c2, _⟩ := hR2.cells
  have HW2 := Lib.hid hW2
  clear hR3 hb3 hb hb2 hR2 hY2 HF hW2
  go_upto_region 2 with fail
  rw [HW2.out]
  go_wp2_with fail
  go_ret
  exact ⟨rfl, HR3.out, HB3.out⟩
end Go.Proofs.Ytnfjmmkokhncoaa
