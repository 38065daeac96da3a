/- Package store: Make: contract. -/
import Derived.Test.YtgciceogggldhaaNew6
import Derived.Test.YtgciceogggldhaaSq
import Derived.Deep.RegionWith
namespace Go.Proofs.Ytgciceogggldhaa
open Go.RowKit Go.Maps
set_option maxRecDepth 100000

/-- But for these blocks all is as it was. -/
structure Frm (F : List Nat) (w w' : World) : Prop where
  os : w'.os = w.os
  tape : w'.tape = w.tape
  output : w'.output = w.output
  size : w.heap.size ≤ w'.heap.size
  block : ∀ b, b < w.heap.size → b ∉ F → w'.heap[b]? = w.heap[b]?
theorem Frm.refl (F : List Nat) (w : World) : Frm F w w := ⟨rfl, rfl, rfl, Nat.le_refl _, fun _ _ _ => rfl⟩
theorem Frm.of_below {F : List Nat} {w w' : World} (h : Below w.heap.size w w') : Frm F w w' := ⟨h.os, h.tape, h.output, h.size, fun b hb _ => h.block b hb⟩
theorem Frm.trans {F F' : List Nat} {w w' w'' : World} (h : Frm F w w') (h' : Frm F' w' w'') (hF : ∀ b, b ∈ F' → b ∈ F ∨ w.heap.size ≤ b) : Frm F w w'' :=
  ⟨h'.os.trans h.os, h'.tape.trans h.tape, h'.output.trans h.output, Nat.le_trans h.size h'.size, fun b hb hn => (h'.block b (Nat.lt_of_lt_of_le hb h.size) (fun hm => by rcases hF b hm with e | e; exact hn e; omega)).trans (h.block b hb hn)⟩
theorem Frm.below {F : List Nat} {w w' : World} {B : Nat} (h : Frm F w w') (hF : ∀ b, b ∈ F → B ≤ b) (hB : B ≤ w.heap.size) : Below B w w' :=
  ⟨h.os, h.tape, h.output, h.size, fun b hb => h.block b (by omega) (fun hm => by have := hF b hm; omega)⟩
theorem Frm.of_grown {F : List Nat} {w w' : World} {r : Option Nat} (h : w.grownBy w' r) (hr : ∀ b, r = some b → b ∈ F) : Frm F w w' :=
  ⟨h.os, h.tape, h.output, h.size, fun b hb hn => h.block b hb (fun e => hn (hr b e.symm))⟩
theorem Frm.of_set {F : List Nat} (w : World) {p : Addr} (hp : p.block ∈ F) (v : Value) : Frm F w (w.setCell p v) :=
  ⟨rfl, rfl, rfl, by simp, fun b _ hn => Below.heap_setCell _ _ _ _ (fun e => hn (e ▸ hp))⟩

/-- An error's number as a value. -/
def errV (n : Nat) : Value := if n = 0 then .nilIface else .iface 53 (.int .i64 (n : Int))

theorem St.drew {w : World} {sb g tb cap most : Nat} {N : List Nd} (h : St w sb g tb cap most N) : St w.drew sb g tb cap most N := ⟨h.blk, h.row, h.tab.blk rfl, h.wf, h.room, h.most_le, h.ne⟩
theorem Try.infoSq : (Try.prog.info? 76).map (fun i => (i.zero, i.size, i.bytes)) = some (some (.agg #[.int .u32 0, .int .u32 0, .int .u32 0, .int .u32 0, .int .i64 0, .int .u64 0]), 6, 32) := by kernel_rfl
theorem infoSq : ∃ i, Try.prog.info? 76 = some i ∧ i.zero = some (.agg #[.int .u32 0, .int .u32 0, .int .u32 0, .int .u32 0, .int .i64 0, .int .u64 0]) ∧ i.size = 6 ∧ i.bytes = 32 := by
  obtain ⟨i, hi, h⟩ := Option.map_eq_some_iff.1 Try.infoSq
  simp only [Prod.mk.injEq] at h
  exact ⟨i, hi, h.1, h.2.1, h.2.2⟩
/-- Behind the append and the store into s.squares. -/
theorem st_added {w W : World} {sb g tb cap most : Nat} {N : List Nd} (h : St w sb g tb cap most N) {n : Nd} {g' cap' : Nat} (hown : W.ownsRow 0 76 6 (.slice (some ⟨g', 0, none⟩) (N.length + 1) cap') (N.length + 1) (ndVs N ++ ndV n))
    (hg : w.grownBy W (some g)) (hat : g' = g ∨ w.heap.size ≤ g') {W' : World} (hW : W.setCell ⟨sb, 1, none⟩ (.slice (some ⟨g', 0, none⟩) (N.length + 1) cap') = W') :
    W'.heap[sb]? = some (.cells #[.int .i64 (most : Int), .slice (some ⟨g', 0, none⟩) (N ++ [n]).length cap', .map (some tb)] 66 (0, 0)) ∧ W'.ownsRow 0 76 6 (.slice (some ⟨g', 0, none⟩) (N ++ [n]).length cap') (N ++ [n]).length (ndVs (N ++ [n])) ∧ KMap W' tb N ∧ Frm [sb, g, tb] w W' ∧ sb ≠ g' := by
  obtain ⟨l1, l2, l3⟩ := h.lt
  obtain ⟨n1, n2⟩ := h.ne_tab
  have n3 : sb ≠ g' := by rcases hat with e | e; rw [e]; exact h.ne; omega
  have hb : W.heap[sb]? = w.heap[sb]? := hg.block sb l1 (by have := h.ne; simpa using this)
  have ht : W.heap[tb]? = w.heap[tb]? := hg.block tb l3 (by simpa using Ne.symm n2)
  have he : ndVs (N ++ [n]) = ndVs N ++ ndV n := by unfold ndVs; simp
  have hl : (N ++ [n]).length = N.length + 1 := by simp
  subst hW
  refine ⟨?_, ?_, h.tab.blk ?_, ?_, n3⟩
  · rw [hl]
    simp only [World.setCell, Array.getElem?_modify, hb, h.blk]
    simp
  · rw [he, hl]
    refine ⟨hown.1, ?_⟩
    rcases hown.2 with ⟨hv, _⟩ | ⟨g2, cp, cur, hv, h0, hgg, hr⟩
    · cases hv
    · cases hv
      exact Or.inr ⟨g', cap', cur, rfl, h0, by rw [Below.heap_setCell _ _ _ _ (by simpa using Ne.symm n3)]; exact hgg, hr⟩
  · rw [Below.heap_setCell _ _ _ _ (by simpa using Ne.symm n1)]; exact ht
  · exact (Frm.of_grown (F := [sb, g, tb]) hg (fun b e => by cases e; simp)).trans (Frm.of_set (F := [sb, g, tb]) W (by simp) _) (fun b hb => Or.inl hb)
/-- And behind the table's new entry. -/
theorem st_entered {w W W' : World} {sb g g' tb cap' most : Nat} {N : List Nd} {n : Nd} (hb : W.heap[sb]? = some (.cells #[.int .i64 (most : Int), .slice (some ⟨g', 0, none⟩) (N ++ [n]).length cap', .map (some tb)] 66 (0, 0)))
    (hr : W.ownsRow 0 76 6 (.slice (some ⟨g', 0, none⟩) (N ++ [n]).length cap') (N ++ [n]).length (ndVs (N ++ [n]))) (hf : Frm [sb, g, tb] w W) (hne : sb ≠ g') (hk : KMap W' tb (N ++ [n])) (hg : W.grownBy W' (some tb)) (hw : Wf (N ++ [n])) (hm : (N ++ [n]).length ≤ most) (hm2 : most ≤ 1048576) (hkW : KMap W tb N) :
    St W' sb g' tb cap' most (N ++ [n]) ∧ Frm [sb, g, tb] w W' := by
  have n1 : sb ≠ tb := fun e => by
    obtain ⟨D, ⟨es, cl, h1, _⟩, _⟩ := hkW
    subst e; rw [hb] at h1; cases h1
  have n2 : g' ≠ tb := fun e => by
    obtain ⟨D, ⟨es, cl, h1, _⟩, _⟩ := hkW
    subst e
    rcases hr.2 with ⟨hv, _⟩ | ⟨g2, cp, cur, hv, _, hgg, _⟩
    · cases hv
    · cases hv; rw [hgg] at h1; cases h1
  have l1 : sb < W.heap.size := (Array.getElem?_eq_some_iff.1 hb).1
  refine ⟨⟨?_, ⟨hr.1, ?_⟩, hk, hw, hm, hm2, hne⟩, hf.trans (Frm.of_grown (F := [sb, g, tb]) hg (fun b e => by cases e; simp)) (fun b hb => Or.inl hb)⟩
  · rw [hg.block sb l1 (by simpa using n1)]; exact hb
  · rcases hr.2 with ⟨hv, _⟩ | ⟨g2, cp, cur, hv, h0, hgg, hrr⟩
    · cases hv
    · cases hv
      have l2 : g' < W.heap.size := (Array.getElem?_eq_some_iff.1 hgg).1
      exact Or.inr ⟨g', cap', cur, rfl, h0, by rw [hg.block g' l2 (by simpa using n2)]; exact hgg, hrr⟩
/-- 's.table[k] = x' at the operation. -/
theorem wp_enter (w : World) {o : Oper} {a : Act} {K : Act → World → Prop} {Q : Exit → Act → World → Prop} (m x v : Operand) (hop : o.op = Op.mapUpdate 64 m x v) (b : Nat) (N : List Nd) (n : Nd) (hm : a.eval m = .map (some b)) (hx : a.eval x = kv n.k) (hv : a.eval v = .int .u32 (N.length : Int))
    (h : KMap w b N) (hl : 2 ≤ N.length) (hk : InK n.k) (hf : findZ N n.k = none) (hle : N.length ≤ 1048576) (hK : ∀ w', KMap w' b (N ++ [n]) → w.grownBy w' (some b) → K (a.put o.dst undef) w') : Oper.wp Try.prog o a w K Q := by
  obtain ⟨w', hrun, r1, r2⟩ := h.put hl n hk hf hle
  unfold Oper.wp
  simp [execOp, hop, hm, hx, hv, hrun, Result.andThen]
  exact hK w' r1 r2

set_option maxHeartbeats 2000000 in
theorem make_add {w : World} {sb g tb cap most : Nat} {N : List Nd} (h : St w sb g tb cap most N) (k : K4) (hk : InK k) (hf : FitZ N k) (hn : findZ N k = none) (hl : N.length < most) :
    Calls Try.prog 33 #[.pointer (some ⟨sb, 0, none⟩), .agg #[.int .u32 (k.1 : Int), .int .u32 (k.2.1 : Int), .int .u32 (k.2.2.1 : Int), .int .u32 (k.2.2.2 : Int)]] w fun e w' => ∃ g' cap', e = .returned (.tuple #[.int .u32 (N.length : Int), .nilIface]) ∧ St w' sb g' tb cap' most (N ++ [newNd N k]) ∧ Frm [sb, g, tb] w w' ∧ (g' = g ∨ w.heap.size ≤ g') := by
  have HS := Lib.hid h
  have HK := Lib.hid hk
  have HF := Lib.hid hf
  have HN := Lib.hid hn
  have HLT := Lib.hid hl
  clear h hk hf hn hl
  obtain ⟨i0, hi, hz0, hz1, hz2⟩ := infoSq
  have HI := Lib.hid hi
  have HZ0 := Lib.hid hz0
  have HZ1 := Lib.hid hz1
  have HZ2 := Lib.hid hz2
  clear hi hz0 hz1 hz2
  go_enter Try.func33, Try.ntmps33
  go_wp2_with fail
  have HB := Lib.hid (bel1 w (.cells #[.int .u32 (k.1 : Int), .int .u32 (k.2.1 : Int), .int .u32 (k.2.2.1 : Int), .int .u32 (k.2.2.2 : Int)] 68))
  have HS1 := Lib.hid (HS.out.later HB.out)
  have HK1 := Lib.hid (k_new w k)
  generalize w.alloc (.cells #[.int .u32 (k.1 : Int), .int .u32 (k.2.1 : Int), .int .u32 (k.2.2.1 : Int), .int .u32 (k.2.2.2 : Int)] 68) = W1 at *
  refine (fit_any HS1.out k HK.out).mono ?_
  rintro e W2 ⟨rfl, hb⟩
  have HB2 := Lib.hid (HB.out.trans (hb.mono HB.out.size))
  have HS2 := Lib.hid (HS1.out.later hb)
  have HK2 := Lib.hid (HK1.out.later hb)
  clear hb HS1 HK1 HB
  have hfit : decide (FitZ N k) = true := by simpa using HF.out
  have hlk := HS2.out.tab.lookQ k HK.out HN.out
  obtain ⟨c0, c1, c2, c3⟩ := HS2.out.cells
  obtain ⟨u0, u1, u2, u3, _⟩ := HK2.out.cells
  go_wp2_with fail
  go_quiet (fail)
  go_wp2_with fail
  refine (room_any (HS2.out.drewN _)).mono ?_
  rintro e W3 ⟨rfl, q, hW3⟩
  have HS3 : Hid (St W3 sb g tb cap most N) := by show St W3 sb g tb cap most N; rw [hW3]; exact (HS2.out.drewN _).drewN q
  have HK3 : Hid (KAt W3 w.heap.size k) := by show KAt W3 w.heap.size k; rw [hW3]; exact HK2.out
  have HB3 : Hid (Below w.heap.size w W3) := by show Below w.heap.size w W3; rw [hW3]; exact ⟨HB2.out.os, HB2.out.tape, HB2.out.output, HB2.out.size, HB2.out.block⟩
  have hrm : decide ((most : Int) - (N.length : Int) < 1) = false := by have := HLT.out; simp; omega
  have hwl : IntKind.u32.wrap (N.length : Int) = (N.length : Int) := IntWalk.u32_in _ (by have := HLT.out; have := HS2.out.most_le; omega)
  clear hlk c0 c1 c2 c3 u0 u1 u2 u3 hW3 HS2 HK2 HB2 hfit
  obtain ⟨c0, c1, c2, c3⟩ := HS3.out.cells
  go_wp2_with fail
  clear c0 c1 c2 c3 hrm hwl
  have HLV : Hid (IntKind.i64.wrap (lvZ N k.1 + 1) = (((newNd N k).lv : Nat) : Int)) := by
    have h1 := HF.out.1
    have h2 := HF.out.2.1
    show _ = _
    rw [IntWalk.i64_in _ (by omega)]
    simp only [newNd]; omega
  refine region_sq 16 (fun W => St W sb g tb cap most N ∧ KAt W w.heap.size k ∧ Below w.heap.size w W) [(0, 1), (1, 1), (2, 1), (3, 1), (6, 1), (7, 1), (11, 1), (4, 2), (5, 2), (8, 2), (12, 2), (9, 0), (10, 1), (13, 0), (14, 1), (15, 0), (16, 3), (17, 1), (18, 1), (19, 3)] (by kernel_rfl) (by kernel_rfl) rfl (by intro c a d v w h; cases d <;> exact h) (by kernel_rfl) ⟨HS3.out.drew, HK3.out, HB3.out.drew⟩ ?_
  have HS4 := Lib.hid HS3.out.drew
  have HK4 : Hid (KAt W3.drew w.heap.size k) := HK3.out
  have HB4 := Lib.hid HB3.out.drew
  clear HS3 HK3 HB3
  generalize W3.drew = W4 at *
  refine ⟨_, ?_, rfl, by rfl, ?_, ?_⟩
  rotate_left
  · intro W; go_simp; first | done | rfl
  conv => arg 6; simp only [Act.put, List.setIfInBounds_toArray, List.set_cons_zero, List.set_cons_succ]
  refine ⟨_, ?_, rfl, by rfl, ?_, ?_⟩
  rotate_left
  · intro W; go_simp; first | done | rfl
  conv => arg 6; simp only [Act.put, List.setIfInBounds_toArray, List.set_cons_zero, List.set_cons_succ]
  refine ⟨_, ?_, rfl, by rfl, ?_, ?_⟩
  rotate_left
  · intro W; go_simp; first | done | rfl
  conv => arg 6; simp only [Act.put, List.setIfInBounds_toArray, List.set_cons_zero, List.set_cons_succ]
  refine ⟨_, ?_, rfl, by rfl, ?_, ?_⟩
  rotate_left
  · intro W; go_simp; first | done | rfl
  conv => arg 6; simp only [Act.put, List.setIfInBounds_toArray, List.set_cons_zero, List.set_cons_succ]
  refine ⟨_, ?_, rfl, by rfl, ?_, ?_⟩
  rotate_left
  · intro W; go_simp; first | done | rfl
  conv => arg 6; simp only [Act.put, List.setIfInBounds_toArray, List.set_cons_zero, List.set_cons_succ]
  refine ⟨_, ?_, rfl, by rfl, ?_, ?_⟩
  rotate_left
  · intro W; go_simp; first | done | rfl
  conv => arg 6; simp only [Act.put, List.setIfInBounds_toArray, List.set_cons_zero, List.set_cons_succ]
  refine ⟨_, ?_, rfl, by rfl, ?_, ?_⟩
  rotate_left
  · intro W; go_simp; first | done | rfl
  conv => arg 6; simp only [Act.put, List.setIfInBounds_toArray, List.set_cons_zero, List.set_cons_succ]
  refine ⟨_, ?_, rfl, by rfl, ?_, ?_⟩
  rotate_left
  · rintro W ⟨hS, hK, hB⟩
    obtain ⟨c0, c1, c2, c3⟩ := hS.cells
    obtain ⟨u0, u1, u2, u3, _⟩ := hK.cells
    go_simp; first | done | rfl
  conv => arg 6; simp only [Act.put, List.setIfInBounds_toArray, List.set_cons_zero, List.set_cons_succ]
  refine ⟨_, ?_, rfl, by rfl, ?_, ?_⟩
  rotate_left
  · rintro W ⟨hS, hK, hB⟩
    obtain ⟨c0, c1, c2, c3⟩ := hS.cells
    obtain ⟨u0, u1, u2, u3, _⟩ := hK.cells
    go_simp; first | done | rfl
  conv => arg 6; simp only [Act.put, List.setIfInBounds_toArray, List.set_cons_zero, List.set_cons_succ]
  refine ⟨_, ?_, rfl, by rfl, ?_, ?_⟩
  rotate_left
  · rintro W ⟨hS, hK, hB⟩
    obtain ⟨c0, c1, c2, c3⟩ := hS.cells
    obtain ⟨u0, u1, u2, u3, _⟩ := hK.cells
    go_simp; first | done | rfl
  conv => arg 6; simp only [Act.put, List.setIfInBounds_toArray, List.set_cons_zero, List.set_cons_succ]
  refine ⟨_, ?_, rfl, by rfl, ?_, ?_⟩
  rotate_left
  · rintro W ⟨hS, hK, hB⟩
    obtain ⟨c0, c1, c2, c3⟩ := hS.cells
    obtain ⟨u0, u1, u2, u3, _⟩ := hK.cells
    go_simp; first | done | rfl
  conv => arg 6; simp only [Act.put, List.setIfInBounds_toArray, List.set_cons_zero, List.set_cons_succ]
  refine ⟨_, rfl, by rfl, fun K hK => ?_⟩
  go_simp
  refine (level_any HS4.out k.1 HK.out.1).mono ?_
  rintro e W5 ⟨rfl, rfl⟩
  refine hK _ _ ⟨HS4.out, HK4.out, HB4.out⟩ ?_
  clear hK K
  conv => arg 6; simp only [Act.put, List.setIfInBounds_toArray, List.set_cons_zero, List.set_cons_succ]
  refine ⟨_, ?_, rfl, by rfl, ?_, ?_⟩
  rotate_left
  · intro W; have hlv := HLV.out; go_simp; first | done | rfl
  conv => arg 6; simp only [Act.put, List.setIfInBounds_toArray, List.set_cons_zero, List.set_cons_succ]
  refine ⟨_, rfl, by rfl, fun K hK => ?_⟩
  go_simp
  refine (living_any HS4.out k HK.out).mono ?_
  rintro e W5 ⟨rfl, hb⟩
  have HS5 := Lib.hid (HS4.out.later hb)
  have HK5 := Lib.hid (HK4.out.later hb)
  have HB5 := Lib.hid (HB4.out.trans (hb.mono HB4.out.size))
  refine hK _ _ ⟨HS5.out, HK5.out, HB5.out⟩ ?_
  clear hK K hb HS4 HK4 HB4
  conv => arg 6; simp only [Act.put, List.setIfInBounds_toArray, List.set_cons_zero, List.set_cons_succ]
  refine ⟨_, ?_, rfl, by rfl, ?_, ?_⟩
  rotate_left
  · intro W; go_simp; first | done | rfl
  conv => arg 6; simp only [Act.put, List.setIfInBounds_toArray, List.set_cons_zero, List.set_cons_succ]
  refine ⟨_, rfl, by rfl, fun K hK => ?_⟩
  go_simp
  have hb := bel1 W5 (.cells #[.int .u32 (k.1 : Int), .int .u32 (k.2.1 : Int), .int .u32 (k.2.2.1 : Int), .int .u32 (k.2.2.2 : Int), .int .i64 (((newNd N k).lv : Nat) : Int), .int .u64 ((livZ N k : Nat) : Int)] 76)
  have HS6 := Lib.hid (HS5.out.later hb)
  have HK6 := Lib.hid (HK5.out.later hb)
  have HB6 := Lib.hid (HB5.out.trans (hb.mono HB5.out.size))
  have HNW : Hid ((W5.alloc (.cells #[.int .u32 (k.1 : Int), .int .u32 (k.2.1 : Int), .int .u32 (k.2.2.1 : Int), .int .u32 (k.2.2.2 : Int), .int .i64 (((newNd N k).lv : Nat) : Int), .int .u64 ((livZ N k : Nat) : Int)] 76)).heap[W5.heap.size]? = some (.cells #[.int .u32 (k.1 : Int), .int .u32 (k.2.1 : Int), .int .u32 (k.2.2.1 : Int), .int .u32 (k.2.2.2 : Int), .int .i64 (((newNd N k).lv : Nat) : Int), .int .u64 ((livZ N k : Nat) : Int)] 76)) := heap_alloc_new W5 _
  refine hK _ _ ⟨HS6.out, HK6.out, HB6.out⟩ ?_
  clear hK K hb HS5 HK5 HB5
  generalize W5.alloc (.cells #[.int .u32 (k.1 : Int), .int .u32 (k.2.1 : Int), .int .u32 (k.2.2.1 : Int), .int .u32 (k.2.2.2 : Int), .int .i64 (((newNd N k).lv : Nat) : Int), .int .u64 ((livZ N k : Nat) : Int)] 76) = W6 at *
  generalize W5.heap.size = nb at *
  conv => arg 6; simp only [Act.put, List.setIfInBounds_toArray, List.set_cons_zero, List.set_cons_succ]
  refine ⟨_, rfl, by rfl, fun K hK => ?_⟩
  refine wp_append_lies _ _ _ 63 (by rfl) 0 76 i0 (.agg #[.int .u32 0, .int .u32 0, .int .u32 0, .int .u32 0, .int .i64 0, .int .u64 0]) 6 32 Try.underlying63 HI.out HZ0.out HZ1.out HZ2.out rfl (by decide) _ _ _ (by rfl) HS6.out.row ⟨nb, 0, none⟩ 1 1 (ndV (newNd N k)) (by rfl) rfl (World.news_of_block HNW.out) (by intro u hu; simp [ndV] at hu; rcases hu with rfl | rfl | rfl | rfl | rfl | rfl <;> rfl) (by decide) (by have := HS6.out.room; have := HS6.out.most_le; unfold maxLen; omega) (by have := HS6.out.room; have := HS6.out.most_le; omega) (Nat.zero_le _) _ rfl ?_
  intro g' cap' W7 hown hgrow hat hlt
  refine hK _ _ ?_
  have HOWN := Lib.hid hown
  have HGR := Lib.hid hgrow
  have HAT : Hid (g' = g ∨ W6.heap.size ≤ g') := by
    rcases hat with e | e
    · exact Or.inl (by simpa [Value.ownBlock] using e.symm)
    · exact Or.inr (by omega)
  clear hK K hown hgrow hat hlt HNW
  conv => arg 6; simp only [Act.put, List.setIfInBounds_toArray, List.set_cons_zero, List.set_cons_succ]
  refine ⟨_, ?_, rfl, by rfl, ?_, ?_⟩
  rotate_left
  · intro W; go_simp; first | done | rfl
  conv => arg 6; simp only [Act.put, List.setIfInBounds_toArray, List.set_cons_zero, List.set_cons_succ]
  refine ⟨_, ?_, rfl, by rfl, ?_, ?_⟩
  rotate_left
  · intro W; go_simp; first | done | rfl
  conv => arg 6; simp only [Act.put, List.setIfInBounds_toArray, List.set_cons_zero, List.set_cons_succ]
  refine ⟨_, rfl, by rfl, fun K hK => ?_⟩
  obtain ⟨l1, l2, l3⟩ := HS6.out.lt
  have hsg : some sb ≠ (Value.slice (some ⟨g, 0, none⟩) N.length cap).ownBlock := by have := HS6.out.ne; simpa [Value.ownBlock] using this
  obtain ⟨c0, c1, c2, c3⟩ := HS6.out.cells
  have s1 := (HGR.out.cell_far ⟨sb, 1, none⟩ l1 hsg).trans c1
  have s2 := (HGR.out.frozen_far ⟨sb, 1, none⟩ l1 hsg).trans c3
  clear c0 c1 c2 c3
  go_simp
  have HAD := Lib.hid (st_added HS6.out HOWN.out HGR.out HAT.out rfl)
  refine hK _ _ ?_
  clear hK K s1 s2 hsg l1 l2 l3
  generalize W7.setCell ⟨sb, 1, none⟩ (.slice (some ⟨g', 0, none⟩) (N.length + 1) cap') = W8 at *
  conv => arg 6; simp only [Act.put, List.setIfInBounds_toArray, List.set_cons_zero, List.set_cons_succ]
  unfold wpSq
  have HW8 := Lib.hid HAD.out.1
  have HFR := Lib.hid HAD.out.2.2.2.1
  have hb8 := HAD.out.1
  obtain ⟨l1, l2, l3⟩ := HS6.out.lt
  have HK8 : Hid (KAt W8 w.heap.size k) := by
    show KAt W8 w.heap.size k
    unfold KAt
    rw [HFR.out.block w.heap.size HK6.out.lt ?_]
    · exact HK6.out
    · have hne := HK6.out
      unfold KAt at hne
      intro hm
      simp only [List.mem_cons, List.not_mem_nil, or_false] at hm
      obtain ⟨D, ⟨es, cl, t1, _⟩, _⟩ := HS6.out.tab
      rcases hm with e | e | e
      · rw [e, HS6.out.blk] at hne; cases hne
      · rcases HS6.out.row.2 with ⟨hv, _⟩ | ⟨g2, cp, cur, hv, _, hgg, _⟩
        · cases hv
        · cases hv; rw [e, hgg] at hne; cases hne
      · rw [e, t1] at hne; cases hne
  have d2 : W8.cell? ⟨sb, 2, none⟩ = some (.map (some tb)) := by rw [Lib.cell_of_heap hb8]; rfl
  clear hb8 l1 l2 l3
  go_wp2_with fail
  refine region_sq 6 (fun W => W = W8.drew) [(0, 1), (1, 1), (2, 1), (5, 1), (3, 2), (4, 2), (6, 3)] (by kernel_rfl) (by kernel_rfl) rfl (by intro c a d v w h; cases d <;> exact h) (by kernel_rfl) rfl ?_
  refine ⟨_, ?_, rfl, by rfl, ?_, ?_⟩
  rotate_left
  · intro W; go_simp; first | done | rfl
  conv => arg 6; simp only [Act.put, List.setIfInBounds_toArray, List.set_cons_zero, List.set_cons_succ]
  refine ⟨_, ?_, rfl, by rfl, ?_, ?_⟩
  rotate_left
  · intro W; go_simp; first | done | rfl
  conv => arg 6; simp only [Act.put, List.setIfInBounds_toArray, List.set_cons_zero, List.set_cons_succ]
  refine ⟨_, ?_, rfl, by rfl, ?_, ?_⟩
  rotate_left
  · intro W; go_simp; first | done | rfl
  conv => arg 6; simp only [Act.put, List.setIfInBounds_toArray, List.set_cons_zero, List.set_cons_succ]
  refine ⟨_, ?_, rfl, by rfl, ?_, ?_⟩
  rotate_left
  · intro W; go_simp; first | done | rfl
  conv => arg 6; simp only [Act.put, List.setIfInBounds_toArray, List.set_cons_zero, List.set_cons_succ]
  refine ⟨_, ?_, rfl, by rfl, ?_, ?_⟩
  rotate_left
  · rintro W rfl
    have d2' : W8.drew.cell? ⟨sb, 2, none⟩ = some (.map (some tb)) := d2
    obtain ⟨u0, u1, u2, u3, _⟩ := KAt.cells (w := W8.drew) HK8.out
    go_simp; first | done | rfl
  conv => arg 6; simp only [Act.put, List.setIfInBounds_toArray, List.set_cons_zero, List.set_cons_succ]
  refine ⟨_, ?_, rfl, by rfl, ?_, ?_⟩
  rotate_left
  · rintro W rfl
    have d2' : W8.drew.cell? ⟨sb, 2, none⟩ = some (.map (some tb)) := d2
    obtain ⟨u0, u1, u2, u3, _⟩ := KAt.cells (w := W8.drew) HK8.out
    go_simp; first | done | rfl
  conv => arg 6; simp only [Act.put, List.setIfInBounds_toArray, List.set_cons_zero, List.set_cons_succ]
  refine ⟨_, rfl, by rfl, fun K hK => ?_⟩
  refine wp_enter _ _ _ _ rfl tb N (newNd N k) (by rfl) (by rfl) (by rfl) (KMap.blk (w := W8) HAD.out.2.2.1 rfl) HS6.out.wf.two HK.out HN.out (by have := HS6.out.room; have := HS6.out.most_le; omega) ?_
  intro W9 hk9 hg9
  have HE9 := Lib.hid (st_entered (w := W6) (W := W8.drew) (g := g) HAD.out.1 HAD.out.2.1 ⟨HFR.out.os, HFR.out.tape, HFR.out.output, HFR.out.size, HFR.out.block⟩ HAD.out.2.2.2.2 hk9 hg9 (wf_add HS6.out.wf HF.out HN.out) (by have := HLT.out; simp; omega) HS6.out.most_le (KMap.blk (w := W8) HAD.out.2.2.1 rfl))
  refine hK _ _ ?_
  clear hK K hk9 hg9
  conv => arg 6; simp only [Act.put, List.setIfInBounds_toArray, List.set_cons_zero, List.set_cons_succ]
  unfold wpSq
  go_wp2_with fail
  go_ret2
  refine ⟨g', cap', rfl, HE9.out.1, (Frm.of_below HB6.out).trans HE9.out.2 (fun b hb => Or.inl hb), ?_⟩
  rcases HAT.out with e | e
  · exact Or.inl e
  · exact Or.inr (Nat.le_trans HB6.out.size e)
end Go.Proofs.Ytgciceogggldhaa
