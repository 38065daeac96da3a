/- Package area: the finder's box: contract. -/
import Derived.Test.YtfohkbgacpokoaaFi8
import Derived.Test.YtfohkbgacpokoaaS8c
namespace Go.Proofs.Ytfohkbgacpokoaa
open Go.RowKit Go.Maps
set_option maxRecDepth 100000

theorem zeroRc8 (w : World) : (zeroValue 26).run Try.prog w = .ok (.agg #[.int .i64 0, .int .i64 0, .int .i64 0, .int .i64 0]) w := by kernel_rfl
/-- A finder's map of rectangles. -/
noncomputable def mkB : Mk 29 26 105 Nat where
  keyed := int_keyed Try.underlying29
  ht := Try.underlying105
  kv := fun x => .int .u32 (x : Int)
  ok := fun x => x < 1048576
  kl := fun x => .int .u32 (x : Int)
  hkey := fun x h => keyOf_int_mk Try.underlying29 (u32_wf (show x < 4294967296 by omega))
  inj := fun a b _ _ h => by
    simp only [Lit.int.injEq, true_and] at h
    omega
  zero := .agg #[.int .i64 0, .int .i64 0, .int .i64 0, .int .i64 0]
  hz := zeroRc8
  few := fun ks hn h => few_of (ok := fun x => x < 1048576) id 1048576 (by decide) (fun a ha => ha) (fun a b _ _ e => e) ks hn h
def fnO (sb cb bb : Nat) : Obj := .cells #[.pointer (some ⟨sb, 0, none⟩), .map (some cb), .map (some bb)] 107 (0, 0)
theorem fn_cells {w : World} {b sb cb bb : Nat} (h : w.heap[b]? = some (fnO sb cb bb)) : w.cell? ⟨b, 0, none⟩ = some (.pointer (some ⟨sb, 0, none⟩)) ∧ w.cell? ⟨b, 1, none⟩ = some (.map (some cb)) ∧ w.cell? ⟨b, 2, none⟩ = some (.map (some bb)) :=
  ⟨by rw [Lib.cell_of_heap h]; rfl, by rw [Lib.cell_of_heap h]; rfl, by rw [Lib.cell_of_heap h]; rfl⟩
/-- A finder of boxes. -/
structure Fn (w : World) (sb g tb cb bb fb most : Nat) (N : List Nd) : Prop where
  st : ∃ cap, St w sb g tb cap most N
  ft : w.heap[fb]? = some (fnO sb cb bb)
  mm : ∃ m, GMap mkB w bb m ∧ ∀ x v, m x = some v → ∃ n, Sq N n x ∧ v = rV (bxZ N n x)
  ne : bb ≠ sb ∧ bb ≠ g ∧ bb ≠ tb
theorem Fn.lt {w : World} {sb g tb cb bb fb most : Nat} {N : List Nd} (h : Fn w sb g tb cb bb fb most N) : sb < w.heap.size ∧ g < w.heap.size ∧ tb < w.heap.size ∧ bb < w.heap.size ∧ fb < w.heap.size := by
  obtain ⟨cap, hs⟩ := h.st
  obtain ⟨m, h1, _⟩ := h.mm
  exact ⟨hs.lt.1, hs.lt.2.1, hs.lt.2.2, h1.lt, (Array.getElem?_eq_some_iff.1 h.ft).1⟩
theorem Fn.fb_ {w : World} {sb g tb cb bb fb most : Nat} {N : List Nd} (h : Fn w sb g tb cb bb fb most N) : fb ≠ bb := by
  obtain ⟨m, h1, _⟩ := h.mm
  obtain ⟨es, cl, h2⟩ := h1.is_map
  intro e
  have := h.ft
  rw [e, h2] at this
  cases this
theorem Fn.later {w w' : World} {sb g tb cb bb fb most : Nat} {N : List Nd} (h : Fn w sb g tb cb bb fb most N) (hb : Below w.heap.size w w') : Fn w' sb g tb cb bb fb most N := by
  obtain ⟨cap, hs⟩ := h.st
  obtain ⟨m, h1, h2⟩ := h.mm
  exact ⟨⟨cap, hs.later hb⟩, keep8 h.ft hb, ⟨m, h1.later hb, h2⟩, h.ne⟩
theorem Fn.drewN {w : World} {sb g tb cb bb fb most : Nat} {N : List Nd} (h : Fn w sb g tb cb bb fb most N) (q : Nat) : Fn (w.drewN q) sb g tb cb bb fb most N := by
  obtain ⟨cap, hs⟩ := h.st
  obtain ⟨m, h1, h2⟩ := h.mm
  exact ⟨⟨cap, hs.drewN q⟩, h.ft, ⟨m, h1.drewN q, h2⟩, h.ne⟩
theorem Fn.set {w : World} {sb g tb cb bb fb most b i : Nat} {N : List Nd} (h : Fn w sb g tb cb bb fb most N) (h1 : b ≠ sb ∧ b ≠ g ∧ b ≠ tb ∧ b ≠ bb ∧ b ≠ fb) (v : Value) : Fn (w.setCell ⟨b, i, none⟩ v) sb g tb cb bb fb most N := by
  obtain ⟨cap, hs⟩ := h.st
  obtain ⟨m, h2, h3⟩ := h.mm
  exact ⟨⟨cap, hs.keep (Below.heap_setCell _ _ _ _ (Ne.symm h1.1)) (Below.heap_setCell _ _ _ _ (Ne.symm h1.2.1)) (Below.heap_setCell _ _ _ _ (Ne.symm h1.2.2.1))⟩, by rw [Below.heap_setCell _ _ _ _ (Ne.symm h1.2.2.2.2)]; exact h.ft, ⟨m, h2.blk (Below.heap_setCell _ _ _ _ (Ne.symm h1.2.2.2.1)), h3⟩, h.ne⟩
/-- A finder remembers. -/
theorem Fn.put {w : World} {sb g tb cb bb fb most : Nat} {N : List Nd} (h : Fn w sb g tb cb bb fb most N) {n x : Nat} (hx : Sq N n x) (b : R4) (hb : b = bxZ N n x) :
    ∃ w', (Instr.mapUpdate 105 (.map (some bb)) (.int .u32 (x : Int)) (.agg #[.int .i64 b.x, .int .i64 b.y, .int .i64 b.X, .int .i64 b.Y])).run Try.prog w = .ok () w' ∧ Fn w' sb g tb cb bb fb most N ∧ Frm [bb] w w' := by
  obtain ⟨cap, hs⟩ := h.st
  obtain ⟨m, h1, h2⟩ := h.mm
  obtain ⟨w', r1, r2, r3⟩ := h1.put x (show x < 1048576 by have := hx.lt; have := hs.room; have := hs.most_le; omega) (rV b)
  obtain ⟨n1, n2, n3⟩ := h.ne
  obtain ⟨l1, l2, l3⟩ := hs.lt
  refine ⟨w', r1, ⟨⟨cap, hs.keep (r3.block sb l1 (fun e => n1 (Option.some.inj e).symm)) (r3.block g l2 (fun e => n2 (Option.some.inj e).symm)) (r3.block tb l3 (fun e => n3 (Option.some.inj e).symm))⟩, ?_, ⟨_, r2, fun y v hv => ?_⟩, h.ne⟩, Frm.of_grown r3 (fun b e => by cases e; simp)⟩
  · rw [r3.block fb h.lt.2.2.2.2 (fun e => h.fb_ (Option.some.inj e))]; exact h.ft
  · by_cases e : y = x
    · subst e
      rw [if_pos rfl] at hv
      exact ⟨n, hx, by rw [← Option.some.inj hv, hb]⟩
    · rw [if_neg e] at hv
      exact h2 y v hv
/-- What a finder remembers, asked. -/
theorem Fn.look {w : World} {sb g tb cb bb fb most : Nat} {N : List Nd} (h : Fn w sb g tb cb bb fb most N) {n x : Nat} (hx : Sq N n x) :
    ∃ (b : R4) (ok : Bool), (Instr.lookup 105 (.map (some bb)) (.int .u32 (x : Int)) true).run Try.prog w = .ok (.tuple #[.agg #[.int .i64 b.x, .int .i64 b.y, .int .i64 b.X, .int .i64 b.Y], .bool ok]) w ∧ (ok = true → b = bxZ N n x) := by
  obtain ⟨cap, hs⟩ := h.st
  obtain ⟨m, h1, h2⟩ := h.mm
  have hl := h1.look x (show x < 1048576 by have := hx.lt; have := hs.room; have := hs.most_le; omega)
  cases hm : m x with
  | some v =>
    obtain ⟨n', hn, rfl⟩ := h2 x v hm
    have : n' = n := by
      have e : ((n' : Nat) : Int) = (n : Int) := hn.symm.trans hx
      omega
    subst this
    exact ⟨bxZ N n' x, true, hl.1 _ hm, fun _ => rfl⟩
  | none => exact ⟨zeR, false, hl.2 hm, fun h => by cases h⟩
/-- The blocks of box: the result, the box so far. -/
structure Hb8 (w : World) (sb g tb cb bb fb most : Nat) (N : List Nd) (xb : Nat) (acc : R4) (W : World) : Prop where
  fn : Fn W sb g tb cb bb fb most N
  frm : Frm [bb] w W
  res : W.heap[w.heap.size]? = some (rcO8 zeR)
  box : W.heap[xb]? = some (rcO8 acc)
  ne : w.heap.size < xb ∧ xb ≠ bb ∧ w.heap.size ≠ bb
theorem Hb8.later {w W W' : World} {sb g tb cb bb fb most xb : Nat} {N : List Nd} {acc : R4} (h : Hb8 w sb g tb cb bb fb most N xb acc W) (hb : Below W.heap.size W W') : Hb8 w sb g tb cb bb fb most N xb acc W' :=
  ⟨h.fn.later hb, h.frm.trans (Frm.of_below (F := [bb]) hb) (fun _ h => Or.inl h), keep8 h.res hb, keep8 h.box hb, h.ne⟩
theorem Hb8.drewN {w W : World} {sb g tb cb bb fb most xb : Nat} {N : List Nd} {acc : R4} (h : Hb8 w sb g tb cb bb fb most N xb acc W) (q : Nat) : Hb8 w sb g tb cb bb fb most N xb acc (W.drewN q) :=
  ⟨h.fn.drewN q, ⟨h.frm.os, h.frm.tape, h.frm.output, h.frm.size, h.frm.block⟩, h.res, h.box, h.ne⟩
theorem Hb8.call {w W W' : World} {sb g tb cb bb fb most xb : Nat} {N : List Nd} {acc : R4} (h : Hb8 w sb g tb cb bb fb most N xb acc W) (hf : Fn W' sb g tb cb bb fb most N) (hr : Frm [bb] W W') : Hb8 w sb g tb cb bb fb most N xb acc W' :=
  ⟨hf, h.frm.trans hr (fun _ h => Or.inl h), by rw [hr.block _ (Array.getElem?_eq_some_iff.1 h.res).1 (by simp [h.ne.2.2])]; exact h.res, by rw [hr.block _ (Array.getElem?_eq_some_iff.1 h.box).1 (by simp [h.ne.2.1])]; exact h.box, h.ne⟩
theorem Hb8.cells {w W : World} {sb g tb cb bb fb most xb : Nat} {N : List Nd} {acc : R4} (h : Hb8 w sb g tb cb bb fb most N xb acc W) : (W.cell? ⟨xb, 0, none⟩ = some (.int .i64 acc.x) ∧ W.cell? ⟨xb, 1, none⟩ = some (.int .i64 acc.y) ∧ W.cell? ⟨xb, 2, none⟩ = some (.int .i64 acc.X) ∧ W.cell? ⟨xb, 3, none⟩ = some (.int .i64 acc.Y)) ∧
    W.frozen? ⟨xb, 0, none⟩ = false ∧ W.frozen? ⟨xb, 1, none⟩ = false ∧ W.frozen? ⟨xb, 2, none⟩ = false ∧ W.frozen? ⟨xb, 3, none⟩ = false :=
  ⟨rc_cells8 h.box, Lib.frozen_of_heap h.box 0, Lib.frozen_of_heap h.box 1, Lib.frozen_of_heap h.box 2, Lib.frozen_of_heap h.box 3⟩
theorem rc_put8 {w : World} {b : Nat} {r : R4} (h : w.heap[b]? = some (rcO8 r)) (q : R4) : ((((w.setCell ⟨b, 0, none⟩ (.int .i64 q.x)).setCell ⟨b, 1, none⟩ (.int .i64 q.y)).setCell ⟨b, 2, none⟩ (.int .i64 q.X)).setCell ⟨b, 3, none⟩ (.int .i64 q.Y)).heap[b]? = some (rcO8 q) := by
  simp only [World.setCell, Array.getElem?_modify, h, rcO8]; simp
theorem Frm.set4 {F : List Nat} {w W : World} {b : Nat} (h : Frm F w W) (hb : w.heap.size ≤ b) (i : Nat) (v : Value) : Frm F w (W.setCell ⟨b, i, none⟩ v) :=
  ⟨h.os, h.tape, h.output, by simpa using h.size, fun b' hb' hn => by rw [Below.heap_setCell _ _ _ _ (by show b' ≠ b; omega)]; exact h.block b' hb' hn⟩
theorem Hb8.put {w W : World} {sb g tb cb bb fb most xb : Nat} {N : List Nd} {acc : R4} (h : Hb8 w sb g tb cb bb fb most N xb acc W) (hx : xb ≠ sb ∧ xb ≠ g ∧ xb ≠ tb ∧ xb ≠ fb) (q : R4) : Hb8 w sb g tb cb bb fb most N xb q ((((W.setCell ⟨xb, 0, none⟩ (.int .i64 q.x)).setCell ⟨xb, 1, none⟩ (.int .i64 q.y)).setCell ⟨xb, 2, none⟩ (.int .i64 q.X)).setCell ⟨xb, 3, none⟩ (.int .i64 q.Y)) := by
  have hs : xb ≠ sb ∧ xb ≠ g ∧ xb ≠ tb ∧ xb ≠ bb ∧ xb ≠ fb := ⟨hx.1, hx.2.1, hx.2.2.1, h.ne.2.1, hx.2.2.2⟩
  have hlt := h.ne.1
  refine ⟨(((h.fn.set hs _).set hs _).set hs _).set hs _, (((h.frm.set4 (by omega) _ _).set4 (by omega) _ _).set4 (by omega) _ _).set4 (by omega) _ _, ?_, rc_put8 h.box q, h.ne⟩
  rw [Below.heap_setCell _ _ _ _ (by show w.heap.size ≠ xb; omega), Below.heap_setCell _ _ _ _ (by show w.heap.size ≠ xb; omega), Below.heap_setCell _ _ _ _ (by show w.heap.size ≠ xb; omega), Below.heap_setCell _ _ _ _ (by show w.heap.size ≠ xb; omega)]
  exact h.res
theorem or_R4 (a b : R4) (W : World) : Calls Try.prog 49 #[.agg #[.int .i64 a.x, .int .i64 a.y, .int .i64 a.X, .int .i64 a.Y], .agg #[.int .i64 b.x, .int .i64 b.y, .int .i64 b.X, .int .i64 b.Y]] W fun e w' => e = .returned (.agg #[.int .i64 (orR a b).x, .int .i64 (orR a b).y, .int .i64 (orR a b).X, .int .i64 (orR a b).Y]) ∧ Below W.heap.size W w' := by
  have := or_any a.x a.y a.X a.Y b.x b.y b.X b.Y W
  have e : valOf (orV a.x a.y a.X a.Y b.x b.y b.X b.Y) = .agg #[.int .i64 (orR a b).x, .int .i64 (orR a b).y, .int .i64 (orR a b).X, .int .i64 (orR a b).Y] := by
    unfold orV orR
    rw [show a.no = noPts a.x a.y a.X a.Y from rfl, show b.no = noPts b.x b.y b.X b.Y from rfl]
    cases noPts a.x a.y a.X a.Y <;> cases noPts b.x b.y b.X b.Y <;> rfl
  rw [e] at this
  exact this
end Go.Proofs.Ytfohkbgacpokoaa
