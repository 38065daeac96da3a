-- P04
import Derived.Test.YtaapkngpnlnjeaaGreatDoorP01
import Derived.WalkKit
import Derived.WalkLawsBesides
import Derived.Lib.Hide
import Derived.Deep.LoopGhost
import Derived.Deep.QuietTactic
import Derived.Deep.AppendLies
import Derived.Laws.BytesArg
import Derived.OwnWalk
import Derived.IntWalk
import Derived.Below
import Derived.Handy
import Derived.BigRegion
import Derived.BigQuiet
import Derived.Deep.RegionWith
import Derived.Deep.RegionHeld3
section
namespace Go.Proofs.YtaapkngpnlnjeaaGreatDoor
open Go.RowKit Go.Maps

/-- A square's six cells. -/
def ndV (n : Nd) : List Value := [.int .u32 (n.k.1 : Int), .int .u32 (n.k.2.1 : Int), .int .u32 (n.k.2.2.1 : Int), .int .u32 (n.k.2.2.2 : Int), .int .i64 (n.lv : Int), .int .u64 (n.ct : Int)]
def ndVs (N : List Nd) : List Value := N.flatMap ndV
theorem ndVs_len (N : List Nd) : (ndVs N).length = N.length * 6 := by
  induction N with
  | nil => rfl
  | cons c r ih => simp only [ndVs, List.flatMap_cons, List.length_append, List.length_cons] at ih ⊢; rw [ih]; simp [ndV]; omega
theorem ndVs_at : ∀ (N : List Nd) (i j : Nat), j < 6 → (ndVs N)[i * 6 + j]? = N[i]?.bind (fun n => (ndV n)[j]?)
  | [], i, j, _ => by simp [ndVs]
  | c :: r, 0, j, hj => by simp only [ndVs, List.flatMap_cons, Nat.zero_mul, Nat.zero_add, List.getElem?_cons_zero, Option.bind_some]; rw [List.getElem?_append_left (by simp [ndV]; omega)]
  | c :: r, i + 1, j, hj => by
    have := ndVs_at r i j hj
    simp only [ndVs, List.flatMap_cons, List.getElem?_cons_succ] at this ⊢
    rw [List.getElem?_append_right (by simp [ndV]; omega), show (i + 1) * 6 + j - (ndV c).length = i * 6 + j by simp [ndV]; omega]
    exact this
/-- A store: its block, its squares' block, its table's block, the slice's room, how many there may be, its squares. -/
structure St (w : World) (sb g tb cap most : Nat) (N : List Nd) : Prop where
  blk : w.heap[sb]? = some (.cells #[.int .i64 (most : Int), .slice (some ⟨g, 0, none⟩) N.length cap, .map (some tb)] 69 (0, 0))
  row : w.ownsRow 0 65 6 (.slice (some ⟨g, 0, none⟩) N.length cap) N.length (ndVs N)
  tab : KMap w tb N
  wf : Wf N
  room : N.length ≤ most
  most_le : most ≤ 1048576
  ne : sb ≠ g
theorem St.lt {w : World} {sb g tb cap most : Nat} {N : List Nd} (h : St w sb g tb cap most N) : sb < w.heap.size ∧ g < w.heap.size ∧ tb < w.heap.size := by
  refine ⟨(Array.getElem?_eq_some_iff.1 h.blk).1, ?_, h.tab.lt⟩
  rcases h.row.2 with ⟨hv, _⟩ | ⟨g', cp, cur, hv, _, hg, _⟩
  · cases hv
  · cases hv; exact (Array.getElem?_eq_some_iff.1 hg).1
theorem St.ne_tab {w : World} {sb g tb cap most : Nat} {N : List Nd} (h : St w sb g tb cap most N) : sb ≠ tb ∧ g ≠ tb := by
  obtain ⟨D, ⟨es, cl, h1, _⟩, _⟩ := h.tab
  refine ⟨fun e => ?_, fun e => ?_⟩
  · subst e; rw [h.blk] at h1; cases h1
  · subst e
    rcases h.row.2 with ⟨hv, _⟩ | ⟨g', cp, cur, hv, _, hg, _⟩
    · cases hv
    · cases hv; rw [hg] at h1; cases h1
theorem St.later {w w' : World} {sb g tb cap most : Nat} {N : List Nd} (h : St w sb g tb cap most N) (hb : Below w.heap.size w w') : St w' sb g tb cap most N := by
  obtain ⟨l1, l2, l3⟩ := h.lt
  refine ⟨by rw [hb.block sb l1]; exact h.blk, ⟨h.row.1, ?_⟩, h.tab.blk (hb.block tb l3), h.wf, h.room, h.most_le, h.ne⟩
  rcases h.row.2 with ⟨hv, _⟩ | ⟨g', cp, cur, hv, h0, hg, hr⟩
  · cases hv
  · cases hv; exact Or.inr ⟨g, cap, cur, rfl, h0, by rw [hb.block g l2]; exact hg, hr⟩
theorem St.drewN {w : World} {sb g tb cap most : Nat} {N : List Nd} (h : St w sb g tb cap most N) (q : Nat) : St (w.drewN q) sb g tb cap most N := ⟨h.blk, h.row, h.tab.blk rfl, h.wf, h.room, h.most_le, h.ne⟩
theorem St.cells {w : World} {sb g tb cap most : Nat} {N : List Nd} (h : St w sb g tb cap most N) : w.cell? ⟨sb, 0, none⟩ = some (.int .i64 (most : Int)) ∧ w.cell? ⟨sb, 1, none⟩ = some (.slice (some ⟨g, 0, none⟩) N.length cap) ∧ w.cell? ⟨sb, 2, none⟩ = some (.map (some tb)) ∧ w.frozen? ⟨sb, 1, none⟩ = false :=
  ⟨by rw [Lib.cell_of_heap h.blk]; rfl, by rw [Lib.cell_of_heap h.blk]; rfl, by rw [Lib.cell_of_heap h.blk]; rfl, Lib.frozen_of_heap h.blk 1⟩
theorem St.cell {w : World} {sb g tb cap most : Nat} {N : List Nd} (h : St w sb g tb cap most N) {x : Nat} {n : Nd} (hx : N[x]? = some n) (j : Nat) (hj : j < 6) : w.cell? ⟨g, x * 6 + j, none⟩ = (ndV n)[j]? := by
  have hl : x < N.length := (List.getElem?_eq_some_iff.1 hx).1
  rw [h.row.cellAt (x * 6 + j) (by omega), ndVs_at N x j hj, hx]; rfl
theorem St.sq {w : World} {sb g tb cap most : Nat} {N : List Nd} (h : St w sb g tb cap most N) {x : Nat} {n : Nd} (hx : N[x]? = some n) :
    w.cell? ⟨g, x * 6, none⟩ = some (.int .u32 (n.k.1 : Int)) ∧ w.cell? ⟨g, x * 6 + 1, none⟩ = some (.int .u32 (n.k.2.1 : Int)) ∧ w.cell? ⟨g, x * 6 + 2, none⟩ = some (.int .u32 (n.k.2.2.1 : Int)) ∧ w.cell? ⟨g, x * 6 + 3, none⟩ = some (.int .u32 (n.k.2.2.2 : Int)) ∧
    w.cell? ⟨g, x * 6 + 4, none⟩ = some (.int .i64 (n.lv : Int)) ∧ w.cell? ⟨g, x * 6 + 5, none⟩ = some (.int .u64 (n.ct : Int)) :=
  ⟨h.cell hx 0 (by omega), h.cell hx 1 (by omega), h.cell hx 2 (by omega), h.cell hx 3 (by omega), h.cell hx 4 (by omega), h.cell hx 5 (by omega)⟩

set_option maxRecDepth 100000
theorem len_any {w : World} {sb g tb cap most : Nat} {N : List Nd} (h : St w sb g tb cap most N) :
    Calls Tryz.prog 54 #[.pointer (some ⟨sb, 0, none⟩)] w fun e w' => e = .returned (.int .i64 (N.length : Int)) ∧ w = w' := by
  obtain ⟨c0, c1, c2, _⟩ := h.cells
  go_enter Tryz.func54, Tryz.ntmps54
  go_wp2
  go_ret
  exact ⟨rfl, rfl⟩
theorem len_nil (w : World) : Calls Tryz.prog 54 #[.pointer none] w fun e w' => e = .returned (.int .i64 0) ∧ w = w' := by
  go_enter Tryz.func54, Tryz.ntmps54
  go_wp2
  go_ret
  exact ⟨rfl, rfl⟩
theorem is_any {w : World} {sb g tb cap most : Nat} {N : List Nd} (h : St w sb g tb cap most N) (x : Nat) (hx : x < 4294967296) :
    Calls Tryz.prog 33 #[.pointer (some ⟨sb, 0, none⟩), .int .u32 (x : Int)] w fun e w' => e = .returned (.bool (decide (x < N.length))) ∧ w = w' := by
  have HS := Lib.hid h
  have hw1 : IntKind.u64.wrap (x : Int) = (x : Int) := IntWalk.u64_in _ (by omega)
  have hw2 : IntKind.u64.wrap (N.length : Int) = (N.length : Int) := IntWalk.u64_in _ (by have := h.room; have := h.most_le; omega)
  clear h
  go_enter Tryz.func33, Tryz.ntmps33
  go_wp2_with fail
  refine (len_any HS.out).mono ?_
  rintro e w' ⟨rfl, rfl⟩
  go_wp2
  go_ret
  exact ⟨rfl, rfl⟩
theorem is_nil (x : Nat) (w : World) (hx : x < 4294967296) : Calls Tryz.prog 33 #[.pointer none, .int .u32 (x : Int)] w fun e w' => e = .returned (.bool false) ∧ w = w' := by
  have hw1 : IntKind.u64.wrap (x : Int) = (x : Int) := IntWalk.u64_in _ (by omega)
  have hw2 : decide ((x : Int) < 0) = false := by simp
  go_enter Tryz.func33, Tryz.ntmps33
  go_wp2_with fail
  refine (len_nil _).mono ?_
  rintro e w' ⟨rfl, rfl⟩
  go_wp2
  go_ret
  exact ⟨rfl, rfl⟩
theorem room_any {w : World} {sb g tb cap most : Nat} {N : List Nd} (h : St w sb g tb cap most N) :
    Calls Tryz.prog 73 #[.pointer (some ⟨sb, 0, none⟩)] w fun e w' => e = .returned (.int .i64 ((most : Int) - (N.length : Int))) ∧ ∃ q, w' = w.drewN q := by
  obtain ⟨c0, c1, c2, _⟩ := h.cells
  have hw1 : IntKind.i64.wrap ((most : Int) - (N.length : Int)) = (most : Int) - (N.length : Int) := IntWalk.i64_in _ (by have := h.room; have := h.most_le; omega)
  go_enter Tryz.func73, Tryz.ntmps73
  go_wp2_with fail
  go_quiet (fail)
  go_wp2_with fail
  go_ret
  exact ⟨rfl, _, rfl⟩
theorem room_nil (w : World) : Calls Tryz.prog 73 #[.pointer none] w fun e w' => e = .returned (.int .i64 0) ∧ w = w' := by
  go_enter Tryz.func73, Tryz.ntmps73
  go_wp2
  go_ret
  exact ⟨rfl, rfl⟩
theorem level_any {w : World} {sb g tb cap most : Nat} {N : List Nd} (h : St w sb g tb cap most N) (x : Nat) (hx : x < 4294967296) :
    Calls Tryz.prog 17 #[.pointer (some ⟨sb, 0, none⟩), .int .u32 (x : Int)] w fun e w' => e = .returned (.int .i64 (lvZ N x)) ∧ w = w' := by
  have HS := Lib.hid h
  obtain ⟨c0, c1, c2, _⟩ := h.cells
  by_cases hl : x < N.length
  · have hg : decide (x < N.length) = true := by simpa using hl
    have hi : (x : Int) < (N.length : Int) := by omega
    have hi0 : (0 : Int) ≤ (x : Int) := by omega
    obtain ⟨_, _, _, _, s4, _⟩ := h.sq (List.getElem?_eq_getElem hl)
    rw [lv_of hl]
    generalize N[x] = n at *
    clear h
    go_enter Tryz.func17, Tryz.ntmps17
    go_wp2_with fail
    refine (is_any HS.out x hx).mono ?_
    rintro e w' ⟨rfl, rfl⟩
    go_wp2
    go_ret
    exact ⟨rfl, rfl⟩
  · have hg : decide (x < N.length) = false := by simpa using hl
    rw [lv_none (by omega)]
    clear h
    go_enter Tryz.func17, Tryz.ntmps17
    go_wp2_with fail
    refine (is_any HS.out x hx).mono ?_
    rintro e w' ⟨rfl, rfl⟩
    go_wp2
    go_ret
    exact ⟨rfl, rfl⟩
theorem level_nil (x : Nat) (hx : x < 4294967296) (w : World) : Calls Tryz.prog 17 #[.pointer none, .int .u32 (x : Int)] w fun e w' => e = .returned (.int .i64 (-1)) ∧ w = w' := by
  go_enter Tryz.func17, Tryz.ntmps17
  go_wp2_with fail
  refine (is_nil x _ hx).mono ?_
  rintro e w' ⟨rfl, rfl⟩
  go_wp2
  go_ret
  exact ⟨rfl, rfl⟩
theorem count_any {w : World} {sb g tb cap most : Nat} {N : List Nd} (h : St w sb g tb cap most N) (x : Nat) (hx : x < 4294967296) :
    Calls Tryz.prog 20 #[.pointer (some ⟨sb, 0, none⟩), .int .u32 (x : Int)] w fun e w' => e = .returned (.int .u64 (ctZ N x : Int)) ∧ w = w' := by
  have HS := Lib.hid h
  obtain ⟨c0, c1, c2, _⟩ := h.cells
  by_cases hl : x < N.length
  · have hg : decide (x < N.length) = true := by simpa using hl
    have hi : (x : Int) < (N.length : Int) := by omega
    have hi0 : (0 : Int) ≤ (x : Int) := by omega
    obtain ⟨_, _, _, _, _, s5⟩ := h.sq (List.getElem?_eq_getElem hl)
    rw [ct_of hl]
    generalize N[x] = n at *
    clear h
    go_enter Tryz.func20, Tryz.ntmps20
    go_wp2_with fail
    refine (is_any HS.out x hx).mono ?_
    rintro e w' ⟨rfl, rfl⟩
    go_wp2
    go_ret
    exact ⟨rfl, rfl⟩
  · have hg : decide (x < N.length) = false := by simpa using hl
    have hc : ctZ N x = 0 := by unfold ctZ; rw [List.getElem?_eq_none (by omega)]
    rw [hc]
    clear h
    go_enter Tryz.func20, Tryz.ntmps20
    go_wp2_with fail
    refine (is_any HS.out x hx).mono ?_
    rintro e w' ⟨rfl, rfl⟩
    go_wp2
    go_ret
    exact ⟨rfl, rfl⟩
theorem count_nil (x : Nat) (hx : x < 4294967296) (w : World) : Calls Tryz.prog 20 #[.pointer none, .int .u32 (x : Int)] w fun e w' => e = .returned (.int .u64 0) ∧ w = w' := by
  go_enter Tryz.func20, Tryz.ntmps20
  go_wp2_with fail
  refine (is_nil x _ hx).mono ?_
  rintro e w' ⟨rfl, rfl⟩
  go_wp2
  go_ret
  exact ⟨rfl, rfl⟩
/-- Four numbers in a block of the call's own. -/
def KAt (w : World) (b : Nat) (k : K4) : Prop := w.heap[b]? = some (.cells #[.int .u32 (k.1 : Int), .int .u32 (k.2.1 : Int), .int .u32 (k.2.2.1 : Int), .int .u32 (k.2.2.2 : Int)] 63 (0, 0))
theorem KAt.lt {w : World} {b : Nat} {k : K4} (h : KAt w b k) : b < w.heap.size := (Array.getElem?_eq_some_iff.1 h).1
theorem KAt.cells {w : World} {b : Nat} {k : K4} (h : KAt w b k) : w.cell? ⟨b, 0, none⟩ = some (.int .u32 (k.1 : Int)) ∧ w.cell? ⟨b, 1, none⟩ = some (.int .u32 (k.2.1 : Int)) ∧ w.cell? ⟨b, 2, none⟩ = some (.int .u32 (k.2.2.1 : Int)) ∧ w.cell? ⟨b, 3, none⟩ = some (.int .u32 (k.2.2.2 : Int)) ∧
    w.frozen? ⟨b, 0, none⟩ = false ∧ w.frozen? ⟨b, 1, none⟩ = false ∧ w.frozen? ⟨b, 2, none⟩ = false ∧ w.frozen? ⟨b, 3, none⟩ = false :=
  ⟨by rw [Lib.cell_of_heap h]; rfl, by rw [Lib.cell_of_heap h]; rfl, by rw [Lib.cell_of_heap h]; rfl, by rw [Lib.cell_of_heap h]; rfl, Lib.frozen_of_heap h 0, Lib.frozen_of_heap h 1, Lib.frozen_of_heap h 2, Lib.frozen_of_heap h 3⟩
theorem KAt.later {w w' : World} {b : Nat} {k : K4} (h : KAt w b k) (hb : Below w.heap.size w w') : KAt w' b k := by
  unfold KAt; rw [hb.block b h.lt]; exact h
theorem k_new (w : World) (k : K4) : KAt (w.alloc (.cells #[.int .u32 (k.1 : Int), .int .u32 (k.2.1 : Int), .int .u32 (k.2.2.1 : Int), .int .u32 (k.2.2.2 : Int)] 63)) w.heap.size k := heap_alloc_new w _
theorem KAt.put {w : World} {b : Nat} {k : K4} (h : KAt w b k) (d : K4) : KAt ((((w.setCell ⟨b, 0, none⟩ (.int .u32 (d.1 : Int))).setCell ⟨b, 1, none⟩ (.int .u32 (d.2.1 : Int))).setCell ⟨b, 2, none⟩ (.int .u32 (d.2.2.1 : Int))).setCell ⟨b, 3, none⟩ (.int .u32 (d.2.2.2 : Int))) b d := by
  unfold KAt at h ⊢
  simp only [World.setCell, Array.getElem?_modify, h]
  simp
/-- A result that is four numbers, written into a block behind a world. -/
theorem k_res {w W : World} {b : Nat} {k : K4} (hb : Below b w W) (h : KAt W b k) (d : K4) :
    ∃ W', ((((W.setCell ⟨b, 0, none⟩ (.int .u32 (d.1 : Int))).setCell ⟨b, 1, none⟩ (.int .u32 (d.2.1 : Int))).setCell ⟨b, 2, none⟩ (.int .u32 (d.2.2.1 : Int))).setCell ⟨b, 3, none⟩ (.int .u32 (d.2.2.2 : Int))) = W' ∧ Below b w W' ∧ KAt W' b d :=
  ⟨_, rfl, (((hb.setCell (p := ⟨b, 0, none⟩) (by simp) _).setCell (p := ⟨b, 1, none⟩) (by simp) _).setCell (p := ⟨b, 2, none⟩) (by simp) _).setCell (p := ⟨b, 3, none⟩) (by simp) _, h.put d⟩
theorem bel1 (w : World) (o : Obj) : Below w.heap.size w (w.alloc o) := (Below.refl _ w).alloc (Nat.le_refl _) o
theorem of_nil (x : Nat) (hx : x < 4294967296) (w : World) : Calls Tryz.prog 41 #[.pointer none, .int .u32 (x : Int)] w fun e w' => e = .returned (.tuple #[kv (0, 0, 0, 0), .bool false]) ∧ Below w.heap.size w w' := by
  go_enter Tryz.func41, Tryz.ntmps41
  go_wp2_with fail
  refine (level_nil x hx _).mono ?_
  rintro e w' ⟨rfl, rfl⟩
  go_wp2
  refine bodyPost_ret (v := _) (by simp [results, Tryz.results41, go_sem]; rfl) rfl ?_
  exact ⟨rfl, bel1 _ _⟩
end Go.Proofs.YtaapkngpnlnjeaaGreatDoor
end

section
namespace Go.Proofs.YtaapkngpnlnjeaaGreatDoor
open Go.RowKit

/-- Is a coordinate on the plane? -/
def onP (n : Int) : Bool := decide (-2305843009213693952 < n) && decide (n < 2305843009213693952)

theorem onPlane_any (n : Int) (w : World) :
    Calls Tryz.prog 35 #[.int .i64 n] w fun e w' => e = .returned (.bool (onP n)) ∧ w = w' := by
  by_cases h1 : -2305843009213693952 < n
  · have e : onP n = decide (n < 2305843009213693952) := by unfold onP; rw [decide_eq_true h1, Bool.true_and]
    rw [e]
    go_enter Tryz.func35, Tryz.ntmps35
    go_wp2
    go_ret
    exact ⟨rfl, rfl⟩
  · have e : onP n = false := by unfold onP; rw [decide_eq_false h1, Bool.false_and]
    rw [e]
    go_enter Tryz.func35, Tryz.ntmps35
    go_wp2
    go_ret
    exact ⟨rfl, rfl⟩
theorem pright_any (x y : Int) (w : World) :
    Calls Tryz.prog 19 #[.agg #[.int .i64 x, .int .i64 y]] w fun e w' => e = .returned (.bool (onP x && onP y)) ∧ Below w.heap.size w w' := by
  go_enter Tryz.func19, Tryz.ntmps19
  go_wp2_with fail
  refine (onPlane_any x _).mono ?_
  rintro e w' ⟨rfl, rfl⟩
  cases hx : onP x with
  | true =>
    go_wp2_with fail
    refine (onPlane_any y _).mono ?_
    rintro e w' ⟨rfl, rfl⟩
    go_wp2
    go_ret
    exact ⟨by rw [hx]; rfl, by go_grown⟩
  | false =>
    go_wp2
    go_ret
    exact ⟨by rw [hx]; rfl, by go_grown⟩

theorem blk_lt {w : World} {p : Addr} {v : Value} (h : w.cell? p = some v) : p.block < w.heap.size := by
  apply Classical.byContradiction
  intro hn
  simp [World.cell?, Array.getElem?_eq_none (Nat.le_of_not_lt hn)] at h
/-- Numbers in a block of the call's own. -/
def Nums (w : World) (b : Nat) (zs : List Int) : Prop := b < w.heap.size ∧ ∀ j z, zs[j]? = some z → w.cell? ⟨b, j, none⟩ = some (.int .i64 z) ∧ w.frozen? ⟨b, j, none⟩ = false
theorem Nums.later {w w' : World} {b : Nat} {zs : List Int} (h : Nums w b zs) (hb : Below w.heap.size w w') : Nums w' b zs :=
  ⟨Nat.lt_of_lt_of_le h.1 hb.size, fun j z hz => ⟨by rw [hb.cell (p := ⟨b, j, none⟩) h.1]; exact (h.2 j z hz).1, by rw [hb.frozen (p := ⟨b, j, none⟩) h.1]; exact (h.2 j z hz).2⟩⟩
theorem Nums.two {w : World} {b : Nat} {x y : Int} (h : Nums w b [x, y]) : w.cell? ⟨b, 0, none⟩ = some (.int .i64 x) ∧ w.cell? ⟨b, 1, none⟩ = some (.int .i64 y) ∧ w.frozen? ⟨b, 0, none⟩ = false ∧ w.frozen? ⟨b, 1, none⟩ = false :=
  ⟨(h.2 0 x rfl).1, (h.2 1 y rfl).1, (h.2 0 x rfl).2, (h.2 1 y rfl).2⟩
theorem Nums.four {w : World} {b : Nat} {x y X Y : Int} (h : Nums w b [x, y, X, Y]) : w.cell? ⟨b, 0, none⟩ = some (.int .i64 x) ∧ w.cell? ⟨b, 1, none⟩ = some (.int .i64 y) ∧ w.cell? ⟨b, 2, none⟩ = some (.int .i64 X) ∧ w.cell? ⟨b, 3, none⟩ = some (.int .i64 Y) ∧ w.frozen? ⟨b, 0, none⟩ = false ∧ w.frozen? ⟨b, 1, none⟩ = false ∧ w.frozen? ⟨b, 2, none⟩ = false ∧ w.frozen? ⟨b, 3, none⟩ = false :=
  ⟨(h.2 0 x rfl).1, (h.2 1 y rfl).1, (h.2 2 X rfl).1, (h.2 3 Y rfl).1, (h.2 0 x rfl).2, (h.2 1 y rfl).2, (h.2 2 X rfl).2, (h.2 3 Y rfl).2⟩
theorem pt_new (w : World) (x y : Int) (t : TypeId) : Nums (w.alloc (.cells #[.int .i64 x, .int .i64 y] t)) w.heap.size [x, y] := by
  refine ⟨by simp, fun j z hz => ?_⟩
  match j, hz with
  | 0, hz => obtain rfl : x = z := by simpa using hz
             exact ⟨by simp, by simp⟩
  | 1, hz => obtain rfl : y = z := by simpa using hz
             exact ⟨by simp, by simp⟩
  | j + 2, hz => simp at hz
theorem rc_new (w : World) (x y X Y : Int) (t : TypeId) : Nums (w.alloc (.cells #[.int .i64 x, .int .i64 y, .int .i64 X, .int .i64 Y] t)) w.heap.size [x, y, X, Y] := by
  refine ⟨by simp, fun j z hz => ?_⟩
  match j, hz with
  | 0, hz => obtain rfl : x = z := by simpa using hz
             exact ⟨by simp, by simp⟩
  | 1, hz => obtain rfl : y = z := by simpa using hz
             exact ⟨by simp, by simp⟩
  | 2, hz => obtain rfl : X = z := by simpa using hz
             exact ⟨by simp, by simp⟩
  | 3, hz => obtain rfl : Y = z := by simpa using hz
             exact ⟨by simp, by simp⟩
  | j + 4, hz => simp at hz
theorem put_two {w : World} {b B : Nat} {x y : Int} {w0 : World} (h : Nums w b [x, y]) (hb : Below B w0 w) (hB : B ≤ b) (x' y' : Int) : ∃ W, (w.setCell ⟨b, 0, none⟩ (.int .i64 x')).setCell ⟨b, 1, none⟩ (.int .i64 y') = W ∧ Below B w0 W ∧ Nums W b [x', y'] := by
  obtain ⟨c0, c1, f0, f1⟩ := h.two
  refine ⟨_, rfl, (hb.setCell (p := ⟨b, 0, none⟩) hB _).setCell (p := ⟨b, 1, none⟩) hB _, by simpa using h.1, fun j z hz => ?_⟩
  match j, hz with
  | 0, hz => obtain rfl : x' = z := by simpa using hz
             refine ⟨?_, by simpa using f0⟩
             rw [World.cell?_setCell_other _ _ _ _ (by simp)]
             exact World.cell?_setCell_same _ _ _ c0
  | 1, hz => obtain rfl : y' = z := by simpa using hz
             refine ⟨?_, by simpa using f1⟩
             exact World.cell?_setCell_same _ _ _ (by rw [World.cell?_setCell_other _ _ _ _ (by simp)]; exact c1)
  | j + 2, hz => simp at hz
theorem put_four {w : World} {b B : Nat} {x y X Y : Int} {w0 : World} (h : Nums w b [x, y, X, Y]) (hb : Below B w0 w) (hB : B ≤ b) (x' y' X' Y' : Int) : ∃ W, (((w.setCell ⟨b, 0, none⟩ (.int .i64 x')).setCell ⟨b, 1, none⟩ (.int .i64 y')).setCell ⟨b, 2, none⟩ (.int .i64 X')).setCell ⟨b, 3, none⟩ (.int .i64 Y') = W ∧ Below B w0 W ∧ Nums W b [x', y', X', Y'] := by
  obtain ⟨c0, c1, c2, c3, f0, f1, f2, f3⟩ := h.four
  refine ⟨_, rfl, (((hb.setCell (p := ⟨b, 0, none⟩) hB _).setCell (p := ⟨b, 1, none⟩) hB _).setCell (p := ⟨b, 2, none⟩) hB _).setCell (p := ⟨b, 3, none⟩) hB _, by simpa using h.1, fun j z hz => ?_⟩
  match j, hz with
  | 0, hz => obtain rfl : x' = z := by simpa using hz
             refine ⟨?_, by simpa using f0⟩
             rw [World.cell?_setCell_other _ _ _ _ (by simp), World.cell?_setCell_other _ _ _ _ (by simp), World.cell?_setCell_other _ _ _ _ (by simp)]
             exact World.cell?_setCell_same _ _ _ c0
  | 1, hz => obtain rfl : y' = z := by simpa using hz
             refine ⟨?_, by simpa using f1⟩
             rw [World.cell?_setCell_other _ _ _ _ (by simp), World.cell?_setCell_other _ _ _ _ (by simp)]
             exact World.cell?_setCell_same _ _ _ (by rw [World.cell?_setCell_other _ _ _ _ (by simp)]; exact c1)
  | 2, hz => obtain rfl : X' = z := by simpa using hz
             refine ⟨?_, by simpa using f2⟩
             rw [World.cell?_setCell_other _ _ _ _ (by simp)]
             exact World.cell?_setCell_same _ _ _ (by rw [World.cell?_setCell_other _ _ _ _ (by simp), World.cell?_setCell_other _ _ _ _ (by simp)]; exact c2)
  | 3, hz => obtain rfl : Y' = z := by simpa using hz
             refine ⟨?_, by simpa using f3⟩
             exact World.cell?_setCell_same _ _ _ (by rw [World.cell?_setCell_other _ _ _ _ (by simp), World.cell?_setCell_other _ _ _ _ (by simp), World.cell?_setCell_other _ _ _ _ (by simp)]; exact c3)
  | j + 4, hz => simp at hz

theorem row_four (w : World) (x y X Y : Int) (t : TypeId) : ∀ j z, [x, y, X, Y][j]? = some z → (w.alloc (.cells #[.int .i64 x, .int .i64 y, .int .i64 X, .int .i64 Y] t)).cell? ⟨w.heap.size, j, none⟩ = some (.int .i64 z) := fun j z hz => ((rc_new w x y X Y t).2 j z hz).1
theorem has_any (x y X Y a b : Int) (w : World) :
    Calls Tryz.prog 39 #[.agg #[.int .i64 x, .int .i64 y, .int .i64 X, .int .i64 Y], .agg #[.int .i64 a, .int .i64 b]] w fun e w' => e = .returned (.bool (decide (x ≤ a) && decide (a < X) && decide (y ≤ b) && decide (b < Y))) ∧ Below w.heap.size w w' := by
  by_cases h1 : x ≤ a
  · by_cases h2 : a < X
    · by_cases h3 : y ≤ b
      · rw [decide_eq_true h1, decide_eq_true h2, decide_eq_true h3, Bool.true_and, Bool.true_and]
        go_enter Tryz.func39, Tryz.ntmps39
        go_wp2
        go_ret
        exact ⟨rfl, by go_grown⟩
      · rw [decide_eq_true h1, decide_eq_true h2, decide_eq_false h3, Bool.true_and, Bool.true_and]
        go_enter Tryz.func39, Tryz.ntmps39
        go_wp2
        go_ret
        exact ⟨rfl, by go_grown⟩
    · rw [decide_eq_true h1, decide_eq_false h2, Bool.true_and, Bool.false_and]
      go_enter Tryz.func39, Tryz.ntmps39
      go_wp2
      go_ret
      exact ⟨rfl, by go_grown⟩
  · rw [decide_eq_false h1, Bool.false_and, Bool.false_and]
    go_enter Tryz.func39, Tryz.ntmps39
    go_wp2
    go_ret
    exact ⟨rfl, by go_grown⟩
end Go.Proofs.YtaapkngpnlnjeaaGreatDoor
end
