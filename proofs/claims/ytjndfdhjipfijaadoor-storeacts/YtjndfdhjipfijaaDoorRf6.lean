/- The document's store: New, level, plus: contracts. -/
import Derived.Test.YtjndfdhjipfijaaDoorBk6
import Derived.ArgAppend
namespace Go.Proofs.YtjndfdhjipfijaaDoor
open Go.RowKit Go.Maps
set_option maxRecDepth 100000

/-- The document's store: its block, its squares' block, the slice's room, how many there may be, its squares. -/
structure RSt (w : World) (mb g cap most : Nat) (N : List Nd) : Prop where
  blk : w.heap[mb]? = some (.cells #[.slice (some ⟨g, 0, none⟩) N.length cap, .int .i64 (most : Int)] 47 (0, 0))
  row : ∃ cur, w.heap[g]? = some (.cells cur 64 (0, 0)) ∧ N.length ≤ cap ∧ cap ≤ maxLen ∧ N.length * 6 ≤ cur.size ∧ cur.toList.take (N.length * 6) = ndVs N ∧ (N.length < cap → cur.size = cap * 6)
  wf : Wf N
  room : N.length ≤ most
  most_le : most ≤ 1048576
  ne : mb ≠ g
theorem RSt.lt {w : World} {mb g cap most : Nat} {N : List Nd} (h : RSt w mb g cap most N) : mb < w.heap.size ∧ g < w.heap.size := by
  obtain ⟨cur, hg, _⟩ := h.row
  exact ⟨(Array.getElem?_eq_some_iff.1 h.blk).1, (Array.getElem?_eq_some_iff.1 hg).1⟩
theorem RSt.of_blocks {w w' : World} {mb g cap most : Nat} {N : List Nd} (h : RSt w mb g cap most N) (h1 : w'.heap[mb]? = w.heap[mb]?) (h2 : w'.heap[g]? = w.heap[g]?) : RSt w' mb g cap most N := by
  obtain ⟨cur, hg, r⟩ := h.row
  exact ⟨h1.trans h.blk, ⟨cur, h2.trans hg, r⟩, h.wf, h.room, h.most_le, h.ne⟩
theorem RSt.later {w w' : World} {mb g cap most : Nat} {N : List Nd} (h : RSt w mb g cap most N) (hb : Below w.heap.size w w') : RSt w' mb g cap most N :=
  h.of_blocks (hb.block mb h.lt.1) (hb.block g h.lt.2)
theorem RSt.cells {w : World} {mb g cap most : Nat} {N : List Nd} (h : RSt w mb g cap most N) : w.cell? ⟨mb, 0, none⟩ = some (.slice (some ⟨g, 0, none⟩) N.length cap) ∧ w.cell? ⟨mb, 1, none⟩ = some (.int .i64 (most : Int)) ∧ w.frozen? ⟨mb, 0, none⟩ = false :=
  ⟨by rw [Lib.cell_of_heap h.blk]; rfl, by rw [Lib.cell_of_heap h.blk]; rfl, Lib.frozen_of_heap h.blk 0⟩
theorem RSt.cellAt {w : World} {mb g cap most : Nat} {N : List Nd} (h : RSt w mb g cap most N) (j : Nat) (hj : j < N.length * 6) : w.cell? ⟨g, j, none⟩ = (ndVs N)[j]? := by
  obtain ⟨cur, hg, _, _, h3, h4, _⟩ := h.row
  rw [Lib.cell_of_heap hg, ← h4, List.getElem?_take_of_lt hj, Array.getElem?_toList]
theorem RSt.cell {w : World} {mb g cap most : Nat} {N : List Nd} (h : RSt w mb g cap most N) {x : Nat} {n : Nd} (hx : N[x]? = some n) (j : Nat) (hj : j < 6) : w.cell? ⟨g, x * 6 + j, none⟩ = (ndV n)[j]? := by
  have hl : x < N.length := (List.getElem?_eq_some_iff.1 hx).1
  rw [h.cellAt (x * 6 + j) (by omega), ndVs_at N x j hj, hx]; rfl
theorem RSt.sq {w : World} {mb g cap most : Nat} {N : List Nd} (h : RSt w mb g cap most N) {x : Nat} {n : Nd} (hx : N[x]? = some n) :
    w.cell? ⟨g, x * 6, none⟩ = some (.int .u32 (n.k.1 : Int)) ∧ w.cell? ⟨g, x * 6 + 1, none⟩ = some (.int .u32 (n.k.2.1 : Int)) ∧ w.cell? ⟨g, x * 6 + 2, none⟩ = some (.int .u32 (n.k.2.2.1 : Int)) ∧ w.cell? ⟨g, x * 6 + 3, none⟩ = some (.int .u32 (n.k.2.2.2 : Int)) ∧
    w.cell? ⟨g, x * 6 + 4, none⟩ = some (.int .i64 (n.lv : Int)) ∧ w.cell? ⟨g, x * 6 + 5, none⟩ = some (.int .u64 (n.ct : Int)) :=
  ⟨h.cell hx 0 (by omega), h.cell hx 1 (by omega), h.cell hx 2 (by omega), h.cell hx 3 (by omega), h.cell hx 4 (by omega), h.cell hx 5 (by omega)⟩
theorem RSt.drewN {w : World} {mb g cap most : Nat} {N : List Nd} (h : RSt w mb g cap most N) (q : Nat) : RSt (w.drewN q) mb g cap most N := h.of_blocks rfl rfl
theorem RSt.drew {w : World} {mb g cap most : Nat} {N : List Nd} (h : RSt w mb g cap most N) : RSt w.drew mb g cap most N := h.of_blocks rfl rfl

def rnewW (w : World) (most : Nat) : World := (w.alloc (.cells #[.int .u32 0, .int .u32 0, .int .u32 0, .int .u32 0, .int .i64 0, .int .u64 0, .int .u32 0, .int .u32 0, .int .u32 0, .int .u32 0, .int .i64 0, .int .u64 1] 64)).alloc (.cells #[.slice (some ⟨w.heap.size, 0, none⟩) 2 2, .int .i64 (most : Int)] 47)
theorem rnew_st (w : World) (most : Nat) (h0 : 2 ≤ most) (h1 : most ≤ 1048576) : RSt (rnewW w most) (w.heap.size + 1) w.heap.size 2 most N0 ∧ Below w.heap.size w (rnewW w most) := by
  unfold rnewW
  generalize hc : (.cells #[.int .u32 0, .int .u32 0, .int .u32 0, .int .u32 0, .int .i64 0, .int .u64 0, .int .u32 0, .int .u32 0, .int .u32 0, .int .u32 0, .int .i64 0, .int .u64 1] 64 : Obj) = o1
  have e1 : (w.alloc o1).heap.size = w.heap.size + 1 := by simp
  have b2 := bel1 (w.alloc o1) (.cells #[.slice (some ⟨w.heap.size, 0, none⟩) 2 2, .int .i64 (most : Int)] 47)
  have b1 := bel1 w o1
  refine ⟨⟨?_, ⟨#[.int .u32 0, .int .u32 0, .int .u32 0, .int .u32 0, .int .i64 0, .int .u64 0, .int .u32 0, .int .u32 0, .int .u32 0, .int .u32 0, .int .i64 0, .int .u64 1], ?_, Nat.le_refl _, by unfold maxLen; omega, Nat.le_refl _, rfl, fun _ => rfl⟩, wf_new, h0, h1, by omega⟩, b1.trans (b2.mono (by omega))⟩
  · have := heap_alloc_new (w.alloc o1) (.cells #[.slice (some ⟨w.heap.size, 0, none⟩) 2 2, .int .i64 (most : Int)] 47)
    rw [e1] at this
    exact this
  · rw [b2.block w.heap.size (by omega), heap_alloc_new, ← hc]
theorem rnew_any (most : Nat) (h0 : 2 ≤ most) (h1 : most ≤ 1048576) (w : World) :
    Calls Tryd.prog 6 #[.int .i64 (most : Int)] w fun e w' => ∃ mb g, e = .returned (.pointer (some ⟨mb, 0, none⟩)) ∧ RSt w' mb g 2 most N0 ∧ Below w.heap.size w w' ∧ w.heap.size ≤ mb ∧ w.heap.size ≤ g := by
  go_enter Tryd.func6, Tryd.ntmps6
  go_wp2_with fail
  go_ret
  obtain ⟨s1, s2⟩ := rnew_st w most h0 h1
  exact ⟨_, _, rfl, s1, s2, by omega, by omega⟩
theorem rlevel_any {w : World} {mb g cap most : Nat} {N : List Nd} (h : RSt w mb g cap most N) (x : Nat) (hx : x < 4294967296) :
    Calls Tryd.prog 22 #[.pointer (some ⟨mb, 0, none⟩), .int .u32 (x : Int)] w fun e w' => e = .returned (.int .i64 (lvZ N x)) ∧ w = w' := by
  obtain ⟨c0, c1, _⟩ := h.cells
  have hw1 : IntKind.i64.wrap (x : Int) = (x : Int) := IntWalk.i64_in _ (by omega)
  by_cases hl : x < N.length
  · have hg : decide (N.length ≤ x) = false := by simp; omega
    have hi : (x : Int) < (N.length : Int) := by omega
    have hi0 : (0 : Int) ≤ (x : Int) := by omega
    obtain ⟨_, _, _, _, s4, _⟩ := h.sq (List.getElem?_eq_getElem hl)
    rw [lv_of hl]
    generalize N[x] = n at *
    clear h
    go_enter Tryd.func22, Tryd.ntmps22
    go_wp2_with fail
    go_ret
    exact ⟨rfl, rfl⟩
  · have hg : decide (N.length ≤ x) = true := by simp; omega
    rw [lv_none (by omega)]
    clear h
    go_enter Tryd.func22, Tryd.ntmps22
    go_wp2_with fail
    go_ret
    exact ⟨rfl, rfl⟩
theorem plus_any (a b : Nat) (ha : a ≤ topN) (hb : b ≤ topN) (w : World) :
    Calls Tryd.prog 23 #[.int .u64 (a : Int), .int .u64 (b : Int)] w fun e w' => e = .returned (.int .u64 ((sat a b : Nat) : Int)) ∧ w = w' := by
  unfold topN at ha hb
  by_cases h : a + b ≤ 18446744073709551615
  · have e : sat a b = a + b := by unfold sat topN; omega
    have hw : IntKind.u64.wrap ((a : Int) + (b : Int)) = ((a + b : Nat) : Int) := by rw [IntWalk.u64_in _ (by omega)]; omega
    have hg : decide (a + b < a) = false := by simp
    have hg2 : decide (((a + b : Nat) : Int) < (a : Int)) = false := by simp; omega
    rw [e]
    go_enter Tryd.func23, Tryd.ntmps23
    go_wp2
    go_ret
    exact ⟨rfl, rfl⟩
  · have e : sat a b = 18446744073709551615 := by unfold sat topN; omega
    obtain ⟨d, hd⟩ : ∃ d : Nat, a + b = d + 18446744073709551616 := ⟨a + b - 18446744073709551616, by omega⟩
    have hw : IntKind.u64.wrap ((a : Int) + (b : Int)) = (d : Int) := by
      rw [IntKind.wrap_u64]; omega
    have hg : decide (d < a) = true := by simp; omega
    rw [e]
    go_enter Tryd.func23, Tryd.ntmps23
    go_wp2
    go_ret
    exact ⟨rfl, rfl⟩
end Go.Proofs.YtjndfdhjipfijaaDoor
