/- Package store: the state of a store; Len, Room, Is, Level, Count, Of, Mark: contracts. -/
import Derived.Test.YtgciceogggldhaaTb
import Derived.WalkKit
import Derived.WalkLawsBesides
import Derived.Lib.Hide
import Derived.Deep.LoopGhost
import Derived.Deep.QuietTactic
import Derived.Deep.AppendLies
import Derived.Laws.BytesArg
import Derived.OwnWalk
namespace Go.Proofs.Ytgciceogggldhaa
open Go.RowKit Go.Maps

/-- A square's six cells. -/
def ndV (n : Nd) : List Value := [.int .u32 (n.k.1 : Int), .int .u32 (n.k.2.1 : Int), .int .u32 (n.k.2.2.1 : Int), .int .u32 (n.k.2.2.2 : Int), .int .i64 (n.lv : Int), .int .u64 (n.ct : Int)]
def ndVs (N : List Nd) : List Value := N.flatMap ndV
theorem ndVs_len (N : List Nd) : (ndVs N).length = N.length * 6 := by
  induction N with
  | nil => rfl
  | cons c r ih => simp only [ndVs, List.flatMap_cons, List.length_append, List.length_cons] at ih ⊢; rw [ih]; simp [ndV]; omega
theorem ndVs_at : ∀ (N : List Nd) (i j : Nat), j < 6 → (ndVs N)[i * 6 + j]? = N[i]?.bind (fun n => (ndV n)[j]?)
  | [], i, j, _ => by simp [ndVs]
  | c :: r, 0, j, hj => by simp only [ndVs, List.flatMap_cons, Nat.zero_mul, Nat.zero_add, List.getElem?_cons_zero, Option.bind_some]; rw [List.getElem?_append_left (by simp [ndV]; omega)]
  | c :: r, i + 1, j, hj => by
    have := ndVs_at r i j hj
    simp only [ndVs, List.flatMap_cons, List.getElem?_cons_succ] at this ⊢
    rw [List.getElem?_append_right (by simp [ndV]; omega), show (i + 1) * 6 + j - (ndV c).length = i * 6 + j by simp [ndV]; omega]
    exact this
/-- A store: its block, its squares' block, its table's block, the slice's room, how many there may be, its squares. -/
structure St (w : World) (sb g tb cap most : Nat) (N : List Nd) : Prop where
  blk : w.heap[sb]? = some (.cells #[.int .i64 (most : Int), .slice (some ⟨g, 0, none⟩) N.length cap, .map (some tb)] 66 (0, 0))
  row : w.ownsRow 0 76 6 (.slice (some ⟨g, 0, none⟩) N.length cap) N.length (ndVs N)
  tab : KMap w tb N
  wf : Wf N
  room : N.length ≤ most
  most_le : most ≤ 1048576
  ne : sb ≠ g
theorem St.lt {w : World} {sb g tb cap most : Nat} {N : List Nd} (h : St w sb g tb cap most N) : sb < w.heap.size ∧ g < w.heap.size ∧ tb < w.heap.size := by
  refine ⟨(Array.getElem?_eq_some_iff.1 h.blk).1, ?_, h.tab.lt⟩
  rcases h.row.2 with ⟨hv, _⟩ | ⟨g', cp, cur, hv, _, hg, _⟩
  · cases hv
  · cases hv; exact (Array.getElem?_eq_some_iff.1 hg).1
theorem St.ne_tab {w : World} {sb g tb cap most : Nat} {N : List Nd} (h : St w sb g tb cap most N) : sb ≠ tb ∧ g ≠ tb := by
  obtain ⟨D, ⟨es, cl, h1, _⟩, _⟩ := h.tab
  refine ⟨fun e => ?_, fun e => ?_⟩
  · subst e; rw [h.blk] at h1; cases h1
  · subst e
    rcases h.row.2 with ⟨hv, _⟩ | ⟨g', cp, cur, hv, _, hg, _⟩
    · cases hv
    · cases hv; rw [hg] at h1; cases h1
theorem St.later {w w' : World} {sb g tb cap most : Nat} {N : List Nd} (h : St w sb g tb cap most N) (hb : Below w.heap.size w w') : St w' sb g tb cap most N := by
  obtain ⟨l1, l2, l3⟩ := h.lt
  refine ⟨by rw [hb.block sb l1]; exact h.blk, ⟨h.row.1, ?_⟩, h.tab.blk (hb.block tb l3), h.wf, h.room, h.most_le, h.ne⟩
  rcases h.row.2 with ⟨hv, _⟩ | ⟨g', cp, cur, hv, h0, hg, hr⟩
  · cases hv
  · cases hv; exact Or.inr ⟨g, cap, cur, rfl, h0, by rw [hb.block g l2]; exact hg, hr⟩
theorem St.drewN {w : World} {sb g tb cap most : Nat} {N : List Nd} (h : St w sb g tb cap most N) (q : Nat) : St (w.drewN q) sb g tb cap most N := ⟨h.blk, h.row, h.tab.blk rfl, h.wf, h.room, h.most_le, h.ne⟩
theorem St.cells {w : World} {sb g tb cap most : Nat} {N : List Nd} (h : St w sb g tb cap most N) : w.cell? ⟨sb, 0, none⟩ = some (.int .i64 (most : Int)) ∧ w.cell? ⟨sb, 1, none⟩ = some (.slice (some ⟨g, 0, none⟩) N.length cap) ∧ w.cell? ⟨sb, 2, none⟩ = some (.map (some tb)) ∧ w.frozen? ⟨sb, 1, none⟩ = false :=
  ⟨by rw [Lib.cell_of_heap h.blk]; rfl, by rw [Lib.cell_of_heap h.blk]; rfl, by rw [Lib.cell_of_heap h.blk]; rfl, Lib.frozen_of_heap h.blk 1⟩
theorem St.cell {w : World} {sb g tb cap most : Nat} {N : List Nd} (h : St w sb g tb cap most N) {x : Nat} {n : Nd} (hx : N[x]? = some n) (j : Nat) (hj : j < 6) : w.cell? ⟨g, x * 6 + j, none⟩ = (ndV n)[j]? := by
  have hl : x < N.length := (List.getElem?_eq_some_iff.1 hx).1
  rw [h.row.cellAt (x * 6 + j) (by omega), ndVs_at N x j hj, hx]; rfl
theorem St.sq {w : World} {sb g tb cap most : Nat} {N : List Nd} (h : St w sb g tb cap most N) {x : Nat} {n : Nd} (hx : N[x]? = some n) :
    w.cell? ⟨g, x * 6, none⟩ = some (.int .u32 (n.k.1 : Int)) ∧ w.cell? ⟨g, x * 6 + 1, none⟩ = some (.int .u32 (n.k.2.1 : Int)) ∧ w.cell? ⟨g, x * 6 + 2, none⟩ = some (.int .u32 (n.k.2.2.1 : Int)) ∧ w.cell? ⟨g, x * 6 + 3, none⟩ = some (.int .u32 (n.k.2.2.2 : Int)) ∧
    w.cell? ⟨g, x * 6 + 4, none⟩ = some (.int .i64 (n.lv : Int)) ∧ w.cell? ⟨g, x * 6 + 5, none⟩ = some (.int .u64 (n.ct : Int)) :=
  ⟨h.cell hx 0 (by omega), h.cell hx 1 (by omega), h.cell hx 2 (by omega), h.cell hx 3 (by omega), h.cell hx 4 (by omega), h.cell hx 5 (by omega)⟩

set_option maxRecDepth 100000
theorem len_any {w : World} {sb g tb cap most : Nat} {N : List Nd} (h : St w sb g tb cap most N) :
    Calls Try.prog 8 #[.pointer (some ⟨sb, 0, none⟩)] w fun e w' => e = .returned (.int .i64 (N.length : Int)) ∧ w = w' := by
  obtain ⟨c0, c1, c2, _⟩ := h.cells
  go_enter Try.func8, Try.ntmps8
  go_wp2
  go_ret
  exact ⟨rfl, rfl⟩
theorem len_nil (w : World) : Calls Try.prog 8 #[.pointer none] w fun e w' => e = .returned (.int .i64 0) ∧ w = w' := by
  go_enter Try.func8, Try.ntmps8
  go_wp2
  go_ret
  exact ⟨rfl, rfl⟩
theorem is_any {w : World} {sb g tb cap most : Nat} {N : List Nd} (h : St w sb g tb cap most N) (x : Nat) (hx : x < 4294967296) :
    Calls Try.prog 26 #[.pointer (some ⟨sb, 0, none⟩), .int .u32 (x : Int)] w fun e w' => e = .returned (.bool (decide (x < N.length))) ∧ w = w' := by
  have HS := Lib.hid h
  have hw1 : IntKind.u64.wrap (x : Int) = (x : Int) := IntWalk.u64_in _ (by omega)
  have hw2 : IntKind.u64.wrap (N.length : Int) = (N.length : Int) := IntWalk.u64_in _ (by have := h.room; have := h.most_le; omega)
  clear h
  go_enter Try.func26, Try.ntmps26
  go_wp2_with fail
  refine (len_any HS.out).mono ?_
  rintro e w' ⟨rfl, rfl⟩
  go_wp2
  go_ret
  exact ⟨rfl, rfl⟩
theorem is_nil (x : Nat) (w : World) (hx : x < 4294967296) : Calls Try.prog 26 #[.pointer none, .int .u32 (x : Int)] w fun e w' => e = .returned (.bool false) ∧ w = w' := by
  have hw1 : IntKind.u64.wrap (x : Int) = (x : Int) := IntWalk.u64_in _ (by omega)
  have hw2 : decide ((x : Int) < 0) = false := by simp
  go_enter Try.func26, Try.ntmps26
  go_wp2_with fail
  refine (len_nil _).mono ?_
  rintro e w' ⟨rfl, rfl⟩
  go_wp2
  go_ret
  exact ⟨rfl, rfl⟩
theorem room_any {w : World} {sb g tb cap most : Nat} {N : List Nd} (h : St w sb g tb cap most N) :
    Calls Try.prog 9 #[.pointer (some ⟨sb, 0, none⟩)] w fun e w' => e = .returned (.int .i64 ((most : Int) - (N.length : Int))) ∧ ∃ q, w' = w.drewN q := by
  obtain ⟨c0, c1, c2, _⟩ := h.cells
  have hw1 : IntKind.i64.wrap ((most : Int) - (N.length : Int)) = (most : Int) - (N.length : Int) := IntWalk.i64_in _ (by have := h.room; have := h.most_le; omega)
  go_enter Try.func9, Try.ntmps9
  go_wp2_with fail
  go_quiet (fail)
  go_wp2_with fail
  go_ret
  exact ⟨rfl, _, rfl⟩
theorem room_nil (w : World) : Calls Try.prog 9 #[.pointer none] w fun e w' => e = .returned (.int .i64 0) ∧ w = w' := by
  go_enter Try.func9, Try.ntmps9
  go_wp2
  go_ret
  exact ⟨rfl, rfl⟩
theorem level_any {w : World} {sb g tb cap most : Nat} {N : List Nd} (h : St w sb g tb cap most N) (x : Nat) (hx : x < 4294967296) :
    Calls Try.prog 13 #[.pointer (some ⟨sb, 0, none⟩), .int .u32 (x : Int)] w fun e w' => e = .returned (.int .i64 (lvZ N x)) ∧ w = w' := by
  have HS := Lib.hid h
  obtain ⟨c0, c1, c2, _⟩ := h.cells
  by_cases hl : x < N.length
  · have hg : decide (x < N.length) = true := by simpa using hl
    have hi : (x : Int) < (N.length : Int) := by omega
    have hi0 : (0 : Int) ≤ (x : Int) := by omega
    obtain ⟨_, _, _, _, s4, _⟩ := h.sq (List.getElem?_eq_getElem hl)
    rw [lv_of hl]
    generalize N[x] = n at *
    clear h
    go_enter Try.func13, Try.ntmps13
    go_wp2_with fail
    refine (is_any HS.out x hx).mono ?_
    rintro e w' ⟨rfl, rfl⟩
    go_wp2
    go_ret
    exact ⟨rfl, rfl⟩
  · have hg : decide (x < N.length) = false := by simpa using hl
    rw [lv_none (by omega)]
    clear h
    go_enter Try.func13, Try.ntmps13
    go_wp2_with fail
    refine (is_any HS.out x hx).mono ?_
    rintro e w' ⟨rfl, rfl⟩
    go_wp2
    go_ret
    exact ⟨rfl, rfl⟩
theorem level_nil (x : Nat) (hx : x < 4294967296) (w : World) : Calls Try.prog 13 #[.pointer none, .int .u32 (x : Int)] w fun e w' => e = .returned (.int .i64 (-1)) ∧ w = w' := by
  go_enter Try.func13, Try.ntmps13
  go_wp2_with fail
  refine (is_nil x _ hx).mono ?_
  rintro e w' ⟨rfl, rfl⟩
  go_wp2
  go_ret
  exact ⟨rfl, rfl⟩
theorem count_any {w : World} {sb g tb cap most : Nat} {N : List Nd} (h : St w sb g tb cap most N) (x : Nat) (hx : x < 4294967296) :
    Calls Try.prog 14 #[.pointer (some ⟨sb, 0, none⟩), .int .u32 (x : Int)] w fun e w' => e = .returned (.int .u64 (ctZ N x : Int)) ∧ w = w' := by
  have HS := Lib.hid h
  obtain ⟨c0, c1, c2, _⟩ := h.cells
  by_cases hl : x < N.length
  · have hg : decide (x < N.length) = true := by simpa using hl
    have hi : (x : Int) < (N.length : Int) := by omega
    have hi0 : (0 : Int) ≤ (x : Int) := by omega
    obtain ⟨_, _, _, _, _, s5⟩ := h.sq (List.getElem?_eq_getElem hl)
    rw [ct_of hl]
    generalize N[x] = n at *
    clear h
    go_enter Try.func14, Try.ntmps14
    go_wp2_with fail
    refine (is_any HS.out x hx).mono ?_
    rintro e w' ⟨rfl, rfl⟩
    go_wp2
    go_ret
    exact ⟨rfl, rfl⟩
  · have hg : decide (x < N.length) = false := by simpa using hl
    have hc : ctZ N x = 0 := by unfold ctZ; rw [List.getElem?_eq_none (by omega)]
    rw [hc]
    clear h
    go_enter Try.func14, Try.ntmps14
    go_wp2_with fail
    refine (is_any HS.out x hx).mono ?_
    rintro e w' ⟨rfl, rfl⟩
    go_wp2
    go_ret
    exact ⟨rfl, rfl⟩
theorem count_nil (x : Nat) (hx : x < 4294967296) (w : World) : Calls Try.prog 14 #[.pointer none, .int .u32 (x : Int)] w fun e w' => e = .returned (.int .u64 0) ∧ w = w' := by
  go_enter Try.func14, Try.ntmps14
  go_wp2_with fail
  refine (is_nil x _ hx).mono ?_
  rintro e w' ⟨rfl, rfl⟩
  go_wp2
  go_ret
  exact ⟨rfl, rfl⟩
/-- Four numbers in a block of the call's own. -/
def KAt (w : World) (b : Nat) (k : K4) : Prop := w.heap[b]? = some (.cells #[.int .u32 (k.1 : Int), .int .u32 (k.2.1 : Int), .int .u32 (k.2.2.1 : Int), .int .u32 (k.2.2.2 : Int)] 68 (0, 0))
theorem KAt.lt {w : World} {b : Nat} {k : K4} (h : KAt w b k) : b < w.heap.size := (Array.getElem?_eq_some_iff.1 h).1
theorem KAt.cells {w : World} {b : Nat} {k : K4} (h : KAt w b k) : w.cell? ⟨b, 0, none⟩ = some (.int .u32 (k.1 : Int)) ∧ w.cell? ⟨b, 1, none⟩ = some (.int .u32 (k.2.1 : Int)) ∧ w.cell? ⟨b, 2, none⟩ = some (.int .u32 (k.2.2.1 : Int)) ∧ w.cell? ⟨b, 3, none⟩ = some (.int .u32 (k.2.2.2 : Int)) ∧
    w.frozen? ⟨b, 0, none⟩ = false ∧ w.frozen? ⟨b, 1, none⟩ = false ∧ w.frozen? ⟨b, 2, none⟩ = false ∧ w.frozen? ⟨b, 3, none⟩ = false :=
  ⟨by rw [Lib.cell_of_heap h]; rfl, by rw [Lib.cell_of_heap h]; rfl, by rw [Lib.cell_of_heap h]; rfl, by rw [Lib.cell_of_heap h]; rfl, Lib.frozen_of_heap h 0, Lib.frozen_of_heap h 1, Lib.frozen_of_heap h 2, Lib.frozen_of_heap h 3⟩
theorem KAt.later {w w' : World} {b : Nat} {k : K4} (h : KAt w b k) (hb : Below w.heap.size w w') : KAt w' b k := by
  unfold KAt; rw [hb.block b h.lt]; exact h
theorem k_new (w : World) (k : K4) : KAt (w.alloc (.cells #[.int .u32 (k.1 : Int), .int .u32 (k.2.1 : Int), .int .u32 (k.2.2.1 : Int), .int .u32 (k.2.2.2 : Int)] 68)) w.heap.size k := heap_alloc_new w _
theorem KAt.put {w : World} {b : Nat} {k : K4} (h : KAt w b k) (d : K4) : KAt ((((w.setCell ⟨b, 0, none⟩ (.int .u32 (d.1 : Int))).setCell ⟨b, 1, none⟩ (.int .u32 (d.2.1 : Int))).setCell ⟨b, 2, none⟩ (.int .u32 (d.2.2.1 : Int))).setCell ⟨b, 3, none⟩ (.int .u32 (d.2.2.2 : Int))) b d := by
  unfold KAt at h ⊢
  simp only [World.setCell, Array.getElem?_modify, h]
  simp
/-- A result that is four numbers, written into a block behind a world. -/
theorem k_res {w W : World} {b : Nat} {k : K4} (hb : Below b w W) (h : KAt W b k) (d : K4) :
    ∃ W', ((((W.setCell ⟨b, 0, none⟩ (.int .u32 (d.1 : Int))).setCell ⟨b, 1, none⟩ (.int .u32 (d.2.1 : Int))).setCell ⟨b, 2, none⟩ (.int .u32 (d.2.2.1 : Int))).setCell ⟨b, 3, none⟩ (.int .u32 (d.2.2.2 : Int))) = W' ∧ Below b w W' ∧ KAt W' b d :=
  ⟨_, rfl, (((hb.setCell (p := ⟨b, 0, none⟩) (by simp) _).setCell (p := ⟨b, 1, none⟩) (by simp) _).setCell (p := ⟨b, 2, none⟩) (by simp) _).setCell (p := ⟨b, 3, none⟩) (by simp) _, h.put d⟩
theorem bel1 (w : World) (o : Obj) : Below w.heap.size w (w.alloc o) := (Below.refl _ w).alloc (Nat.le_refl _) o
theorem of_nil (x : Nat) (hx : x < 4294967296) (w : World) : Calls Try.prog 22 #[.pointer none, .int .u32 (x : Int)] w fun e w' => e = .returned (.tuple #[kv (0, 0, 0, 0), .bool false]) ∧ Below w.heap.size w w' := by
  go_enter Try.func22, Try.ntmps22
  go_wp2_with fail
  refine (level_nil x hx _).mono ?_
  rintro e w' ⟨rfl, rfl⟩
  go_wp2
  refine bodyPost_ret (v := _) (by simp [results, Try.results22, go_sem]; rfl) rfl ?_
  exact ⟨rfl, bel1 _ _⟩
end Go.Proofs.Ytgciceogggldhaa
