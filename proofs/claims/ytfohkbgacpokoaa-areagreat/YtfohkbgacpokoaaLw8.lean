/- Fill, where there is room: a rectangle of a plane without living cells, and cleared again. -/
import Derived.Test.YtfohkbgacpokoaaNn8
namespace Go.Proofs.Ytfohkbgacpokoaa
open Go.RowKit Go.Maps
set_option maxRecDepth 100000

theorem nx_cnt {w w' : World} {sb tb most g g' c d : Nat} {N N' : List Nd} (h : Nx sb tb most w g N c w' g' N') (hd : N'.length ≤ N.length + d) : Nx sb tb most w g N d w' g' N' := by
  obtain ⟨E, e1, _⟩ := h.ext
  exact ⟨h.st, h.frm, h.gin, E, e1, by rw [e1, List.length_append] at hd; omega⟩
theorem em_al8 {N : List Nd} {n x : Nat} (h : Em N (n + 1) x) (a b : Int) : alK N n (kidZ N x) a b = false := by
  rw [al_root, h.2]
  cases inS n a <;> cases inS n b <;> rfl
theorem fill_law {w : World} {sb g tb cap most : Nat} {N : List Nd} (h : St w sb g tb cap most N) {n0 x : Nat} (hx : Em N (n0 + 1) x) (h2 : 2 ≤ n0) (r : R4) (hr : rightR r.x r.y r.X r.Y = true) (hroom : N.length + 2020 ≤ most) :
    Calls Try.prog 7 #[.agg #[.pointer (some ⟨sb, 0, none⟩), .int .u32 (x : Int)], .agg #[.int .i64 r.x, .int .i64 r.y, .int .i64 r.X, .int .i64 r.Y], .bool true] w fun e w' => ∃ (g' n y : Nat) (N' : List Nd), e = .returned (.tuple #[.agg #[.pointer (some ⟨sb, 0, none⟩), .int .u32 (y : Int)], .nilIface]) ∧ Nx sb tb most w g N 2016 w' g' N' ∧ Sq N' (n + 1) y ∧ n0 ≤ n ∧ n ≤ 61 ∧ (∀ a b, alK N' n (kidZ N' y) a b = r.has a b) := by
  refine (fill8_any h hx.1 h2 r hr true).mono ?_
  rintro e w' ⟨g', N', n, ⟨l1, l2, l3, _⟩, hnx, hnew, hres⟩
  have hlen : N'.length ≤ N.length + (n + 1 + 1) * 32 := new8_rect hnx.wf hnew (shR r n) 1 fun X Y _ _ => by
    unfold Fp
    rw [em_al8 hx]; rfl
  rcases hres with ⟨y, rfl, hc⟩ | ⟨_, hfull⟩
  · refine ⟨g', n, y, N', rfl, nx_cnt hnx (by omega), hc.1, l1, l2, fun a b => ?_⟩
    rw [al_fill l1 l3 hc, em_al8 hx]
    cases r.has a b <;> rfl
  · omega
theorem fill_law0 {w : World} {sb g tb cap most : Nat} {N : List Nd} (h : St w sb g tb cap most N) {n0 x : Nat} (hx : Sq N (n0 + 1) x) (h2 : 2 ≤ n0) (r : R4) (hr : rightR r.x r.y r.X r.Y = true) (hal : ∀ a b, alK N n0 (kidZ N x) a b = r.has a b) (hroom : N.length + 2020 ≤ most) :
    Calls Try.prog 7 #[.agg #[.pointer (some ⟨sb, 0, none⟩), .int .u32 (x : Int)], .agg #[.int .i64 r.x, .int .i64 r.y, .int .i64 r.X, .int .i64 r.Y], .bool false] w fun e w' => ∃ (g' n y : Nat) (N' : List Nd), e = .returned (.tuple #[.agg #[.pointer (some ⟨sb, 0, none⟩), .int .u32 (y : Int)], .nilIface]) ∧ Nx sb tb most w g N 63 w' g' N' ∧ Sq N' (n + 1) y ∧ ctZ N' y = 0 := by
  refine (fill8_any h hx h2 r hr false).mono ?_
  rintro e w' ⟨g', N', n, ⟨l1, l2, l3, _⟩, hnx, hnew, hres⟩
  have hlen : N'.length ≤ N.length + (n + 1 + 1) := new8_flat hnx.wf hnew 0 fun X Y _ _ => by
    unfold Fp
    have := shR_has r n (X - 2 ^ n) (Y - 2 ^ n)
    rw [Int.sub_add_cancel, Int.sub_add_cancel] at this
    rw [this, hal]
    cases r.has (X - 2 ^ n) (Y - 2 ^ n) <;> rfl
  rcases hres with ⟨y, rfl, hc⟩ | ⟨_, hfull⟩
  · refine ⟨g', n, y, N', rfl, nx_cnt hnx (by omega), hc.1, (ct_al hnx.wf hc.1).2 fun a b => ?_⟩
    rw [al_fill l1 l3 hc, hal]
    cases r.has a b <;> rfl
  · omega
/-- A plane of a law, in a block of its own. -/
structure Lp (w : World) (sb g tb most : Nat) (N : List Nd) (W : World) : Prop where
  st : ∃ cap, St W sb g tb cap most N
  bel : Below w.heap.size w W
  ge : w.heap.size ≤ sb ∧ w.heap.size ≤ g ∧ w.heap.size ≤ tb
theorem Lp.later {w W W' : World} {sb g tb most : Nat} {N : List Nd} (h : Lp w sb g tb most N W) (hb : Below W.heap.size W W') : Lp w sb g tb most N W' := by
  obtain ⟨cap, hs⟩ := h.st
  exact ⟨⟨cap, hs.later hb⟩, h.bel.trans (hb.mono h.bel.size), h.ge⟩
theorem Lp.nx {w W W' : World} {sb g g' tb most c : Nat} {N N' : List Nd} (h : Lp w sb g tb most N W) (hn : Nx sb tb most W g N c W' g' N') : Lp w sb g' tb most N' W' := by
  obtain ⟨hb, hg⟩ := nx_bel8 hn h.ge.1 h.ge.2.1 h.ge.2.2 h.bel.size
  exact ⟨hn.st, h.bel.trans hb, h.ge.1, hg, h.ge.2.2⟩
theorem Lp.drew {w W : World} {sb g tb most : Nat} {N : List Nd} (h : Lp w sb g tb most N W) : Lp w sb g tb most N W.drew := by
  obtain ⟨cap, hs⟩ := h.st
  exact ⟨⟨cap, hs.drew⟩, below_drewN h.bel 1, h.ge⟩
theorem ob_new8 {w W : World} {sb g tb most : Nat} {N : List Nd} (h : Lp w sb g tb most N W) (cs : Array Value) (t : TypeId) : Ob (W.alloc (.cells cs t)) sb g tb W.heap.size (.cells cs t (0, 0)) := by
  obtain ⟨cap, hs⟩ := h.st
  exact Ob.new hs cs t
theorem ob_drew8 {w : World} {sb g tb b : Nat} {o : Obj} (h : Ob w sb g tb b o) : Ob w.drew sb g tb b o := ⟨h.at_, h.sb_, h.g_, h.tb_⟩
theorem ze_cells8 {w : World} {b : Nat} (h : w.heap[b]? = some zeO8) : w.cell? ⟨b, 0, none⟩ = some (.pointer none) ∧ w.cell? ⟨b, 1, none⟩ = some (.int .u32 0) ∧ w.frozen? ⟨b, 0, none⟩ = false ∧ w.frozen? ⟨b, 1, none⟩ = false := res_cells h
theorem Lp.set {w W : World} {sb g tb most b i : Nat} {N : List Nd} (h : Lp w sb g tb most N W) (h1 : b ≠ sb ∧ b ≠ g ∧ b ≠ tb) (hb : w.heap.size ≤ b) (v : Value) : Lp w sb g tb most N (W.setCell ⟨b, i, none⟩ v) := by
  obtain ⟨cap, hs⟩ := h.st
  exact ⟨⟨cap, st_set8 hs h1.1 h1.2.1 h1.2.2 v⟩, h.bel.setCell (p := ⟨b, i, none⟩) hb v, h.ge⟩
/-- A plane's block behind a law's call. -/
def PlAt (w : World) (sb g tb most : Nat) (N : List Nd) (y : Nat) (v : Value) (wx : World) : Prop := ∃ nb, v = .pointer (some ⟨nb, 0, none⟩) ∧ w.heap.size ≤ nb ∧ Lp w sb g tb most N wx ∧ Ob wx sb g tb nb (plO sb y)
theorem plAt_put {w W : World} {sb g tb most nb : Nat} {N : List Nd} (h : Lp w sb g tb most N W) (hz : Ob W sb g tb nb zeO8) (hn : w.heap.size ≤ nb) (y : Nat) : PlAt w sb g tb most N y (.pointer (some ⟨nb, 0, none⟩)) ((W.setCell ⟨nb, 0, none⟩ (.pointer (some ⟨sb, 0, none⟩))).setCell ⟨nb, 1, none⟩ (.int .u32 (y : Int))) :=
  ⟨nb, rfl, hn, (h.set ⟨hz.sb_, hz.g_, hz.tb_⟩ hn _).set ⟨hz.sb_, hz.g_, hz.tb_⟩ hn _, pl_set1 (pl_set0 hz.at_ _) _, hz.sb_, hz.g_, hz.tb_⟩
theorem plAt_new {w W : World} {sb g tb most : Nat} {N : List Nd} (h : Lp w sb g tb most N W) (y : Nat) : PlAt w sb g tb most N y (.pointer (some ⟨W.heap.size, 0, none⟩)) (W.alloc (.cells #[.pointer (some ⟨sb, 0, none⟩), .int .u32 (y : Int)] 31)) :=
  ⟨W.heap.size, rfl, h.bel.size, h.later (bel1 _ _), ob_new8 h _ _⟩
theorem six_rect : ∀ a b : Int, (a, b) ∈ ([(0, 0), (1, 0), (2, 0), (0, 1), (1, 1), (2, 1)] : List (Int × Int)) ↔ (R4.mk 0 0 3 2).has a b = true := fun a b => by
  rw [R4.has_iff]
  simp only [List.mem_cons, Prod.mk.injEq, List.not_mem_nil, or_false]
  omega
end Go.Proofs.Ytfohkbgacpokoaa
