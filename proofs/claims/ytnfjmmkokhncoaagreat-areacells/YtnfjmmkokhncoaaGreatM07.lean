-- M07
import Derived.Test.YtnfjmmkokhncoaaGreatM02
import Derived.Test.YtnfjmmkokhncoaaGreatM03
import Derived.Test.YtnfjmmkokhncoaaGreatM06
import Derived.Deep.QuietTactic
section
namespace Go.Proofs.YtnfjmmkokhncoaaGreat
open Go.RowKit Go.Maps
set_option maxRecDepth 100000

theorem pow_61 {n : Nat} (h : n < 62) : (2 : Int) ^ n ≤ 2305843009213693952 := by
  have h1 : (2 : Nat) ^ n ≤ 2 ^ 61 := Nat.pow_le_pow_right (by decide) (by omega)
  have h2 : ((2 ^ n : Nat) : Int) ≤ ((2 ^ 61 : Nat) : Int) := Int.ofNat_le.2 h1
  rw [Int.natCast_pow] at h2
  exact h2
theorem below_drewN {B : Nat} {w W : World} (h : Below B w W) (q : Nat) : Below B w (W.drewN q) := ⟨h.os, h.tape, h.output, h.size, h.block⟩
theorem bel2 (w : World) (o1 o2 : Obj) : Below w.heap.size w ((w.alloc o1).alloc o2) := (bel1 w o1).trans ((bel1 _ o2).mono (by simp))
theorem bel3 (w : World) (o1 o2 o3 : Obj) : Below w.heap.size w (((w.alloc o1).alloc o2).alloc o3) := (bel2 w o1 o2).trans ((bel1 _ o3).mono (by simp; omega))
theorem and_one7 (z : Int) : bits .and .i64 z 1 = z % 2 := by
  have h1 : (BitVec.ofInt 64 1).toNat = 2 ^ 1 - 1 := by decide
  have key : (BitVec.ofInt 64 z &&& BitVec.ofInt 64 1).toNat = (z % ((2 ^ 64 : Nat) : Int)).toNat % 2 ^ 1 := by
    rw [BitVec.toNat_and, BitVec.toNat_ofInt, h1, Nat.and_two_pow_sub_one_eq_mod]
  show IntKind.i64.wrap ((BitVec.ofInt 64 z &&& BitVec.ofInt 64 1).toNat : Nat) = z % 2
  rw [key, IntKind.wrap_i64]
  omega
theorem across_any (i : Nat) (hi : i < 4) (w : World) : Calls Tryz.prog 78 #[.int .i64 (i : Int)] w fun e w' => e = .returned (.int .i64 (3 - (i : Int))) ∧ w = w' := by
  have h1 : IntKind.i64.wrap (3 - (i : Int)) = 3 - (i : Int) := IntWalk.i64_in _ (by omega)
  go_enter Tryz.func78, Tryz.ntmps78
  go_wp2
  go_ret
  exact ⟨rfl, rfl⟩
/-- Which of four. -/
def qn (r b : Bool) : Nat := (if r then 1 else 0) + 2 * (if b then 1 else 0)
theorem bit_qb (X : Int) (n : Nat) : X / 2 ^ n % 2 = ((if qb n X then 1 else 0 : Nat) : Int) := by
  unfold qb
  rcases Int.emod_two_eq (X / 2 ^ n) with h | h
  · rw [h]; simp
  · rw [h]; simp
theorem fieldFrom (a b c d : Value) (w : World) : (Instr.field 42 (.agg #[a, b, c, d]) 0).run Tryz.prog w = .ok (.agg #[a, b]) w := by kernel_rfl
theorem right_any {w : World} {sb g tb cap most : Nat} {N : List Nd} (h : St w sb g tb cap most N) (x : Nat) (hx : x < 4294967296) : Calls Tryz.prog 54 #[.agg #[.pointer (some ⟨sb, 0, none⟩), .int .u32 (x : Int)]] w fun e w' => e = .returned (.bool (decide (3 ≤ lvZ N x))) ∧ Below w.heap.size w w' := by
  have HB := Lib.hid (bel1 w (.cells #[.pointer (some ⟨sb, 0, none⟩), .int .u32 (x : Int)] 32))
  have HS := Lib.hid (h.later HB.out)
  clear h
  go_enter Tryz.func54, Tryz.ntmps54
  go_wp2_with fail
  refine (level_any HS.out x hx).mono ?_
  rintro e W1 ⟨rfl, rfl⟩
  go_wp2
  go_ret
  exact ⟨rfl, HB.out⟩
end Go.Proofs.YtnfjmmkokhncoaaGreat
end

section
namespace Go.Proofs.YtnfjmmkokhncoaaGreat
open Go.RowKit

/-- The worlds that keep what a world has. -/
def Up (w : World) : Type := { W : World // Below w.heap.size w W }
theorem Up.cell {w : World} {p : Addr} {v : Value} (h : w.cell? p = some v) (z : Up w) : z.1.cell? p = some v := by rw [z.2.cell (blk_lt h)]; exact h
theorem Up.calls {w : World} {f : FuncId} {args : Array Value} {v : Value} (h : ∀ W, Below w.heap.size w W → Calls Tryz.prog f args W fun e w' => e = .returned v ∧ Below W.heap.size W w') (z : Up w) :
    Calls Tryz.prog f args z.1 fun e' w' => e' = .returned v ∧ ∃ z' : Up w, w' = z'.1 :=
  (h z.1 z.2).mono fun _ w' ⟨h1, h2⟩ => ⟨h1, ⟨w', z.2.trans (h2.mono z.2.size)⟩, rfl⟩
theorem Up.callsE {w : World} {f : FuncId} {args : Array Value} {v : Value} (h : ∀ W, Below w.heap.size w W → Calls Tryz.prog f args W fun e w' => e = .returned v ∧ W = w') (z : Up w) :
    Calls Tryz.prog f args z.1 fun e' w' => e' = .returned v ∧ ∃ z' : Up w, w' = z'.1 :=
  (h z.1 z.2).mono fun _ w' ⟨h1, h2⟩ => ⟨h1, ⟨w', h2 ▸ z.2⟩, rfl⟩
theorem Up.me (w : World) : Nonempty (Up w) := ⟨⟨w, Below.refl _ _⟩⟩
theorem region_up {P : Program} {id : Nat} {Q : Exit → Act → World → Prop} {a : Act} {w : World} {l : List Oper} (hm : P.follows .mixedOrders = true) (hB : Region.lexB .any l.toArray = true)
    (h : wpQuiet P l.toArray (fun w' => ∃ z : Up w, w' = z.1) (fun a' => ∀ w', (∃ z : Up w, w' = z.1) → Q .normal a' w') l a) : (Code.region id l.toArray true).wp P Q a w :=
  wp_region_quiet (C := fun w' => ∃ z : Up w, w' = z.1) hm hB ⟨⟨_, below_drewN (Below.refl _ w) 1⟩, rfl⟩ (by simpa using h)
end Go.Proofs.YtnfjmmkokhncoaaGreat
end

section
namespace Go.Proofs.YtnfjmmkokhncoaaGreat
open Go.RowKit Go.Maps
set_option maxRecDepth 100000

/-- What a block of one's own holds, beside a store's. -/
structure Ob (w : World) (sb g tb b : Nat) (o : Obj) : Prop where
  at_ : w.heap[b]? = some o
  sb_ : b ≠ sb
  g_ : b ≠ g
  tb_ : b ≠ tb
theorem Ob.lt {w : World} {sb g tb b : Nat} {o : Obj} (h : Ob w sb g tb b o) : b < w.heap.size := (Array.getElem?_eq_some_iff.1 h.at_).1
theorem Ob.later {w w' : World} {sb g tb b : Nat} {o : Obj} (h : Ob w sb g tb b o) (hb : Below w.heap.size w w') : Ob w' sb g tb b o := ⟨by rw [hb.block b h.lt]; exact h.at_, h.sb_, h.g_, h.tb_⟩
theorem Ob.new {w : World} {sb g tb cap most : Nat} {N : List Nd} (h : St w sb g tb cap most N) (cs : Array Value) (t : TypeId) : Ob (w.alloc (.cells cs t)) sb g tb w.heap.size (.cells cs t (0, 0)) := by
  obtain ⟨l1, l2, l3⟩ := h.lt
  exact ⟨heap_alloc_new w _, by omega, by omega, by omega⟩
def plO (sb x : Nat) : Obj := .cells #[.pointer (some ⟨sb, 0, none⟩), .int .u32 (x : Int)] 32 (0, 0)
def plV (sb x : Nat) : Value := .agg #[.pointer (some ⟨sb, 0, none⟩), .int .u32 (x : Int)]
def ptO (a b : Int) : Obj := .cells #[.int .i64 a, .int .i64 b] 24 (0, 0)
theorem pl_cells {w : World} {b sb x : Nat} (h : w.heap[b]? = some (plO sb x)) : w.cell? ⟨b, 0, none⟩ = some (.pointer (some ⟨sb, 0, none⟩)) ∧ w.cell? ⟨b, 1, none⟩ = some (.int .u32 (x : Int)) :=
  ⟨by rw [Lib.cell_of_heap h]; rfl, by rw [Lib.cell_of_heap h]; rfl⟩
theorem pt_cells {w : World} {b : Nat} {x y : Int} (h : w.heap[b]? = some (ptO x y)) : w.cell? ⟨b, 0, none⟩ = some (.int .i64 x) ∧ w.cell? ⟨b, 1, none⟩ = some (.int .i64 y) :=
  ⟨by rw [Lib.cell_of_heap h]; rfl, by rw [Lib.cell_of_heap h]; rfl⟩
theorem Sq.u32 {w : World} {sb g tb cap most : Nat} {N : List Nd} (h : St w sb g tb cap most N) {n x : Nat} (hx : Sq N n x) : x < 4294967296 := by
  have := hx.lt; have := h.room; have := h.most_le; omega
theorem Sq.le62 {N : List Nd} (hw : Wf N) {n x : Nat} (h : Sq N (n + 1) x) : n < 62 := by
  obtain ⟨nd, e, _, hl, _⟩ := h.node hw
  have := hw.lv_le e
  omega
theorem has_span (n : Nat) (a b : Int) (w : World) : Calls Tryz.prog 10 #[.agg #[.int .i64 (-2 ^ n), .int .i64 (-2 ^ n), .int .i64 (2 ^ n), .int .i64 (2 ^ n)], .agg #[.int .i64 a, .int .i64 b]] w fun e w' => e = .returned (.bool (inS n a && inS n b)) ∧ Below w.heap.size w w' := by
  have := has_any (-2 ^ n) (-2 ^ n) (2 ^ n) (2 ^ n) a b w
  rw [Bool.and_assoc] at this
  exact this
theorem right_sq {w : World} {sb g tb cap most : Nat} {N : List Nd} (h : St w sb g tb cap most N) {n x : Nat} (hx : Sq N (n + 1) x) (hn : 2 ≤ n) : Calls Tryz.prog 54 #[.agg #[.pointer (some ⟨sb, 0, none⟩), .int .u32 (x : Int)]] w fun e w' => e = .returned (.bool true) ∧ Below w.heap.size w w' := by
  have := right_any h x (Sq.u32 h hx)
  rw [decide_eq_true (show 3 ≤ lvZ N x by rw [show lvZ N x = ((n + 1 : Nat) : Int) from hx]; omega)] at this
  exact this
theorem of_sq {w : World} {sb g tb cap most : Nat} {N : List Nd} (h : St w sb g tb cap most N) {n x : Nat} (hx : Sq N (n + 1) x) :
    Calls Tryz.prog 55 #[.pointer (some ⟨sb, 0, none⟩), .int .u32 (x : Int)] w fun e w' => e = .returned (.tuple #[kv (kidZ N x), .bool true]) ∧ Below w.heap.size w w' := by
  obtain ⟨nd, e, _, hl, hk⟩ := hx.node h.wf
  rw [← hk]
  exact of_good h x (Sq.u32 h hx) e (by omega)
theorem qn_lt (r b : Bool) : qn r b < 4 := by cases r <;> cases b <;> decide
theorem kcell {w : World} {b : Nat} {k : K4} (h : KAt w b k) (r c : Bool) : w.cell? ⟨b, qn r c, none⟩ = some (.int .u32 (pick k r c : Int)) := by
  obtain ⟨c0, c1, c2, c3, _⟩ := h.cells
  cases r <;> cases c
  · exact c0
  · exact c2
  · exact c1
  · exact c3
theorem far_before {W w3 : World} {p : Addr} {v : Value} (h : W.cell? p = some v) (hb : Below W.drew.heap.size W.drew w3) : w3.cell? p = some v ∧ (∀ cs t, (w3.alloc (.cells cs t)).cell? p = some v) ∧ True ∧ True ∧ True ∧ True := by
  have hl := blk_lt h
  have h3 : w3.cell? p = some v := by rw [hb.cell (p := p) hl]; exact h
  refine ⟨h3, fun cs t => ?_, trivial, trivial, trivial, trivial⟩
  rw [(bel1 w3 (.cells cs t)).cell (p := p) (blk_lt h3)]; exact h3
theorem far_behind {W w3 : World} {p : Addr} {v : Value} (h : W.cell? p = some v) (hb : Below (W.alloc (.cells #[.int .i64 0, .int .i64 0] 24)).drew.heap.size (W.alloc (.cells #[.int .i64 0, .int .i64 0] 24)).drew w3) :
    w3.cell? p = some v ∧ (∀ x y, ((w3.setCell ⟨W.heap.size, 0, none⟩ x).setCell ⟨W.heap.size, 1, none⟩ y).cell? p = some v) ∧ w3.cell? ⟨W.heap.size, 0, none⟩ = some (.int .i64 0) ∧ w3.cell? ⟨W.heap.size, 1, none⟩ = some (.int .i64 0) ∧ w3.frozen? ⟨W.heap.size, 0, none⟩ = false ∧ w3.frozen? ⟨W.heap.size, 1, none⟩ = false := by
  have hl := blk_lt h
  have hA := (bel1 W (.cells #[.int .i64 0, .int .i64 0] 24))
  have hs : (W.alloc (.cells #[.int .i64 0, .int .i64 0] 24)).heap.size = W.heap.size + 1 := by simp
  have h3 : w3.cell? p = some v := by rw [hb.cell (p := p) (by show _ < (W.alloc _).heap.size; omega)]; show (W.alloc _).cell? p = _; rw [hA.cell (p := p) hl]; exact h
  obtain ⟨a1, a2, a3, a4⟩ := ((pt_new W 0 0 24).later (w' := w3) ⟨hb.os, hb.tape, hb.output, hb.size, hb.block⟩).two
  refine ⟨h3, fun x y => ?_, a1, a2, a3, a4⟩
  rw [World.cell?_setCell_other _ _ _ _ (by intro e; have e' := congrArg Addr.block e; simp at e'; omega), World.cell?_setCell_other _ _ _ _ (by intro e; have e' := congrArg Addr.block e; simp at e'; omega)]
  exact h3
theorem far_end1 {W w3 : World} {x y : Int} (hb : Below W.drew.heap.size W.drew w3) : Below W.heap.size W (w3.alloc (.cells #[.int .i64 x, .int .i64 y] 24)) ∧ (w3.alloc (.cells #[.int .i64 x, .int .i64 y] 24)).heap[w3.heap.size]? = some (ptO x y) := by
  have hb' : Below W.heap.size W w3 := ⟨hb.os, hb.tape, hb.output, hb.size, hb.block⟩
  exact ⟨hb'.trans ((bel1 _ _).mono hb'.size), heap_alloc_new _ _⟩
theorem far_end2 {W w3 : World} {x y : Int} (hb : Below (W.alloc (.cells #[.int .i64 0, .int .i64 0] 24)).drew.heap.size (W.alloc (.cells #[.int .i64 0, .int .i64 0] 24)).drew w3) :
    Below W.heap.size W ((w3.setCell ⟨W.heap.size, 0, none⟩ (.int .i64 x)).setCell ⟨W.heap.size, 1, none⟩ (.int .i64 y)) ∧ ((w3.setCell ⟨W.heap.size, 0, none⟩ (.int .i64 x)).setCell ⟨W.heap.size, 1, none⟩ (.int .i64 y)).heap[W.heap.size]? = some (ptO x y) := by
  have hb' : Below (W.alloc (.cells #[.int .i64 0, .int .i64 0] 24)).heap.size (W.alloc (.cells #[.int .i64 0, .int .i64 0] 24)) w3 := ⟨hb.os, hb.tape, hb.output, hb.size, hb.block⟩
  have h0 := bel1 W (.cells #[.int .i64 0, .int .i64 0] 24)
  have h1 := h0.trans (hb'.mono h0.size)
  have h3 : w3.heap[W.heap.size]? = some (ptO 0 0) := by rw [hb'.block _ (by simp)]; exact heap_alloc_new _ _
  refine ⟨(h1.setCell (p := ⟨W.heap.size, 0, none⟩) (by simp) _).setCell (p := ⟨W.heap.size, 1, none⟩) (by simp) _, ?_⟩
  simp only [World.setCell, Array.getElem?_modify, h3, ptO]
  simp
end Go.Proofs.YtnfjmmkokhncoaaGreat
end

section
namespace Go.Proofs.YtnfjmmkokhncoaaGreat
open Go.RowKit Go.Maps
set_option maxRecDepth 100000

/-- A store has gone on: its squares stay, at most c are new. -/
structure Nx (sb tb most : Nat) (w : World) (g : Nat) (N : List Nd) (c : Nat) (w' : World) (g' : Nat) (N' : List Nd) : Prop where
  st : ∃ cap, St w' sb g' tb cap most N'
  frm : Frm [sb, g, tb] w w'
  gin : g' = g ∨ w.heap.size ≤ g'
  ext : ∃ E, N' = N ++ E ∧ E.length ≤ c
theorem Nx.of_below {w w' : World} {sb g tb cap most : Nat} {N : List Nd} (h : St w sb g tb cap most N) (hb : Below w.heap.size w w') : Nx sb tb most w g N 0 w' g N :=
  ⟨⟨cap, h.later hb⟩, Frm.of_below hb, Or.inl rfl, [], by simp, by simp⟩
theorem Nx.trans {w w' w'' : World} {sb tb most g g' g'' c c' : Nat} {N N' N'' : List Nd} (h : Nx sb tb most w g N c w' g' N') (h' : Nx sb tb most w' g' N' c' w'' g'' N'') : Nx sb tb most w g N (c + c') w'' g'' N'' := by
  refine ⟨h'.st, h.frm.trans h'.frm (fun b hb => ?_), ?_, ?_⟩
  · simp only [List.mem_cons, List.not_mem_nil, or_false] at hb
    rcases hb with e | e | e
    · exact Or.inl (by simp [e])
    · rcases h.gin with e' | e'
      · exact Or.inl (by simp [e, e'])
      · exact Or.inr (by omega)
    · exact Or.inl (by simp [e])
  · rcases h'.gin with e | e
    · rw [e]; exact h.gin
    · exact Or.inr (Nat.le_trans h.frm.size e)
  · obtain ⟨E, e1, e2⟩ := h.ext
    obtain ⟨F, f1, f2⟩ := h'.ext
    exact ⟨E ++ F, by rw [f1, e1, List.append_assoc], by rw [List.length_append]; omega⟩
theorem Nx.mono {w w' : World} {sb tb most g g' c c' : Nat} {N N' : List Nd} (h : Nx sb tb most w g N c w' g' N') (hc : c ≤ c') : Nx sb tb most w g N c' w' g' N' := by
  obtain ⟨E, e1, e2⟩ := h.ext
  exact ⟨h.st, h.frm, h.gin, E, e1, Nat.le_trans e2 hc⟩
theorem Ob.nx {w w' : World} {sb tb most g g' c b : Nat} {N N' : List Nd} {o : Obj} (h : Ob w sb g tb b o) (hn : Nx sb tb most w g N c w' g' N') : Ob w' sb g' tb b o := by
  refine ⟨by rw [hn.frm.block b h.lt (by simp [h.sb_, h.g_, h.tb_])]; exact h.at_, h.sb_, ?_, h.tb_⟩
  rcases hn.gin with e | e
  · rw [e]; exact h.g_
  · have := h.lt; omega
theorem Nx.wf {w w' : World} {sb tb most g g' c : Nat} {N N' : List Nd} (h : Nx sb tb most w g N c w' g' N') : Wf N' := by obtain ⟨_, hs⟩ := h.st; exact hs.wf
theorem St.keep {w w' : World} {sb g tb cap most : Nat} {N : List Nd} (h : St w sb g tb cap most N) (h1 : w'.heap[sb]? = w.heap[sb]?) (h2 : w'.heap[g]? = w.heap[g]?) (h3 : w'.heap[tb]? = w.heap[tb]?) : St w' sb g tb cap most N := by
  refine ⟨by rw [h1]; exact h.blk, ⟨h.row.1, ?_⟩, h.tab.blk h3, h.wf, h.room, h.most_le, h.ne⟩
  rcases h.row.2 with ⟨hv, _⟩ | ⟨g', cp, cur, hv, h0, hg, hr⟩
  · cases hv
  · cases hv; exact Or.inr ⟨g, cap, cur, rfl, h0, by rw [h2]; exact hg, hr⟩
/-- A store into a block that was not there. -/
theorem Nx.set {w w' : World} {sb tb most g g' c b i : Nat} {N N' : List Nd} {o : Obj} (h : Nx sb tb most w g N c w' g' N') (hb : Ob w' sb g' tb b o) (hw : w.heap.size ≤ b) (v : Value) : Nx sb tb most w g N c (w'.setCell ⟨b, i, none⟩ v) g' N' := by
  obtain ⟨cap, hs⟩ := h.st
  refine ⟨⟨cap, hs.keep (Below.heap_setCell _ _ _ _ (Ne.symm hb.sb_)) (Below.heap_setCell _ _ _ _ (Ne.symm hb.g_)) (Below.heap_setCell _ _ _ _ (Ne.symm hb.tb_))⟩, ⟨h.frm.os, h.frm.tape, h.frm.output, by simpa using h.frm.size, fun b' hb' hn => ?_⟩, h.gin, h.ext⟩
  rw [Below.heap_setCell _ _ _ _ (by show b' ≠ b; omega)]
  exact h.frm.block b' hb' hn
/-- Make of four squares of a level. -/
theorem make_sq {w : World} {sb g tb cap most : Nat} {N : List Nd} (h : St w sb g tb cap most N) {n : Nat} (hn : n < 62) {k : K4} (hk : Fo N n k) :
    Calls Tryz.prog 74 #[.pointer (some ⟨sb, 0, none⟩), .agg #[.int .u32 (k.1 : Int), .int .u32 (k.2.1 : Int), .int .u32 (k.2.2.1 : Int), .int .u32 (k.2.2.2 : Int)]] w fun e w' => ∃ g' N', Nx sb tb most w g N 1 w' g' N' ∧
      ((∃ r : Nat, e = .returned (.tuple #[.int .u32 (r : Int), .nilIface]) ∧ Sq N' (n + 1) r ∧ kidZ N' r = k ∧ ((∃ x, Sq N (n + 1) x ∧ kidZ N x = k) → N' = N)) ∨ (e = .returned (.tuple #[.int .u32 0, .iface 52 (.int .i64 7)]) ∧ most ≤ N'.length)) := by
  have hin : InK k := by
    have h' := fo_iff.1 hk
    exact ⟨Sq.u32 h (h' 0 (by omega)), Sq.u32 h (h' 1 (by omega)), Sq.u32 h (h' 2 (by omega)), Sq.u32 h (h' 3 (by omega))⟩
  refine (make_any h k hin).mono ?_
  rintro e w' ⟨g', cap', rfl, hS, hF, hg⟩
  rcases mk_case (most := most) h.wf hn hk with ⟨hm, hfull⟩ | ⟨E, hm, hE, hsq, hkid, hth⟩
  · rw [hm] at hS ⊢
    exact ⟨g', N, ⟨⟨cap', hS⟩, hF, hg, [], by simp, by simp⟩, Or.inr ⟨rfl, hfull⟩⟩
  · rw [hm] at hS
    refine ⟨g', N ++ E, ⟨⟨cap', hS⟩, hF, hg, E, rfl, hE⟩, Or.inl ⟨(mkZ N most k).2.1, ?_, hsq, hkid, fun hx => by rw [hth hx, List.append_nil]⟩⟩
    rw [show (mkZ N most k).2.2 = 0 by rw [hm]]
    rfl
def kV (k : K4) : Value := .agg #[.int .u32 (k.1 : Int), .int .u32 (k.2.1 : Int), .int .u32 (k.2.2.1 : Int), .int .u32 (k.2.2.2 : Int)]
def kO (k : K4) : Obj := .cells #[.int .u32 (k.1 : Int), .int .u32 (k.2.1 : Int), .int .u32 (k.2.2.1 : Int), .int .u32 (k.2.2.2 : Int)] 96 (0, 0)
theorem k_cells {w : World} {b : Nat} {k : K4} (h : w.heap[b]? = some (kO k)) : w.cell? ⟨b, 0, none⟩ = some (.int .u32 (k.1 : Int)) ∧ w.cell? ⟨b, 1, none⟩ = some (.int .u32 (k.2.1 : Int)) ∧ w.cell? ⟨b, 2, none⟩ = some (.int .u32 (k.2.2.1 : Int)) ∧ w.cell? ⟨b, 3, none⟩ = some (.int .u32 (k.2.2.2 : Int)) :=
  ⟨by rw [Lib.cell_of_heap h]; rfl, by rw [Lib.cell_of_heap h]; rfl, by rw [Lib.cell_of_heap h]; rfl, by rw [Lib.cell_of_heap h]; rfl⟩
theorem k_cell {w : World} {b : Nat} {k : K4} (h : w.heap[b]? = some (kO k)) {i : Nat} (hi : i < 4) : w.cell? ⟨b, i, none⟩ = some (.int .u32 (kAt k i : Int)) ∧ w.frozen? ⟨b, i, none⟩ = false := by
  obtain ⟨c0, c1, c2, c3⟩ := k_cells h
  refine ⟨?_, Lib.frozen_of_heap h i⟩
  have : i = 0 ∨ i = 1 ∨ i = 2 ∨ i = 3 := by omega
  rcases this with rfl | rfl | rfl | rfl
  · exact c0
  · exact c1
  · exact c2
  · exact c3
theorem k_set {w : World} {b : Nat} {k : K4} (h : w.heap[b]? = some (kO k)) {i : Nat} (hi : i < 4) (v : Nat) : (w.setCell ⟨b, i, none⟩ (.int .u32 (v : Int))).heap[b]? = some (kO (mk4 fun j => if j = i then v else kAt k j)) := by
  have : i = 0 ∨ i = 1 ∨ i = 2 ∨ i = 3 := by omega
  rcases this with rfl | rfl | rfl | rfl <;> simp only [World.setCell, Array.getElem?_modify, h, kO, mk4, kAt] <;> simp
theorem kix (k : K4) {i : Nat} (hi : i < 4) (w : World) : (Instr.index 96 (.agg #[.int .u32 (k.1 : Int), .int .u32 (k.2.1 : Int), .int .u32 (k.2.2.1 : Int), .int .u32 (k.2.2.2 : Int)]) (.int .i64 (i : Int))).run Tryz.prog w = .ok (.int .u32 (kAt k i : Int)) w := by
  have : i = 0 ∨ i = 1 ∨ i = 2 ∨ i = 3 := by omega
  rcases this with rfl | rfl | rfl | rfl
  · exact kix0 _ _ _ _ w
  · exact kix1 _ _ _ _ w
  · exact kix2 _ _ _ _ w
  · exact kix3 _ _ _ _ w
/-- A store into a block of one's own, beside a store. -/
theorem Ob.set {w : World} {sb g tb b : Nat} {k : K4} (h : Ob w sb g tb b (kO k)) {i : Nat} (hi : i < 4) (v : Nat) : Ob (w.setCell ⟨b, i, none⟩ (.int .u32 (v : Int))) sb g tb b (kO (mk4 fun j => if j = i then v else kAt k j)) :=
  ⟨k_set h.at_ hi v, h.sb_, h.g_, h.tb_⟩
theorem Ob.other {w : World} {sb g tb b : Nat} {o : Obj} (h : Ob w sb g tb b o) {p : Addr} (hp : p.block ≠ b) (v : Value) : Ob (w.setCell p v) sb g tb b o :=
  ⟨by rw [Below.heap_setCell _ _ _ _ (Ne.symm hp)]; exact h.at_, h.sb_, h.g_, h.tb_⟩
/-- A block for a result that is a plane. -/
theorem res_cells {w : World} {b : Nat} {p v : Value} (h : w.heap[b]? = some (.cells #[p, v] 32 (0, 0))) : w.cell? ⟨b, 0, none⟩ = some p ∧ w.cell? ⟨b, 1, none⟩ = some v ∧ w.frozen? ⟨b, 0, none⟩ = false ∧ w.frozen? ⟨b, 1, none⟩ = false :=
  ⟨by rw [Lib.cell_of_heap h]; rfl, by rw [Lib.cell_of_heap h]; rfl, Lib.frozen_of_heap h 0, Lib.frozen_of_heap h 1⟩
theorem pl_set0 {w : World} {b : Nat} {p v : Value} (h : w.heap[b]? = some (.cells #[p, v] 32 (0, 0))) (p' : Value) : (w.setCell ⟨b, 0, none⟩ p').heap[b]? = some (.cells #[p', v] 32 (0, 0)) := by
  simp only [World.setCell, Array.getElem?_modify, h]; simp
theorem pl_set1 {w : World} {b : Nat} {p v : Value} (h : w.heap[b]? = some (.cells #[p, v] 32 (0, 0))) (v' : Value) : (w.setCell ⟨b, 1, none⟩ v').heap[b]? = some (.cells #[p, v'] 32 (0, 0)) := by
  simp only [World.setCell, Array.getElem?_modify, h]; simp
theorem hasEm_zero {N : List Nd} (hw : Wf N) : HasEm N 0 := fun j hj => by
  obtain rfl : j = 0 := by omega
  exact ⟨0, sq_dead hw, fun _ _ => rfl⟩
/-- A result that is a plane, written. -/
theorem put_pl {w w' : World} {sb tb most g g' c b : Nat} {N N' : List Nd} {p v : Value} (h : Nx sb tb most w g N c w' g' N') (hb : Ob w' sb g' tb b (.cells #[p, v] 32 (0, 0))) (hw : w.heap.size ≤ b) (p' v' : Value) :
    ∃ W, (w'.setCell ⟨b, 0, none⟩ p').setCell ⟨b, 1, none⟩ v' = W ∧ Nx sb tb most w g N c W g' N' ∧ Ob W sb g' tb b (.cells #[p', v'] 32 (0, 0)) ∧ W.cell? ⟨b, 0, none⟩ = some p' ∧ W.cell? ⟨b, 1, none⟩ = some v' := by
  have h0 : Ob (w'.setCell ⟨b, 0, none⟩ p') sb g' tb b (.cells #[p', v] 32 (0, 0)) := ⟨pl_set0 hb.at_ _, hb.sb_, hb.g_, hb.tb_⟩
  have h1 : Ob ((w'.setCell ⟨b, 0, none⟩ p').setCell ⟨b, 1, none⟩ v') sb g' tb b (.cells #[p', v'] 32 (0, 0)) := ⟨pl_set1 h0.at_ _, hb.sb_, hb.g_, hb.tb_⟩
  exact ⟨_, rfl, (h.set hb hw p').set h0 hw v', h1, (res_cells h1.at_).1, (res_cells h1.at_).2.1⟩
set_option maxHeartbeats 1000000 in
/-- The plane of four. -/
theorem of4_any {w : World} {sb g tb cap most : Nat} {N : List Nd} (h : St w sb g tb cap most N) {n z : Nat} (hn : n < 62) {k : K4} (hk : Fo N n k) :
    Calls Tryz.prog 58 #[.agg #[.pointer (some ⟨sb, 0, none⟩), .int .u32 (z : Int)], .agg #[.int .u32 (k.1 : Int), .int .u32 (k.2.1 : Int), .int .u32 (k.2.2.1 : Int), .int .u32 (k.2.2.2 : Int)]] w fun e w' => ∃ g' N', Nx sb tb most w g N 1 w' g' N' ∧
      ((∃ r : Nat, e = .returned (.tuple #[plV sb r, .nilIface]) ∧ Sq N' (n + 1) r ∧ kidZ N' r = k) ∨ (e = .returned (.tuple #[.agg #[.pointer none, .int .u32 0], .iface 52 (.int .i64 7)]) ∧ most ≤ N'.length)) := by
  have HS := Lib.hid h
  have HB := Lib.hid (bel3 w (.cells #[.pointer (some ⟨sb, 0, none⟩), .int .u32 (z : Int)] 32) (.cells #[.int .u32 (k.1 : Int), .int .u32 (k.2.1 : Int), .int .u32 (k.2.2.1 : Int), .int .u32 (k.2.2.2 : Int)] 96) (.cells #[.pointer none, .int .u32 0] 32))
  have HP := Lib.hid ((Ob.new h #[.pointer (some ⟨sb, 0, none⟩), .int .u32 (z : Int)] 32).later (bel2 _ (.cells #[.int .u32 (k.1 : Int), .int .u32 (k.2.1 : Int), .int .u32 (k.2.2.1 : Int), .int .u32 (k.2.2.2 : Int)] 96) (.cells #[.pointer none, .int .u32 0] 32)))
  have hr0 := Ob.new (h.later (bel2 w (.cells #[.pointer (some ⟨sb, 0, none⟩), .int .u32 (z : Int)] 32) (.cells #[.int .u32 (k.1 : Int), .int .u32 (k.2.1 : Int), .int .u32 (k.2.2.1 : Int), .int .u32 (k.2.2.2 : Int)] 96))) #[.pointer none, .int .u32 0] 32
  have hz : ((w.alloc (.cells #[.pointer (some ⟨sb, 0, none⟩), .int .u32 (z : Int)] 32)).alloc (.cells #[.int .u32 (k.1 : Int), .int .u32 (k.2.1 : Int), .int .u32 (k.2.2.1 : Int), .int .u32 (k.2.2.2 : Int)] 96)).heap.size = w.heap.size + 1 + 1 := by simp
  rw [hz] at hr0
  have HR := Lib.hid hr0
  have HFO := Lib.hid hk
  clear h hk hr0 hz
  go_enter Tryz.func58, Tryz.ntmps58
  go_wp2_with fail
  generalize ((w.alloc (.cells #[.pointer (some ⟨sb, 0, none⟩), .int .u32 (z : Int)] 32)).alloc (.cells #[.int .u32 (k.1 : Int), .int .u32 (k.2.1 : Int), .int .u32 (k.2.2.1 : Int), .int .u32 (k.2.2.2 : Int)] 96)).alloc (.cells #[.pointer none, .int .u32 0] 32) = W1 at *
  have HS1 := Lib.hid (HS.out.later HB.out)
  refine (make_sq HS1.out hn HFO.out).mono ?_
  rintro e W2 ⟨g', N', hnx, hres⟩
  have HN := Lib.hid ((Nx.of_below HS.out HB.out).trans hnx)
  have HP2 := Lib.hid (HP.out.nx hnx)
  have HR2 := Lib.hid (HR.out.nx hnx)
  clear hnx HP HR
  obtain ⟨p0, p1⟩ := pl_cells HP2.out.at_
  obtain ⟨r0, r1, rf0, rf1⟩ := res_cells HR2.out.at_
  rcases hres with ⟨r, rfl, hsq, hkd, _⟩ | ⟨rfl, hfull⟩
  · have HQ := Lib.hid (And.intro hsq hkd)
    clear hsq hkd
    go_wp2_with fail
    obtain ⟨W, hW, hN, _, q0, q1⟩ := put_pl HN.out HR2.out (by omega) (.pointer (some ⟨sb, 0, none⟩)) (.int .u32 (r : Int))
    rw [hW]
    refine bodyPost_ret (v := _) (by simp [results, Tryz.results58, go_sem, q0, q1]; rfl) rfl ?_
    exact ⟨g', N', hN.mono (by omega), Or.inl ⟨r, rfl, HQ.out⟩⟩
  · have HQ := Lib.hid hfull
    clear hfull
    go_wp2_with fail
    obtain ⟨W, hW, hN, _, q0, q1⟩ := put_pl HN.out HR2.out (by omega) (.pointer none) (.int .u32 0)
    rw [hW]
    refine bodyPost_ret (v := _) (by simp [results, Tryz.results58, go_sem, q0, q1]; rfl) rfl ?_
    exact ⟨g', N', hN.mono (by omega), Or.inr ⟨rfl, HQ.out⟩⟩
/-- Empty of a level. -/
theorem empty_sq {w : World} {sb g tb cap most : Nat} {N : List Nd} (h : St w sb g tb cap most N) {n L : Nat} (hn : n ≤ 62) (hL : HasEm N L) :
    Calls Tryz.prog 45 #[.pointer (some ⟨sb, 0, none⟩), .int .i64 (n : Int)] w fun e w' => ∃ g' N', Nx sb tb most w g N (n - L) w' g' N' ∧
      ((∃ r : Nat, e = .returned (.tuple #[.int .u32 (r : Int), .nilIface]) ∧ Em N' n r ∧ HasEm N' (max L n)) ∨ (e = .returned (.tuple #[.int .u32 0, .iface 52 (.int .i64 7)]) ∧ most ≤ N'.length)) := by
  refine (empty_any h n hn).mono ?_
  rintro e w' ⟨g', cap', rfl, hS, hF, hg⟩
  have hE0 : Em N 0 0 := ⟨sq_dead h.wf, fun _ _ => rfl⟩
  rcases em_case (most := most) n h.wf h.room hE0 (by omega) hL (hasEm_zero h.wf) with ⟨E, h1, h2, h3, _⟩ | ⟨E, h1, h2, h3, h4, _⟩
  · rw [h1] at hS ⊢
    exact ⟨g', N ++ E, ⟨⟨cap', hS⟩, hF, hg, E, rfl, by omega⟩, Or.inr ⟨rfl, h3⟩⟩
  · rw [h1] at hS
    refine ⟨g', N ++ E, ⟨⟨cap', hS⟩, hF, hg, E, rfl, by omega⟩, Or.inl ⟨(emZ most n N 0).2.1, ?_, by rw [Nat.zero_add] at h3; exact h3, by rw [Nat.zero_add] at h4; exact h4⟩⟩
    rw [show (emZ most n N 0).2.2 = 0 by rw [h1]]
    rfl
set_option maxHeartbeats 1000000 in
theorem qnew_any {w : World} {sb g tb cap most : Nat} {N : List Nd} (h : St w sb g tb cap most N) :
    Calls Tryz.prog 19 #[.pointer (some ⟨sb, 0, none⟩)] w fun e w' => ∃ g' N', Nx sb tb most w g N 3 w' g' N' ∧
      ((∃ r : Nat, e = .returned (.tuple #[plV sb r, .nilIface]) ∧ Em N' 3 r ∧ HasEm N' 3) ∨ (e = .returned (.tuple #[.agg #[.pointer none, .int .u32 0], .iface 52 (.int .i64 7)]) ∧ most ≤ N'.length)) := by
  have HS := Lib.hid h
  have HB := Lib.hid (bel1 w (.cells #[.pointer none, .int .u32 0] 32))
  have HR := Lib.hid (Ob.new h #[.pointer none, .int .u32 0] 32)
  have HL := Lib.hid (hasEm_zero h.wf)
  clear h
  go_enter Tryz.func19, Tryz.ntmps19
  go_wp2_with fail
  generalize w.alloc (.cells #[.pointer none, .int .u32 0] 32) = W1 at *
  have HS1 := Lib.hid (HS.out.later HB.out)
  refine (empty_sq (n := 3) HS1.out (by omega) HL.out).mono ?_
  rintro e W2 ⟨g', N', hnx, hres⟩
  have HN := Lib.hid ((Nx.of_below HS.out HB.out).trans hnx)
  have HR2 := Lib.hid (HR.out.nx hnx)
  clear hnx HR
  obtain ⟨r0, r1, rf0, rf1⟩ := res_cells HR2.out.at_
  rcases hres with ⟨r, rfl, hem, hl⟩ | ⟨rfl, hfull⟩
  · have HQ := Lib.hid (And.intro hem hl)
    clear hem hl
    go_wp2_with fail
    obtain ⟨W, hW, hN, _, q0, q1⟩ := put_pl HN.out HR2.out (by omega) (.pointer (some ⟨sb, 0, none⟩)) (.int .u32 (r : Int))
    rw [hW]
    refine bodyPost_ret (v := _) (by simp [results, Tryz.results19, go_sem, q0, q1]; rfl) rfl ?_
    exact ⟨g', N', hN.mono (by omega), Or.inl ⟨r, rfl, HQ.out⟩⟩
  · have HQ := Lib.hid hfull
    clear hfull
    go_wp2_with fail
    obtain ⟨W, hW, hN, _, q0, q1⟩ := put_pl HN.out HR2.out (by omega) (.pointer none) (.int .u32 0)
    rw [hW]
    refine bodyPost_ret (v := _) (by simp [results, Tryz.results19, go_sem, q0, q1]; rfl) rfl ?_
    exact ⟨g', N', hN.mono (by omega), Or.inr ⟨rfl, HQ.out⟩⟩
end Go.Proofs.YtnfjmmkokhncoaaGreat
end
