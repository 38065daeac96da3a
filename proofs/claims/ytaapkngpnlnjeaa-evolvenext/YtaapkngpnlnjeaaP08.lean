-- P08
import Derived.Test.YtaapkngpnlnjeaaP07
import Derived.Test.YtaapkngpnlnjeaaP02
section
namespace Go.Proofs.Ytaapkngpnlnjeaa
open Go.RowKit Go.Maps
set_option maxRecDepth 100000

/-- What a block of one's own holds, beside a store's. -/
structure Ob (w : World) (sb g tb b : Nat) (o : Obj) : Prop where
  at_ : w.heap[b]? = some o
  sb_ : b ≠ sb
  g_ : b ≠ g
  tb_ : b ≠ tb
theorem Ob.lt {w : World} {sb g tb b : Nat} {o : Obj} (h : Ob w sb g tb b o) : b < w.heap.size := (Array.getElem?_eq_some_iff.1 h.at_).1
theorem Ob.later {w w' : World} {sb g tb b : Nat} {o : Obj} (h : Ob w sb g tb b o) (hb : Below w.heap.size w w') : Ob w' sb g tb b o := ⟨by rw [hb.block b h.lt]; exact h.at_, h.sb_, h.g_, h.tb_⟩
theorem Ob.new {w : World} {sb g tb cap most : Nat} {N : List Nd} (h : St w sb g tb cap most N) (cs : Array Value) (t : TypeId) : Ob (w.alloc (.cells cs t)) sb g tb w.heap.size (.cells cs t (0, 0)) := by
  obtain ⟨l1, l2, l3⟩ := h.lt
  exact ⟨heap_alloc_new w _, by omega, by omega, by omega⟩
def plV (sb x : Nat) : Value := .agg #[.pointer (some ⟨sb, 0, none⟩), .int .u32 (x : Int)]
theorem Sq.u32 {w : World} {sb g tb cap most : Nat} {N : List Nd} (h : St w sb g tb cap most N) {n x : Nat} (hx : Sq N n x) : x < 4294967296 := by
  have := hx.lt; have := h.room; have := h.most_le; omega
theorem Sq.le62 {N : List Nd} (hw : Wf N) {n x : Nat} (h : Sq N (n + 1) x) : n < 62 := by
  obtain ⟨nd, e, _, hl, _⟩ := h.node hw
  have := hw.lv_le e
  omega
theorem of_sq {w : World} {sb g tb cap most : Nat} {N : List Nd} (h : St w sb g tb cap most N) {n x : Nat} (hx : Sq N (n + 1) x) :
    Calls Try.prog 17 #[.pointer (some ⟨sb, 0, none⟩), .int .u32 (x : Int)] w fun e w' => e = .returned (.tuple #[kv (kidZ N x), .bool true]) ∧ Below w.heap.size w w' := by
  obtain ⟨nd, e, _, hl, hk⟩ := hx.node h.wf
  rw [← hk]
  exact of_good h x (Sq.u32 h hx) e (by omega)
theorem qn_lt (r b : Bool) : qn r b < 4 := by cases r <;> cases b <;> decide
theorem kcell {w : World} {b : Nat} {k : K4} (h : KAt w b k) (r c : Bool) : w.cell? ⟨b, qn r c, none⟩ = some (.int .u32 (pick k r c : Int)) := by
  obtain ⟨c0, c1, c2, c3, _⟩ := h.cells
  cases r <;> cases c
  · exact c0
  · exact c2
  · exact c1
  · exact c3
theorem far_before {W w3 : World} {p : Addr} {v : Value} (h : W.cell? p = some v) (hb : Below W.drew.heap.size W.drew w3) : w3.cell? p = some v ∧ (∀ cs t, (w3.alloc (.cells cs t)).cell? p = some v) ∧ True ∧ True ∧ True ∧ True := by
  have hl := blk_lt h
  have h3 : w3.cell? p = some v := by rw [hb.cell (p := p) hl]; exact h
  refine ⟨h3, fun cs t => ?_, trivial, trivial, trivial, trivial⟩
  rw [(bel1 w3 (.cells cs t)).cell (p := p) (blk_lt h3)]; exact h3
end Go.Proofs.Ytaapkngpnlnjeaa
end

section
namespace Go.Proofs.Ytaapkngpnlnjeaa
open Go.RowKit Go.Maps
set_option maxRecDepth 100000

/-- A store has gone on: its squares stay, at most c are new. -/
structure Nx (sb tb most : Nat) (w : World) (g : Nat) (N : List Nd) (c : Nat) (w' : World) (g' : Nat) (N' : List Nd) : Prop where
  st : ∃ cap, St w' sb g' tb cap most N'
  frm : Frm [sb, g, tb] w w'
  gin : g' = g ∨ w.heap.size ≤ g'
  ext : ∃ E, N' = N ++ E ∧ E.length ≤ c
theorem Nx.of_below {w w' : World} {sb g tb cap most : Nat} {N : List Nd} (h : St w sb g tb cap most N) (hb : Below w.heap.size w w') : Nx sb tb most w g N 0 w' g N :=
  ⟨⟨cap, h.later hb⟩, Frm.of_below hb, Or.inl rfl, [], by simp, by simp⟩
theorem Nx.trans {w w' w'' : World} {sb tb most g g' g'' c c' : Nat} {N N' N'' : List Nd} (h : Nx sb tb most w g N c w' g' N') (h' : Nx sb tb most w' g' N' c' w'' g'' N'') : Nx sb tb most w g N (c + c') w'' g'' N'' := by
  refine ⟨h'.st, h.frm.trans h'.frm (fun b hb => ?_), ?_, ?_⟩
  · simp only [List.mem_cons, List.not_mem_nil, or_false] at hb
    rcases hb with e | e | e
    · exact Or.inl (by simp [e])
    · rcases h.gin with e' | e'
      · exact Or.inl (by simp [e, e'])
      · exact Or.inr (by omega)
    · exact Or.inl (by simp [e])
  · rcases h'.gin with e | e
    · rw [e]; exact h.gin
    · exact Or.inr (Nat.le_trans h.frm.size e)
  · obtain ⟨E, e1, e2⟩ := h.ext
    obtain ⟨F, f1, f2⟩ := h'.ext
    exact ⟨E ++ F, by rw [f1, e1, List.append_assoc], by rw [List.length_append]; omega⟩
theorem Nx.mono {w w' : World} {sb tb most g g' c c' : Nat} {N N' : List Nd} (h : Nx sb tb most w g N c w' g' N') (hc : c ≤ c') : Nx sb tb most w g N c' w' g' N' := by
  obtain ⟨E, e1, e2⟩ := h.ext
  exact ⟨h.st, h.frm, h.gin, E, e1, Nat.le_trans e2 hc⟩
theorem Ob.nx {w w' : World} {sb tb most g g' c b : Nat} {N N' : List Nd} {o : Obj} (h : Ob w sb g tb b o) (hn : Nx sb tb most w g N c w' g' N') : Ob w' sb g' tb b o := by
  refine ⟨by rw [hn.frm.block b h.lt (by simp [h.sb_, h.g_, h.tb_])]; exact h.at_, h.sb_, ?_, h.tb_⟩
  rcases hn.gin with e | e
  · rw [e]; exact h.g_
  · have := h.lt; omega
theorem Nx.wf {w w' : World} {sb tb most g g' c : Nat} {N N' : List Nd} (h : Nx sb tb most w g N c w' g' N') : Wf N' := by obtain ⟨_, hs⟩ := h.st; exact hs.wf
theorem St.keep {w w' : World} {sb g tb cap most : Nat} {N : List Nd} (h : St w sb g tb cap most N) (h1 : w'.heap[sb]? = w.heap[sb]?) (h2 : w'.heap[g]? = w.heap[g]?) (h3 : w'.heap[tb]? = w.heap[tb]?) : St w' sb g tb cap most N := by
  refine ⟨by rw [h1]; exact h.blk, ⟨h.row.1, ?_⟩, h.tab.blk h3, h.wf, h.room, h.most_le, h.ne⟩
  rcases h.row.2 with ⟨hv, _⟩ | ⟨g', cp, cur, hv, h0, hg, hr⟩
  · cases hv
  · cases hv; exact Or.inr ⟨g, cap, cur, rfl, h0, by rw [h2]; exact hg, hr⟩
/-- A store into a block that was not there. -/
theorem Nx.set {w w' : World} {sb tb most g g' c b i : Nat} {N N' : List Nd} {o : Obj} (h : Nx sb tb most w g N c w' g' N') (hb : Ob w' sb g' tb b o) (hw : w.heap.size ≤ b) (v : Value) : Nx sb tb most w g N c (w'.setCell ⟨b, i, none⟩ v) g' N' := by
  obtain ⟨cap, hs⟩ := h.st
  refine ⟨⟨cap, hs.keep (Below.heap_setCell _ _ _ _ (Ne.symm hb.sb_)) (Below.heap_setCell _ _ _ _ (Ne.symm hb.g_)) (Below.heap_setCell _ _ _ _ (Ne.symm hb.tb_))⟩, ⟨h.frm.os, h.frm.tape, h.frm.output, by simpa using h.frm.size, fun b' hb' hn => ?_⟩, h.gin, h.ext⟩
  rw [Below.heap_setCell _ _ _ _ (by show b' ≠ b; omega)]
  exact h.frm.block b' hb' hn
/-- Make of four squares of a level. -/
theorem make_sq {w : World} {sb g tb cap most : Nat} {N : List Nd} (h : St w sb g tb cap most N) {n : Nat} (hn : n < 62) {k : K4} (hk : Fo N n k) :
    Calls Try.prog 33 #[.pointer (some ⟨sb, 0, none⟩), .agg #[.int .u32 (k.1 : Int), .int .u32 (k.2.1 : Int), .int .u32 (k.2.2.1 : Int), .int .u32 (k.2.2.2 : Int)]] w fun e w' => ∃ g' N', Nx sb tb most w g N 1 w' g' N' ∧
      ((∃ r : Nat, e = .returned (.tuple #[.int .u32 (r : Int), .nilIface]) ∧ Sq N' (n + 1) r ∧ kidZ N' r = k ∧ ((∃ x, Sq N (n + 1) x ∧ kidZ N x = k) → N' = N)) ∨ (e = .returned (.tuple #[.int .u32 0, .iface 56 (.int .i64 7)]) ∧ most ≤ N'.length)) := by
  have hin : InK k := by
    have h' := fo_iff.1 hk
    exact ⟨Sq.u32 h (h' 0 (by omega)), Sq.u32 h (h' 1 (by omega)), Sq.u32 h (h' 2 (by omega)), Sq.u32 h (h' 3 (by omega))⟩
  refine (make_any h k hin).mono ?_
  rintro e w' ⟨g', cap', rfl, hS, hF, hg⟩
  rcases mk_case (most := most) h.wf hn hk with ⟨hm, hfull⟩ | ⟨E, hm, hE, hsq, hkid, hth⟩
  · rw [hm] at hS ⊢
    exact ⟨g', N, ⟨⟨cap', hS⟩, hF, hg, [], by simp, by simp⟩, Or.inr ⟨rfl, hfull⟩⟩
  · rw [hm] at hS
    refine ⟨g', N ++ E, ⟨⟨cap', hS⟩, hF, hg, E, rfl, hE⟩, Or.inl ⟨(mkZ N most k).2.1, ?_, hsq, hkid, fun hx => by rw [hth hx, List.append_nil]⟩⟩
    rw [show (mkZ N most k).2.2 = 0 by rw [hm]]
    rfl
def kV (k : K4) : Value := .agg #[.int .u32 (k.1 : Int), .int .u32 (k.2.1 : Int), .int .u32 (k.2.2.1 : Int), .int .u32 (k.2.2.2 : Int)]
def kO (k : K4) : Obj := .cells #[.int .u32 (k.1 : Int), .int .u32 (k.2.1 : Int), .int .u32 (k.2.2.1 : Int), .int .u32 (k.2.2.2 : Int)] 46 (0, 0)
theorem k_cells {w : World} {b : Nat} {k : K4} (h : w.heap[b]? = some (kO k)) : w.cell? ⟨b, 0, none⟩ = some (.int .u32 (k.1 : Int)) ∧ w.cell? ⟨b, 1, none⟩ = some (.int .u32 (k.2.1 : Int)) ∧ w.cell? ⟨b, 2, none⟩ = some (.int .u32 (k.2.2.1 : Int)) ∧ w.cell? ⟨b, 3, none⟩ = some (.int .u32 (k.2.2.2 : Int)) :=
  ⟨by rw [Lib.cell_of_heap h]; rfl, by rw [Lib.cell_of_heap h]; rfl, by rw [Lib.cell_of_heap h]; rfl, by rw [Lib.cell_of_heap h]; rfl⟩
theorem k_cell {w : World} {b : Nat} {k : K4} (h : w.heap[b]? = some (kO k)) {i : Nat} (hi : i < 4) : w.cell? ⟨b, i, none⟩ = some (.int .u32 (kAt k i : Int)) ∧ w.frozen? ⟨b, i, none⟩ = false := by
  obtain ⟨c0, c1, c2, c3⟩ := k_cells h
  refine ⟨?_, Lib.frozen_of_heap h i⟩
  have : i = 0 ∨ i = 1 ∨ i = 2 ∨ i = 3 := by omega
  rcases this with rfl | rfl | rfl | rfl
  · exact c0
  · exact c1
  · exact c2
  · exact c3
theorem k_set {w : World} {b : Nat} {k : K4} (h : w.heap[b]? = some (kO k)) {i : Nat} (hi : i < 4) (v : Nat) : (w.setCell ⟨b, i, none⟩ (.int .u32 (v : Int))).heap[b]? = some (kO (mk4 fun j => if j = i then v else kAt k j)) := by
  have : i = 0 ∨ i = 1 ∨ i = 2 ∨ i = 3 := by omega
  rcases this with rfl | rfl | rfl | rfl <;> simp only [World.setCell, Array.getElem?_modify, h, kO, mk4, kAt] <;> simp
theorem kix (k : K4) {i : Nat} (hi : i < 4) (w : World) : (Instr.index 46 (.agg #[.int .u32 (k.1 : Int), .int .u32 (k.2.1 : Int), .int .u32 (k.2.2.1 : Int), .int .u32 (k.2.2.2 : Int)]) (.int .i64 (i : Int))).run Try.prog w = .ok (.int .u32 (kAt k i : Int)) w := by
  have : i = 0 ∨ i = 1 ∨ i = 2 ∨ i = 3 := by omega
  rcases this with rfl | rfl | rfl | rfl
  · exact kix0 _ _ _ _ w
  · exact kix1 _ _ _ _ w
  · exact kix2 _ _ _ _ w
  · exact kix3 _ _ _ _ w
/-- A store into a block of one's own, beside a store. -/
theorem Ob.set {w : World} {sb g tb b : Nat} {k : K4} (h : Ob w sb g tb b (kO k)) {i : Nat} (hi : i < 4) (v : Nat) : Ob (w.setCell ⟨b, i, none⟩ (.int .u32 (v : Int))) sb g tb b (kO (mk4 fun j => if j = i then v else kAt k j)) :=
  ⟨k_set h.at_ hi v, h.sb_, h.g_, h.tb_⟩
theorem Ob.other {w : World} {sb g tb b : Nat} {o : Obj} (h : Ob w sb g tb b o) {p : Addr} (hp : p.block ≠ b) (v : Value) : Ob (w.setCell p v) sb g tb b o :=
  ⟨by rw [Below.heap_setCell _ _ _ _ (Ne.symm hp)]; exact h.at_, h.sb_, h.g_, h.tb_⟩
theorem hasEm_zero {N : List Nd} (hw : Wf N) : HasEm N 0 := fun j hj => by
  obtain rfl : j = 0 := by omega
  exact ⟨0, sq_dead hw, fun _ _ => rfl⟩
end Go.Proofs.Ytaapkngpnlnjeaa
end

section
namespace Go.Proofs.Ytaapkngpnlnjeaa
open Go.RowKit Go.Maps
set_option maxRecDepth 100000

theorem kept {w w' : World} {b : Nat} {o : Obj} (h : w.heap[b]? = some o) (hb : Below w.heap.size w w') : w'.heap[b]? = some o := by
  rw [hb.block b (Array.getElem?_eq_some_iff.1 h).1]; exact h
theorem new_2 (w : World) (o1 o2 : Obj) : ((w.alloc o1).alloc o2).heap[w.heap.size + 1]? = some o2 := by
  have := heap_alloc_new (w.alloc o1) o2
  rw [show (w.alloc o1).heap.size = w.heap.size + 1 by simp] at this
  exact this
theorem new_3 (w : World) (o1 o2 o3 : Obj) : (((w.alloc o1).alloc o2).alloc o3).heap[w.heap.size + 1 + 1]? = some o3 := by
  have := heap_alloc_new ((w.alloc o1).alloc o2) o3
  rw [show ((w.alloc o1).alloc o2).heap.size = w.heap.size + 1 + 1 by simp] at this
  exact this
theorem k_res2 {w W : World} {B b : Nat} {k : K4} (hb : Below B w W) (hB : B ≤ b) (h : W.heap[b]? = some (kO k)) (d : K4) :
    ∃ W', ((((W.setCell ⟨b, 0, none⟩ (.int .u32 (d.1 : Int))).setCell ⟨b, 1, none⟩ (.int .u32 (d.2.1 : Int))).setCell ⟨b, 2, none⟩ (.int .u32 (d.2.2.1 : Int))).setCell ⟨b, 3, none⟩ (.int .u32 (d.2.2.2 : Int))) = W' ∧ Below B w W' ∧ W'.heap[b]? = some (kO d) :=
  ⟨_, rfl, (((hb.setCell (p := ⟨b, 0, none⟩) hB _).setCell (p := ⟨b, 1, none⟩) hB _).setCell (p := ⟨b, 2, none⟩) hB _).setCell (p := ⟨b, 3, none⟩) hB _, KAt.put h d⟩
theorem of_sqk {w : World} {sb g tb cap most : Nat} {N : List Nd} (h : St w sb g tb cap most N) {n x : Nat} (hx : Sq N (n + 1) x) :
    Calls Try.prog 17 #[.pointer (some ⟨sb, 0, none⟩), .int .u32 (x : Int)] w fun e w' => e = .returned (.tuple #[.agg #[.int .u32 ((kidZ N x).1 : Int), .int .u32 ((kidZ N x).2.1 : Int), .int .u32 ((kidZ N x).2.2.1 : Int), .int .u32 ((kidZ N x).2.2.2 : Int)], .bool true]) ∧ Below w.heap.size w w' := of_sq h hx
end Go.Proofs.Ytaapkngpnlnjeaa
end
