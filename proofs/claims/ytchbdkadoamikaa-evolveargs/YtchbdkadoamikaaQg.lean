/- Package quad: Get: contract. -/
import Derived.Test.YtchbdkadoamikaaUp
namespace Go.Proofs.Ytchbdkadoamikaa
open Go.RowKit Go.Maps
set_option maxRecDepth 100000

/-- What a block of one's own holds, beside a store's. -/
structure Ob (w : World) (sb g tb b : Nat) (o : Obj) : Prop where
  at_ : w.heap[b]? = some o
  sb_ : b ≠ sb
  g_ : b ≠ g
  tb_ : b ≠ tb
theorem Ob.lt {w : World} {sb g tb b : Nat} {o : Obj} (h : Ob w sb g tb b o) : b < w.heap.size := (Array.getElem?_eq_some_iff.1 h.at_).1
theorem Ob.later {w w' : World} {sb g tb b : Nat} {o : Obj} (h : Ob w sb g tb b o) (hb : Below w.heap.size w w') : Ob w' sb g tb b o := ⟨by rw [hb.block b h.lt]; exact h.at_, h.sb_, h.g_, h.tb_⟩
theorem Ob.new {w : World} {sb g tb cap most : Nat} {N : List Nd} (h : St w sb g tb cap most N) (cs : Array Value) (t : TypeId) : Ob (w.alloc (.cells cs t)) sb g tb w.heap.size (.cells cs t (0, 0)) := by
  obtain ⟨l1, l2, l3⟩ := h.lt
  exact ⟨heap_alloc_new w _, by omega, by omega, by omega⟩
def plV (sb x : Nat) : Value := .agg #[.pointer (some ⟨sb, 0, none⟩), .int .u32 (x : Int)]
theorem Sq.u32 {w : World} {sb g tb cap most : Nat} {N : List Nd} (h : St w sb g tb cap most N) {n x : Nat} (hx : Sq N n x) : x < 4294967296 := by
  have := hx.lt; have := h.room; have := h.most_le; omega
theorem Sq.le62 {N : List Nd} (hw : Wf N) {n x : Nat} (h : Sq N (n + 1) x) : n < 62 := by
  obtain ⟨nd, e, _, hl, _⟩ := h.node hw
  have := hw.lv_le e
  omega
theorem of_sq {w : World} {sb g tb cap most : Nat} {N : List Nd} (h : St w sb g tb cap most N) {n x : Nat} (hx : Sq N (n + 1) x) :
    Calls Try.prog 18 #[.pointer (some ⟨sb, 0, none⟩), .int .u32 (x : Int)] w fun e w' => e = .returned (.tuple #[kv (kidZ N x), .bool true]) ∧ Below w.heap.size w w' := by
  obtain ⟨nd, e, _, hl, hk⟩ := hx.node h.wf
  rw [← hk]
  exact of_good h x (Sq.u32 h hx) e (by omega)
theorem qn_lt (r b : Bool) : qn r b < 4 := by cases r <;> cases b <;> decide
theorem kcell {w : World} {b : Nat} {k : K4} (h : KAt w b k) (r c : Bool) : w.cell? ⟨b, qn r c, none⟩ = some (.int .u32 (pick k r c : Int)) := by
  obtain ⟨c0, c1, c2, c3, _⟩ := h.cells
  cases r <;> cases c
  · exact c0
  · exact c2
  · exact c1
  · exact c3
theorem far_before {W w3 : World} {p : Addr} {v : Value} (h : W.cell? p = some v) (hb : Below W.drew.heap.size W.drew w3) : w3.cell? p = some v ∧ (∀ cs t, (w3.alloc (.cells cs t)).cell? p = some v) ∧ True ∧ True ∧ True ∧ True := by
  have hl := blk_lt h
  have h3 : w3.cell? p = some v := by rw [hb.cell (p := p) hl]; exact h
  refine ⟨h3, fun cs t => ?_, trivial, trivial, trivial, trivial⟩
  rw [(bel1 w3 (.cells cs t)).cell (p := p) (blk_lt h3)]; exact h3
end Go.Proofs.Ytchbdkadoamikaa
