/- Package evolve: a memo beside its store; New, Known, Forget, prune, and what was found: contracts. -/
import Derived.Test.YtchbdkadoamikaaEk
import Derived.Test.YtchbdkadoamikaaE10
import Derived.Test.YtchbdkadoamikaaBe9
import Derived.Test.YtchbdkadoamikaaUp
namespace Go.Proofs.Ytchbdkadoamikaa
open Go.RowKit Go.Maps
set_option maxRecDepth 100000

def mapV (fb : Option Nat) : Value := .map fb
def meO (sb : Nat) (fb : Option Nat) (th : Nat) : Obj := .cells #[.pointer (some ⟨sb, 0, none⟩), .map fb, .int .i64 (th : Int)] 67 (0, 0)
/-- What was found is true. -/
def Tru (N : List Nd) (m : Stp → Option Value) : Prop := ∀ a v, m a = some v → ∃ n z : Nat, v = .int .u32 (z : Int) ∧ Sc N n a.x a.p z
theorem Tru.app {N : List Nd} {m : Stp → Option Value} (hw : Wf N) (E : List Nd) (h : Tru N m) : Tru (N ++ E) m := fun a v hv => by
  obtain ⟨n, z, h1, h2⟩ := h a v hv
  exact ⟨n, z, h1, h2.app hw E⟩
/-- A memo: its store, its block, what it found. -/
structure Me (w : World) (sb g tb most : Nat) (N : List Nd) (mb : Nat) (fb : Option Nat) (m : Stp → Option Value) : Prop where
  st : ∃ cap, St w sb g tb cap most N
  blk : ∃ th, th ≤ N.length ∧ w.heap[mb]? = some (meO sb fb th)
  mp : (fb = none ∧ ∀ a, m a = none) ∨ ∃ b, fb = some b ∧ GMap mkE w b m
  tr : Tru N m
  ap : mb ≠ sb ∧ mb ≠ g ∧ mb ≠ tb
  apf : ∀ b, fb = some b → b ≠ sb ∧ b ≠ g ∧ b ≠ tb ∧ b ≠ mb
theorem Me.wf {w : World} {sb g tb most mb : Nat} {N : List Nd} {fb : Option Nat} {m : Stp → Option Value} (h : Me w sb g tb most N mb fb m) : Wf N := by obtain ⟨_, hs⟩ := h.st; exact hs.wf
theorem Me.mlt {w : World} {sb g tb most mb : Nat} {N : List Nd} {fb : Option Nat} {m : Stp → Option Value} (h : Me w sb g tb most N mb fb m) : mb < w.heap.size := by
  obtain ⟨th, _, h⟩ := h.blk
  exact (Array.getElem?_eq_some_iff.1 h).1
theorem Me.flt {w : World} {sb g tb most mb : Nat} {N : List Nd} {fb : Option Nat} {m : Stp → Option Value} (h : Me w sb g tb most N mb fb m) {b : Nat} (hb : fb = some b) : b < w.heap.size := by
  rcases h.mp with ⟨e, _⟩ | ⟨b', e, h⟩
  · rw [e] at hb; cases hb
  · rw [e] at hb; cases hb; exact h.lt
theorem Me.later {w w' : World} {sb g tb most mb : Nat} {N : List Nd} {fb : Option Nat} {m : Stp → Option Value} (h : Me w sb g tb most N mb fb m) (hb : Below w.heap.size w w') : Me w' sb g tb most N mb fb m := by
  obtain ⟨cap, hs⟩ := h.st
  obtain ⟨th, h1, h2⟩ := h.blk
  exact ⟨⟨cap, hs.later hb⟩, ⟨th, h1, by rw [hb.block mb h.mlt]; exact h2⟩, h.mp.imp id (fun ⟨b, e, h⟩ => ⟨b, e, h.later hb⟩), h.tr, h.ap, h.apf⟩
theorem Me.drewN {w : World} {sb g tb most mb : Nat} {N : List Nd} {fb : Option Nat} {m : Stp → Option Value} (h : Me w sb g tb most N mb fb m) (q : Nat) : Me (w.drewN q) sb g tb most N mb fb m := by
  obtain ⟨cap, hs⟩ := h.st
  exact ⟨⟨cap, hs.drewN q⟩, h.blk, h.mp.imp id (fun ⟨b, e, h⟩ => ⟨b, e, h.drewN q⟩), h.tr, h.ap, h.apf⟩
theorem Me.drew {w : World} {sb g tb most mb : Nat} {N : List Nd} {fb : Option Nat} {m : Stp → Option Value} (h : Me w sb g tb most N mb fb m) : Me w.drew sb g tb most N mb fb m := h.drewN 1
theorem Me.cells {w : World} {sb g tb most mb : Nat} {N : List Nd} {fb : Option Nat} {m : Stp → Option Value} (h : Me w sb g tb most N mb fb m) :
    ∃ th : Nat, th ≤ N.length ∧ w.cell? ⟨mb, 0, none⟩ = some (.pointer (some ⟨sb, 0, none⟩)) ∧ w.cell? ⟨mb, 1, none⟩ = some (.map fb) ∧ w.cell? ⟨mb, 2, none⟩ = some (.int .i64 (th : Int)) ∧ (∀ i, w.frozen? ⟨mb, i, none⟩ = false) := by
  obtain ⟨th, h1, h2⟩ := h.blk
  exact ⟨th, h1, by rw [Lib.cell_of_heap h2]; rfl, by rw [Lib.cell_of_heap h2]; rfl, by rw [Lib.cell_of_heap h2]; rfl, fun i => Lib.frozen_of_heap h2 i⟩
/-- A memo has gone on: the squares stay, at most c are new; what was found stays. -/
structure Mx (sb tb mb most : Nat) (w : World) (g : Nat) (N : List Nd) (fb : Option Nat) (m : Stp → Option Value) (c : Nat) (w' : World) (g' : Nat) (N' : List Nd) (fb' : Option Nat) (m' : Stp → Option Value) : Prop where
  me : Me w' sb g' tb most N' mb fb' m'
  frm : Frm (sb :: g :: tb :: mb :: fb.toList) w w'
  gin : g' = g ∨ w.heap.size ≤ g'
  fin : fb' = fb ∨ ∃ b, fb' = some b ∧ w.heap.size ≤ b
  ext : ∃ E, N' = N ++ E ∧ E.length ≤ c
  kept : ∀ a v, m a = some v → m' a = some v
theorem Mx.of_below {w w' : World} {sb g tb most mb : Nat} {N : List Nd} {fb : Option Nat} {m : Stp → Option Value} (h : Me w sb g tb most N mb fb m) (hb : Below w.heap.size w w') : Mx sb tb mb most w g N fb m 0 w' g N fb m :=
  ⟨h.later hb, Frm.of_below hb, Or.inl rfl, Or.inl rfl, ⟨[], by simp, by simp⟩, fun _ _ h => h⟩
theorem Mx.trans {w w' w'' : World} {sb tb mb most g g' g'' c c' : Nat} {N N' N'' : List Nd} {fb fb' fb'' : Option Nat} {m m' m'' : Stp → Option Value} (h : Mx sb tb mb most w g N fb m c w' g' N' fb' m') (h' : Mx sb tb mb most w' g' N' fb' m' c' w'' g'' N'' fb'' m'') :
    Mx sb tb mb most w g N fb m (c + c') w'' g'' N'' fb'' m'' := by
  refine ⟨h'.me, h.frm.trans h'.frm (fun b hb => ?_), ?_, ?_, ?_, fun a v hv => h'.kept a v (h.kept a v hv)⟩
  · simp only [List.mem_cons, Option.mem_toList] at hb ⊢
    rcases hb with e | e | e | e | e
    · exact Or.inl (Or.inl e)
    · rcases h.gin with e' | e'
      · exact Or.inl (Or.inr (Or.inl (e.trans e')))
      · exact Or.inr (by omega)
    · exact Or.inl (Or.inr (Or.inr (Or.inl e)))
    · exact Or.inl (Or.inr (Or.inr (Or.inr (Or.inl e))))
    · rcases h.fin with e' | ⟨b', e', hb'⟩
      · exact Or.inl (Or.inr (Or.inr (Or.inr (Or.inr (by rw [e'] at e; exact e)))))
      · rw [e'] at e
        have e : b' = b := by simpa using e
        exact Or.inr (by omega)
  · rcases h'.gin with e | e
    · rw [e]; exact h.gin
    · exact Or.inr (Nat.le_trans h.frm.size e)
  · rcases h'.fin with e | ⟨b, e, hb⟩
    · rw [e]; exact h.fin
    · exact Or.inr ⟨b, e, Nat.le_trans h.frm.size hb⟩
  · obtain ⟨E, e1, e2⟩ := h.ext
    obtain ⟨F, f1, f2⟩ := h'.ext
    exact ⟨E ++ F, by rw [f1, e1, List.append_assoc], by rw [List.length_append]; omega⟩
theorem Mx.mono {w w' : World} {sb tb mb most g g' c c' : Nat} {N N' : List Nd} {fb fb' : Option Nat} {m m' : Stp → Option Value} (h : Mx sb tb mb most w g N fb m c w' g' N' fb' m') (hc : c ≤ c') : Mx sb tb mb most w g N fb m c' w' g' N' fb' m' := by
  obtain ⟨E, e1, e2⟩ := h.ext
  exact ⟨h.me, h.frm, h.gin, h.fin, ⟨E, e1, Nat.le_trans e2 hc⟩, h.kept⟩
theorem Mx.drew {w w' : World} {sb tb mb most g g' c : Nat} {N N' : List Nd} {fb fb' : Option Nat} {m m' : Stp → Option Value} (h : Mx sb tb mb most w g N fb m c w' g' N' fb' m') : Mx sb tb mb most w g N fb m c w'.drew g' N' fb' m' :=
  ⟨h.me.drew, ⟨h.frm.os, h.frm.tape, h.frm.output, h.frm.size, h.frm.block⟩, h.gin, h.fin, h.ext, h.kept⟩
theorem Mx.undrew {w w' : World} {sb tb mb most g g' c : Nat} {N N' : List Nd} {fb fb' : Option Nat} {m m' : Stp → Option Value} (h : Mx sb tb mb most w.drew g N fb m c w' g' N' fb' m') : Mx sb tb mb most w g N fb m c w' g' N' fb' m' :=
  ⟨h.me, ⟨h.frm.os, h.frm.tape, h.frm.output, h.frm.size, h.frm.block⟩, h.gin, h.fin, h.ext, h.kept⟩
/-- The store alone has gone on. -/
theorem Mx.of_nx {w w' : World} {sb g g' tb most mb c : Nat} {N N' : List Nd} {fb : Option Nat} {m : Stp → Option Value} (h : Me w sb g tb most N mb fb m) (hn : Nx sb tb most w g N c w' g' N') : Mx sb tb mb most w g N fb m c w' g' N' fb m := by
  have hml := h.mlt
  obtain ⟨m1, m2, m3⟩ := h.ap
  obtain ⟨th, h1, h2⟩ := h.blk
  obtain ⟨E, e1, e2⟩ := hn.ext
  refine ⟨⟨hn.st, ⟨th, by rw [e1, List.length_append]; omega, by rw [hn.frm.block mb hml (by simp; omega)]; exact h2⟩, ?_, by rw [e1]; exact h.tr.app h.wf E, ⟨m1, ?_, m3⟩, fun b hb => ?_⟩, ?_, hn.gin, Or.inl rfl, hn.ext, fun _ _ h => h⟩
  · refine h.mp.imp id fun ⟨b, e, hb⟩ => ⟨b, e, hb.blk (hn.frm.block b hb.lt ?_)⟩
    obtain ⟨q1, q2, q3, q4⟩ := h.apf b e
    simp; omega
  · rcases hn.gin with e | e
    · rw [e]; exact m2
    · omega
  · obtain ⟨q1, q2, q3, q4⟩ := h.apf b hb
    have := h.flt hb
    refine ⟨q1, ?_, q3, q4⟩
    rcases hn.gin with e | e
    · rw [e]; exact q2
    · omega
  · exact ⟨hn.frm.os, hn.frm.tape, hn.frm.output, hn.frm.size, fun b hb hnn => hn.frm.block b hb (fun hm => hnn (by simp only [List.mem_cons, List.not_mem_nil, or_false] at hm ⊢; rcases hm with e | e | e <;> simp [e]))⟩
/-- A block of one's own, beside a memo. -/
structure Oe (w : World) (sb g tb mb : Nat) (fb : Option Nat) (b : Nat) (o : Obj) : Prop where
  at_ : w.heap[b]? = some o
  sb_ : b ≠ sb
  g_ : b ≠ g
  tb_ : b ≠ tb
  mb_ : b ≠ mb
  fb_ : fb ≠ some b
theorem Oe.lt {w : World} {sb g tb mb b : Nat} {fb : Option Nat} {o : Obj} (h : Oe w sb g tb mb fb b o) : b < w.heap.size := (Array.getElem?_eq_some_iff.1 h.at_).1
theorem Oe.later {w w' : World} {sb g tb mb b : Nat} {fb : Option Nat} {o : Obj} (h : Oe w sb g tb mb fb b o) (hb : Below w.heap.size w w') : Oe w' sb g tb mb fb b o := ⟨by rw [hb.block b h.lt]; exact h.at_, h.sb_, h.g_, h.tb_, h.mb_, h.fb_⟩
theorem Oe.drew {w : World} {sb g tb mb b : Nat} {fb : Option Nat} {o : Obj} (h : Oe w sb g tb mb fb b o) : Oe w.drew sb g tb mb fb b o := ⟨h.at_, h.sb_, h.g_, h.tb_, h.mb_, h.fb_⟩
theorem Oe.new {w : World} {sb g tb most mb : Nat} {N : List Nd} {fb : Option Nat} {m : Stp → Option Value} (h : Me w sb g tb most N mb fb m) (cs : Array Value) (t : TypeId) : Oe (w.alloc (.cells cs t)) sb g tb mb fb w.heap.size (.cells cs t (0, 0)) := by
  obtain ⟨cap, hs⟩ := h.st
  obtain ⟨l1, l2, l3⟩ := hs.lt
  have := h.mlt
  exact ⟨heap_alloc_new w _, by omega, by omega, by omega, by omega, fun e => by have := h.flt e; omega⟩
theorem Oe.mx {w w' : World} {sb tb mb most g g' c b : Nat} {N N' : List Nd} {fb fb' : Option Nat} {m m' : Stp → Option Value} {o : Obj} (h : Oe w sb g tb mb fb b o) (hn : Mx sb tb mb most w g N fb m c w' g' N' fb' m') : Oe w' sb g' tb mb fb' b o := by
  have hl := h.lt
  refine ⟨?_, h.sb_, ?_, h.tb_, h.mb_, ?_⟩
  · rw [hn.frm.block b hl (by simp only [List.mem_cons, Option.mem_toList, not_or]; exact ⟨h.sb_, h.g_, h.tb_, h.mb_, h.fb_⟩)]; exact h.at_
  · rcases hn.gin with e | e
    · rw [e]; exact h.g_
    · omega
  · rcases hn.fin with e | ⟨b', e, hb'⟩
    · rw [e]; exact h.fb_
    · rw [e]; intro e2; cases e2; omega
theorem Oe.other {w : World} {sb g tb mb b : Nat} {fb : Option Nat} {o : Obj} (h : Oe w sb g tb mb fb b o) {p : Addr} (hp : p.block ≠ b) (v : Value) : Oe (w.setCell p v) sb g tb mb fb b o :=
  ⟨by rw [Below.heap_setCell _ _ _ _ (Ne.symm hp)]; exact h.at_, h.sb_, h.g_, h.tb_, h.mb_, h.fb_⟩
theorem Me.keep {w w' : World} {sb g tb most mb : Nat} {N : List Nd} {fb : Option Nat} {m : Stp → Option Value} (h : Me w sb g tb most N mb fb m) (hk : ∀ b, b = sb ∨ b = g ∨ b = tb ∨ b = mb ∨ fb = some b → w'.heap[b]? = w.heap[b]?) : Me w' sb g tb most N mb fb m := by
  obtain ⟨cap, hs⟩ := h.st
  obtain ⟨th, h1, h2⟩ := h.blk
  exact ⟨⟨cap, hs.keep (hk sb (by simp)) (hk g (by simp)) (hk tb (by simp))⟩, ⟨th, h1, by rw [hk mb (by simp)]; exact h2⟩, h.mp.imp id (fun ⟨b, e, h⟩ => ⟨b, e, h.blk (hk b (by simp [e]))⟩), h.tr, h.ap, h.apf⟩
/-- A store into a block that was not there. -/
theorem Mx.set {w w' : World} {sb tb mb most g g' c b i : Nat} {N N' : List Nd} {fb fb' : Option Nat} {m m' : Stp → Option Value} {o : Obj} (h : Mx sb tb mb most w g N fb m c w' g' N' fb' m') (hb : Oe w' sb g' tb mb fb' b o) (hw : w.heap.size ≤ b) (v : Value) : Mx sb tb mb most w g N fb m c (w'.setCell ⟨b, i, none⟩ v) g' N' fb' m' := by
  refine ⟨h.me.keep fun q hq => Below.heap_setCell _ _ _ _ ?_, ⟨h.frm.os, h.frm.tape, h.frm.output, by simpa using h.frm.size, fun b' hb' hn => ?_⟩, h.gin, h.fin, h.ext, h.kept⟩
  · intro e
    have e : q = b := e
    subst e
    rcases hq with e | e | e | e | e
    · exact hb.sb_ e
    · exact hb.g_ e
    · exact hb.tb_ e
    · exact hb.mb_ e
    · exact hb.fb_ e
  · rw [Below.heap_setCell _ _ _ _ (by show b' ≠ b; omega)]
    exact h.frm.block b' hb' hn
/-- The same for all cells of the block. -/
theorem Mx.setRow {w w' : World} {sb tb mb most g g' c b : Nat} {N N' : List Nd} {fb fb' : Option Nat} {m m' : Stp → Option Value} {o : Obj} (h : Mx sb tb mb most w g N fb m c w' g' N' fb' m') (hb : Oe w' sb g' tb mb fb' b o) (hw : w.heap.size ≤ b) (cs : Array Value) : Mx sb tb mb most w g N fb m c (w'.setRow b cs) g' N' fb' m' := by
  have hne : ∀ q, q ≠ b → (w'.setRow b cs).heap[q]? = w'.heap[q]? := fun q hq => by
    simp only [World.setRow, Array.getElem?_modify]
    rw [if_neg (by omega)]
  refine ⟨h.me.keep fun q hq => hne q ?_, ⟨h.frm.os, h.frm.tape, h.frm.output, by simpa [World.setRow] using h.frm.size, fun b' hb' hn => ?_⟩, h.gin, h.fin, h.ext, h.kept⟩
  · rintro rfl
    rcases hq with e | e | e | e | e
    · exact hb.sb_ e
    · exact hb.g_ e
    · exact hb.tb_ e
    · exact hb.mb_ e
    · exact hb.fb_ e
  · rw [hne b' (by omega)]
    exact h.frm.block b' hb' hn
theorem Oe.otherRow {w : World} {sb g tb mb b : Nat} {fb : Option Nat} {o : Obj} (h : Oe w sb g tb mb fb b o) {q : Nat} (hp : q ≠ b) (cs : Array Value) : Oe (w.setRow q cs) sb g tb mb fb b o := by
  refine ⟨?_, h.sb_, h.g_, h.tb_, h.mb_, h.fb_⟩
  simp only [World.setRow, Array.getElem?_modify]
  rw [if_neg hp]
  exact h.at_
/-- A key of a memo's. -/
theorem Sc.ok {w : World} {sb g tb most mb : Nat} {N : List Nd} {fb : Option Nat} {m : Stp → Option Value} (h : Me w sb g tb most N mb fb m) {n x p z : Nat} (hs : Sc N n x p z) : SeOk ⟨x, p⟩ := by
  obtain ⟨cap, hst⟩ := h.st
  have h1 := hs.sq.lt
  have h2 := hst.room
  have h3 := hst.most_le
  have h4 := Sq.le62 hst.wf (n := n + 1) hs.sq
  have := hs.pm
  exact ⟨by show x < _; omega, by show p < _; omega⟩
/-- A memo asked. -/
theorem Me.look {w : World} {sb g tb most mb : Nat} {N : List Nd} {b : Nat} {m : Stp → Option Value} (h : Me w sb g tb most N mb (some b) m) {x p : Nat} (ha : SeOk ⟨x, p⟩) :
    ∃ (y : Nat) (ok : Bool), (Instr.lookup 65 (.map (some b)) (.agg #[.int .u32 (x : Int), .int .i64 (p : Int)]) true).run Try.prog w = .ok (.tuple #[.int .u32 (y : Int), .bool ok]) w ∧
      (ok = true → m ⟨x, p⟩ = some (.int .u32 (y : Int)) ∧ ∃ n, Sc N n x p y) ∧ (ok = false → m ⟨x, p⟩ = none) := by
  rcases h.mp with ⟨e, _⟩ | ⟨b', e, h1⟩
  · cases e
  · cases e
    cases hm : m ⟨x, p⟩ with
    | some v =>
      obtain ⟨n, y, rfl, hc⟩ := h.tr _ v hm
      exact ⟨y, true, (h1.look _ ha).1 _ hm, fun _ => ⟨rfl, n, hc⟩, fun h => (by cases h)⟩
    | none => exact ⟨0, false, (h1.look _ ha).2 hm, fun h => (by cases h), fun _ => rfl⟩
/-- A memo remembers. -/
theorem Me.put {w : World} {sb g tb most mb : Nat} {N : List Nd} {b : Nat} {m : Stp → Option Value} (h : Me w sb g tb most N mb (some b) m) {n x p y : Nat} (hs : Sc N n x p y) (hm : m ⟨x, p⟩ = none) :
    ∃ w', (Instr.mapUpdate 65 (.map (some b)) (.agg #[.int .u32 (x : Int), .int .i64 (p : Int)]) (.int .u32 (y : Int))).run Try.prog w = .ok () w' ∧
      Mx sb tb mb most w g N (some b) m 0 w' g N (some b) (fun a => if a = ⟨x, p⟩ then some (.int .u32 (y : Int)) else m a) := by
  have ha := hs.ok h
  obtain ⟨cap, hst⟩ := h.st
  obtain ⟨l1, l2, l3⟩ := hst.lt
  obtain ⟨th, t1, t2⟩ := h.blk
  obtain ⟨q1, q2, q3, q4⟩ := h.apf b rfl
  rcases h.mp with ⟨e, _⟩ | ⟨b', e, h1⟩
  · cases e
  cases e
  obtain ⟨w', r1, r2, r3⟩ := h1.put ⟨x, p⟩ ha (.int .u32 (y : Int))
  have hne : ∀ q, q < w.heap.size → q ≠ b → w'.heap[q]? = w.heap[q]? := fun q hq hn => r3.block q hq (fun e => hn (Option.some.inj e))
  refine ⟨w', r1, ⟨⟨⟨cap, hst.keep (hne sb l1 (Ne.symm q1)) (hne g l2 (Ne.symm q2)) (hne tb l3 (Ne.symm q3))⟩, ⟨th, t1, by rw [hne mb h.mlt (Ne.symm q4)]; exact t2⟩, Or.inr ⟨b, rfl, r2⟩, fun a v hv => ?_, h.ap, h.apf⟩, Frm.of_grown r3 (fun c e => by cases e; simp), Or.inl rfl, Or.inl rfl, ⟨[], by simp, by simp⟩, fun a v hv => ?_⟩⟩
  · by_cases e : a = ⟨x, p⟩
    · subst e
      rw [if_pos rfl] at hv
      exact ⟨n, y, (Option.some.inj hv).symm, hs⟩
    · rw [if_neg e] at hv
      exact h.tr a v hv
  · have : a ≠ ⟨x, p⟩ := by rintro rfl; rw [hm] at hv; cases hv
    show (if a = ⟨x, p⟩ then _ else m a) = some v
    rw [if_neg this]
    exact hv
end Go.Proofs.Ytchbdkadoamikaa
