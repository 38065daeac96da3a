/- Package evolve: a memo beside its store; New, Known, Forget, prune, and what was found: contracts. -/
import Derived.Test.YtaapkngpnlnjeaaGreatDoorP03
import Derived.Test.YtaapkngpnlnjeaaGreatDoorBe9
import Derived.Test.YtaapkngpnlnjeaaGreatDoorP07
namespace Go.Proofs.YtaapkngpnlnjeaaGreatDoor
open Go.RowKit Go.Maps
set_option maxRecDepth 100000

/-- The blocks of a memo's own: what was found, what was seen. -/
structure FbT where
  f : Option Nat
  q : Option Nat
def FbT.no : FbT := ⟨none, none⟩
def FbT.bl (fb : FbT) : List Nat := fb.f.toList ++ fb.q.toList
theorem mem_bl {fb : FbT} {b : Nat} : b ∈ fb.bl ↔ fb.f = some b ∨ fb.q = some b := by unfold FbT.bl; rw [List.mem_append, Option.mem_toList, Option.mem_toList]
theorem no_bl {b : Nat} : ¬ b ∈ FbT.no.bl := fun h => by cases h
def meO (sb : Nat) (f : Option Nat) (sv : Value) (cl : Int) : Obj := .cells #[.pointer (some ⟨sb, 0, none⟩), .map f, sv, .int .i64 cl, .map none] 78 (0, 0)
/-- What was seen of squares, as cells: the four, and the call. -/
def snL (S : List (K4 × Int)) : List Value := S.flatMap fun s => [.int .u32 (s.1.1 : Int), .int .u32 (s.1.2.1 : Int), .int .u32 (s.1.2.2.1 : Int), .int .u32 (s.1.2.2.2 : Int), .int .i64 s.2]
/-- The row of what was seen: all that has a call is true. -/
def Sights (w : World) (sv : Value) (q : Option Nat) (N : List Nd) : Prop := ∃ S : List (K4 × Int), w.ownsRow 0 160 5 sv S.length (snL S) ∧ sv.ownBlock = q ∧ S.length ≤ N.length ∧ ∀ j s, S[j]? = some s → 0 < s.2 → s.1 = kidZ N j
theorem ownsRow_blk {w w' : World} {B : Nat} {e : TypeId} {size n : Nat} {v : Value} {xs : List Value} (h : w.ownsRow B e size v n xs) (hb : ∀ b, v.ownBlock = some b → w'.heap[b]? = w.heap[b]?) : w'.ownsRow B e size v n xs := by
  refine ⟨h.1, ?_⟩
  rcases h.2 with hv | ⟨g', cp, cur, rfl, h0, hg, hr⟩
  · exact Or.inl hv
  · exact Or.inr ⟨g', cp, cur, rfl, h0, by rw [hb g' rfl]; exact hg, hr⟩
theorem Sights.blk {w w' : World} {sv : Value} {q : Option Nat} {N : List Nd} (h : Sights w sv q N) (hb : ∀ b, q = some b → w'.heap[b]? = w.heap[b]?) : Sights w' sv q N := by
  obtain ⟨S, h1, h2, h3⟩ := h
  exact ⟨S, ownsRow_blk h1 fun b hb' => hb b (h2.symm.trans hb'), h2, h3⟩
theorem Sights.lt {w : World} {sv : Value} {q : Option Nat} {N : List Nd} (h : Sights w sv q N) {b : Nat} (hb : q = some b) : b < w.heap.size := by
  obtain ⟨S, h1, h2, h3⟩ := h
  exact (h1.lt b (h2.trans hb)).2
theorem Sights.app {w : World} {sv : Value} {q : Option Nat} {N : List Nd} (h : Sights w sv q N) (E : List Nd) : Sights w sv q (N ++ E) := by
  obtain ⟨S, h1, h2, h3, h4⟩ := h
  refine ⟨S, h1, h2, by rw [List.length_append]; omega, fun j s hj hs => ?_⟩
  have := (List.getElem?_eq_some_iff.1 hj).1
  rw [h4 j s hj hs, kid_app E (by omega)]
theorem Sights.cells {w : World} {sv : Value} {b : Nat} {N : List Nd} (h : Sights w sv (some b) N) : ∃ cs : Array Value, w.heap[b]? = some (.cells cs 160 (0, 0)) := by
  obtain ⟨S, h1, h2, h3⟩ := h
  rcases h1.2 with ⟨rfl, _⟩ | ⟨g', cp, cur, rfl, h0, hg, hr⟩
  · cases h2
  · cases h2; exact ⟨cur, hg⟩
/-- What was found is true. -/
def Tru (N : List Nd) (m : Stp → Option Value) : Prop := ∀ a v, m a = some v → ∃ n z : Nat, v = .int .u32 (z : Int) ∧ Sc N n a.x a.p z
theorem Tru.app {N : List Nd} {m : Stp → Option Value} (hw : Wf N) (E : List Nd) (h : Tru N m) : Tru (N ++ E) m := fun a v hv => by
  obtain ⟨n, z, h1, h2⟩ := h a v hv
  exact ⟨n, z, h1, h2.app hw E⟩
/-- A memo: its store, its block, what it found. -/
structure Me (w : World) (sb g tb most : Nat) (N : List Nd) (mb : Nat) (fb : FbT) (m : Stp → Option Value) : Prop where
  st : ∃ cap, St w sb g tb cap most N
  blk : ∃ sv cl, w.heap[mb]? = some (meO sb fb.f sv cl) ∧ Sights w sv fb.q N
  mp : (fb.f = none ∧ ∀ a, m a = none) ∨ ∃ b, fb.f = some b ∧ GMap mkE w b m
  tr : Tru N m
  ap : mb ≠ sb ∧ mb ≠ g ∧ mb ≠ tb
  apf : ∀ b, b ∈ fb.bl → b ≠ sb ∧ b ≠ g ∧ b ≠ tb ∧ b ≠ mb
theorem Me.wf {w : World} {sb g tb most mb : Nat} {N : List Nd} {fb : FbT} {m : Stp → Option Value} (h : Me w sb g tb most N mb fb m) : Wf N := by obtain ⟨_, hs⟩ := h.st; exact hs.wf
theorem Me.mlt {w : World} {sb g tb most mb : Nat} {N : List Nd} {fb : FbT} {m : Stp → Option Value} (h : Me w sb g tb most N mb fb m) : mb < w.heap.size := by
  obtain ⟨sv, cl, h, _⟩ := h.blk
  exact (Array.getElem?_eq_some_iff.1 h).1
theorem Me.flt {w : World} {sb g tb most mb : Nat} {N : List Nd} {fb : FbT} {m : Stp → Option Value} (h : Me w sb g tb most N mb fb m) {b : Nat} (hb : b ∈ fb.bl) : b < w.heap.size := by
  rcases mem_bl.1 hb with hb | hb
  · rcases h.mp with ⟨e, _⟩ | ⟨b', e, h⟩
    · rw [e] at hb; cases hb
    · rw [e] at hb; cases hb; exact h.lt
  · obtain ⟨sv, cl, _, hs⟩ := h.blk
    exact hs.lt hb
theorem Me.later {w w' : World} {sb g tb most mb : Nat} {N : List Nd} {fb : FbT} {m : Stp → Option Value} (h : Me w sb g tb most N mb fb m) (hb : Below w.heap.size w w') : Me w' sb g tb most N mb fb m := by
  obtain ⟨cap, hs⟩ := h.st
  obtain ⟨sv, cl, h1, h2⟩ := h.blk
  exact ⟨⟨cap, hs.later hb⟩, ⟨sv, cl, by rw [hb.block mb h.mlt]; exact h1, h2.blk fun b e => hb.block b (h2.lt e)⟩, h.mp.imp id (fun ⟨b, e, h⟩ => ⟨b, e, h.later hb⟩), h.tr, h.ap, h.apf⟩
theorem Me.drewN {w : World} {sb g tb most mb : Nat} {N : List Nd} {fb : FbT} {m : Stp → Option Value} (h : Me w sb g tb most N mb fb m) (q : Nat) : Me (w.drewN q) sb g tb most N mb fb m := by
  obtain ⟨cap, hs⟩ := h.st
  exact ⟨⟨cap, hs.drewN q⟩, h.blk, h.mp.imp id (fun ⟨b, e, h⟩ => ⟨b, e, h.drewN q⟩), h.tr, h.ap, h.apf⟩
theorem Me.drew {w : World} {sb g tb most mb : Nat} {N : List Nd} {fb : FbT} {m : Stp → Option Value} (h : Me w sb g tb most N mb fb m) : Me w.drew sb g tb most N mb fb m := h.drewN 1
theorem Me.cells {w : World} {sb g tb most mb : Nat} {N : List Nd} {fb : FbT} {m : Stp → Option Value} (h : Me w sb g tb most N mb fb m) :
    ∃ (sv : Value) (cl : Int), Sights w sv fb.q N ∧ w.cell? ⟨mb, 0, none⟩ = some (.pointer (some ⟨sb, 0, none⟩)) ∧ w.cell? ⟨mb, 1, none⟩ = some (.map fb.f) ∧ w.cell? ⟨mb, 2, none⟩ = some sv ∧ w.cell? ⟨mb, 3, none⟩ = some (.int .i64 cl) ∧ w.cell? ⟨mb, 4, none⟩ = some (.map none) ∧ (∀ i, w.frozen? ⟨mb, i, none⟩ = false) := by
  obtain ⟨sv, cl, h2, h1⟩ := h.blk
  exact ⟨sv, cl, h1, by rw [Lib.cell_of_heap h2]; rfl, by rw [Lib.cell_of_heap h2]; rfl, by rw [Lib.cell_of_heap h2]; rfl, by rw [Lib.cell_of_heap h2]; rfl, by rw [Lib.cell_of_heap h2]; rfl, fun i => Lib.frozen_of_heap h2 i⟩
/-- A memo has gone on: the squares stay, at most c are new; what was found stays. -/
structure Mx (sb tb mb most : Nat) (w : World) (g : Nat) (N : List Nd) (fb : FbT) (m : Stp → Option Value) (c : Nat) (w' : World) (g' : Nat) (N' : List Nd) (fb' : FbT) (m' : Stp → Option Value) : Prop where
  me : Me w' sb g' tb most N' mb fb' m'
  frm : Frm (sb :: g :: tb :: mb :: fb.bl) w w'
  gin : g' = g ∨ w.heap.size ≤ g'
  fin : ∀ b, b ∈ fb'.bl → b ∈ fb.bl ∨ w.heap.size ≤ b
  ext : ∃ E, N' = N ++ E ∧ E.length ≤ c
  kept : ∀ a v, m a = some v → m' a = some v
theorem Mx.of_below {w w' : World} {sb g tb most mb : Nat} {N : List Nd} {fb : FbT} {m : Stp → Option Value} (h : Me w sb g tb most N mb fb m) (hb : Below w.heap.size w w') : Mx sb tb mb most w g N fb m 0 w' g N fb m :=
  ⟨h.later hb, Frm.of_below hb, Or.inl rfl, fun _ h => Or.inl h, ⟨[], by simp, by simp⟩, fun _ _ h => h⟩
theorem Mx.trans {w w' w'' : World} {sb tb mb most g g' g'' c c' : Nat} {N N' N'' : List Nd} {fb fb' fb'' : FbT} {m m' m'' : Stp → Option Value} (h : Mx sb tb mb most w g N fb m c w' g' N' fb' m') (h' : Mx sb tb mb most w' g' N' fb' m' c' w'' g'' N'' fb'' m'') :
    Mx sb tb mb most w g N fb m (c + c') w'' g'' N'' fb'' m'' := by
  refine ⟨h'.me, h.frm.trans h'.frm (fun b hb => ?_), ?_, ?_, ?_, fun a v hv => h'.kept a v (h.kept a v hv)⟩
  · simp only [List.mem_cons] at hb ⊢
    rcases hb with e | e | e | e | e
    · exact Or.inl (Or.inl e)
    · rcases h.gin with e' | e'
      · exact Or.inl (Or.inr (Or.inl (e.trans e')))
      · exact Or.inr (by omega)
    · exact Or.inl (Or.inr (Or.inr (Or.inl e)))
    · exact Or.inl (Or.inr (Or.inr (Or.inr (Or.inl e))))
    · rcases h.fin b e with e' | e'
      · exact Or.inl (Or.inr (Or.inr (Or.inr (Or.inr e'))))
      · exact Or.inr e'
  · rcases h'.gin with e | e
    · rw [e]; exact h.gin
    · exact Or.inr (Nat.le_trans h.frm.size e)
  · intro b hb
    rcases h'.fin b hb with e | e
    · exact h.fin b e
    · exact Or.inr (Nat.le_trans h.frm.size e)
  · obtain ⟨E, e1, e2⟩ := h.ext
    obtain ⟨F, f1, f2⟩ := h'.ext
    exact ⟨E ++ F, by rw [f1, e1, List.append_assoc], by rw [List.length_append]; omega⟩
theorem Mx.mono {w w' : World} {sb tb mb most g g' c c' : Nat} {N N' : List Nd} {fb fb' : FbT} {m m' : Stp → Option Value} (h : Mx sb tb mb most w g N fb m c w' g' N' fb' m') (hc : c ≤ c') : Mx sb tb mb most w g N fb m c' w' g' N' fb' m' := by
  obtain ⟨E, e1, e2⟩ := h.ext
  exact ⟨h.me, h.frm, h.gin, h.fin, ⟨E, e1, Nat.le_trans e2 hc⟩, h.kept⟩
theorem Mx.drew {w w' : World} {sb tb mb most g g' c : Nat} {N N' : List Nd} {fb fb' : FbT} {m m' : Stp → Option Value} (h : Mx sb tb mb most w g N fb m c w' g' N' fb' m') : Mx sb tb mb most w g N fb m c w'.drew g' N' fb' m' :=
  ⟨h.me.drew, ⟨h.frm.os, h.frm.tape, h.frm.output, h.frm.size, h.frm.block⟩, h.gin, h.fin, h.ext, h.kept⟩
theorem Mx.undrew {w w' : World} {sb tb mb most g g' c : Nat} {N N' : List Nd} {fb fb' : FbT} {m m' : Stp → Option Value} (h : Mx sb tb mb most w.drew g N fb m c w' g' N' fb' m') : Mx sb tb mb most w g N fb m c w' g' N' fb' m' :=
  ⟨h.me, ⟨h.frm.os, h.frm.tape, h.frm.output, h.frm.size, h.frm.block⟩, h.gin, h.fin, h.ext, h.kept⟩
/-- The store alone has gone on. -/
theorem Mx.of_nx {w w' : World} {sb g g' tb most mb c : Nat} {N N' : List Nd} {fb : FbT} {m : Stp → Option Value} (h : Me w sb g tb most N mb fb m) (hn : Nx sb tb most w g N c w' g' N') : Mx sb tb mb most w g N fb m c w' g' N' fb m := by
  have hml := h.mlt
  obtain ⟨m1, m2, m3⟩ := h.ap
  obtain ⟨sv, cl, h1, h2⟩ := h.blk
  obtain ⟨E, e1, e2⟩ := hn.ext
  have hk : ∀ b, b ∈ fb.bl → w'.heap[b]? = w.heap[b]? := fun b hb => hn.frm.block b (h.flt hb) (by
    obtain ⟨q1, q2, q3, q4⟩ := h.apf b hb
    simp; omega)
  refine ⟨⟨hn.st, ⟨sv, cl, by rw [hn.frm.block mb hml (by simp; omega)]; exact h1, by rw [e1]; exact (h2.blk fun b e => hk b (mem_bl.2 (Or.inr e))).app E⟩, ?_, by rw [e1]; exact h.tr.app h.wf E, ⟨m1, ?_, m3⟩, fun b hb => ?_⟩, ?_, hn.gin, fun _ h => Or.inl h, hn.ext, fun _ _ h => h⟩
  · exact h.mp.imp id fun ⟨b, e, hb⟩ => ⟨b, e, hb.blk (hk b (mem_bl.2 (Or.inl e)))⟩
  · rcases hn.gin with e | e
    · rw [e]; exact m2
    · omega
  · obtain ⟨q1, q2, q3, q4⟩ := h.apf b hb
    have := h.flt hb
    refine ⟨q1, ?_, q3, q4⟩
    rcases hn.gin with e | e
    · rw [e]; exact q2
    · omega
  · exact ⟨hn.frm.os, hn.frm.tape, hn.frm.output, hn.frm.size, fun b hb hnn => hn.frm.block b hb (fun hm => hnn (by simp only [List.mem_cons, List.not_mem_nil, or_false] at hm ⊢; rcases hm with e | e | e <;> simp [e]))⟩
/-- A block of one's own, beside a memo. -/
structure Oe (w : World) (sb g tb mb : Nat) (fb : FbT) (b : Nat) (o : Obj) : Prop where
  at_ : w.heap[b]? = some o
  sb_ : b ≠ sb
  g_ : b ≠ g
  tb_ : b ≠ tb
  mb_ : b ≠ mb
  fb_ : ¬ b ∈ fb.bl
theorem Oe.lt {w : World} {sb g tb mb b : Nat} {fb : FbT} {o : Obj} (h : Oe w sb g tb mb fb b o) : b < w.heap.size := (Array.getElem?_eq_some_iff.1 h.at_).1
theorem Oe.later {w w' : World} {sb g tb mb b : Nat} {fb : FbT} {o : Obj} (h : Oe w sb g tb mb fb b o) (hb : Below w.heap.size w w') : Oe w' sb g tb mb fb b o := ⟨by rw [hb.block b h.lt]; exact h.at_, h.sb_, h.g_, h.tb_, h.mb_, h.fb_⟩
theorem Oe.drew {w : World} {sb g tb mb b : Nat} {fb : FbT} {o : Obj} (h : Oe w sb g tb mb fb b o) : Oe w.drew sb g tb mb fb b o := ⟨h.at_, h.sb_, h.g_, h.tb_, h.mb_, h.fb_⟩
theorem Oe.new {w : World} {sb g tb most mb : Nat} {N : List Nd} {fb : FbT} {m : Stp → Option Value} (h : Me w sb g tb most N mb fb m) (cs : Array Value) (t : TypeId) : Oe (w.alloc (.cells cs t)) sb g tb mb fb w.heap.size (.cells cs t (0, 0)) := by
  obtain ⟨cap, hs⟩ := h.st
  obtain ⟨l1, l2, l3⟩ := hs.lt
  have := h.mlt
  exact ⟨heap_alloc_new w _, by omega, by omega, by omega, by omega, fun e => by have := h.flt e; omega⟩
theorem Oe.mx {w w' : World} {sb tb mb most g g' c b : Nat} {N N' : List Nd} {fb fb' : FbT} {m m' : Stp → Option Value} {o : Obj} (h : Oe w sb g tb mb fb b o) (hn : Mx sb tb mb most w g N fb m c w' g' N' fb' m') : Oe w' sb g' tb mb fb' b o := by
  have hl := h.lt
  refine ⟨?_, h.sb_, ?_, h.tb_, h.mb_, ?_⟩
  · rw [hn.frm.block b hl (by simp only [List.mem_cons, not_or]; exact ⟨h.sb_, h.g_, h.tb_, h.mb_, h.fb_⟩)]; exact h.at_
  · rcases hn.gin with e | e
    · rw [e]; exact h.g_
    · omega
  · intro hb
    rcases hn.fin b hb with e | e
    · exact h.fb_ e
    · omega
theorem Oe.other {w : World} {sb g tb mb b : Nat} {fb : FbT} {o : Obj} (h : Oe w sb g tb mb fb b o) {p : Addr} (hp : p.block ≠ b) (v : Value) : Oe (w.setCell p v) sb g tb mb fb b o :=
  ⟨by rw [Below.heap_setCell _ _ _ _ (Ne.symm hp)]; exact h.at_, h.sb_, h.g_, h.tb_, h.mb_, h.fb_⟩
theorem Me.keep {w w' : World} {sb g tb most mb : Nat} {N : List Nd} {fb : FbT} {m : Stp → Option Value} (h : Me w sb g tb most N mb fb m) (hk : ∀ b, b = sb ∨ b = g ∨ b = tb ∨ b = mb ∨ b ∈ fb.bl → w'.heap[b]? = w.heap[b]?) : Me w' sb g tb most N mb fb m := by
  obtain ⟨cap, hs⟩ := h.st
  obtain ⟨sv, cl, h1, h2⟩ := h.blk
  exact ⟨⟨cap, hs.keep (hk sb (by simp)) (hk g (by simp)) (hk tb (by simp))⟩, ⟨sv, cl, by rw [hk mb (by simp)]; exact h1, h2.blk fun b e => hk b (by simp [mem_bl, e])⟩, h.mp.imp id (fun ⟨b, e, h⟩ => ⟨b, e, h.blk (hk b (by simp [mem_bl, e]))⟩), h.tr, h.ap, h.apf⟩
/-- A store into a block that was not there. -/
theorem Mx.set {w w' : World} {sb tb mb most g g' c b i : Nat} {N N' : List Nd} {fb fb' : FbT} {m m' : Stp → Option Value} {o : Obj} (h : Mx sb tb mb most w g N fb m c w' g' N' fb' m') (hb : Oe w' sb g' tb mb fb' b o) (hw : w.heap.size ≤ b) (v : Value) : Mx sb tb mb most w g N fb m c (w'.setCell ⟨b, i, none⟩ v) g' N' fb' m' := by
  refine ⟨h.me.keep fun q hq => Below.heap_setCell _ _ _ _ ?_, ⟨h.frm.os, h.frm.tape, h.frm.output, by simpa using h.frm.size, fun b' hb' hn => ?_⟩, h.gin, h.fin, h.ext, h.kept⟩
  · intro e
    have e : q = b := e
    subst e
    rcases hq with e | e | e | e | e
    · exact hb.sb_ e
    · exact hb.g_ e
    · exact hb.tb_ e
    · exact hb.mb_ e
    · exact hb.fb_ e
  · rw [Below.heap_setCell _ _ _ _ (by show b' ≠ b; omega)]
    exact h.frm.block b' hb' hn
/-- The same for all cells of the block. -/
theorem Mx.setRow {w w' : World} {sb tb mb most g g' c b : Nat} {N N' : List Nd} {fb fb' : FbT} {m m' : Stp → Option Value} {o : Obj} (h : Mx sb tb mb most w g N fb m c w' g' N' fb' m') (hb : Oe w' sb g' tb mb fb' b o) (hw : w.heap.size ≤ b) (cs : Array Value) : Mx sb tb mb most w g N fb m c (w'.setRow b cs) g' N' fb' m' := by
  have hne : ∀ q, q ≠ b → (w'.setRow b cs).heap[q]? = w'.heap[q]? := fun q hq => by
    simp only [World.setRow, Array.getElem?_modify]
    rw [if_neg (by omega)]
  refine ⟨h.me.keep fun q hq => hne q ?_, ⟨h.frm.os, h.frm.tape, h.frm.output, by simpa [World.setRow] using h.frm.size, fun b' hb' hn => ?_⟩, h.gin, h.fin, h.ext, h.kept⟩
  · rintro rfl
    rcases hq with e | e | e | e | e
    · exact hb.sb_ e
    · exact hb.g_ e
    · exact hb.tb_ e
    · exact hb.mb_ e
    · exact hb.fb_ e
  · rw [hne b' (by omega)]
    exact h.frm.block b' hb' hn
theorem Oe.otherRow {w : World} {sb g tb mb b : Nat} {fb : FbT} {o : Obj} (h : Oe w sb g tb mb fb b o) {q : Nat} (hp : q ≠ b) (cs : Array Value) : Oe (w.setRow q cs) sb g tb mb fb b o := by
  refine ⟨?_, h.sb_, h.g_, h.tb_, h.mb_, h.fb_⟩
  simp only [World.setRow, Array.getElem?_modify]
  rw [if_neg hp]
  exact h.at_
/-- A key of a memo's. -/
theorem Sc.ok {w : World} {sb g tb most mb : Nat} {N : List Nd} {fb : FbT} {m : Stp → Option Value} (h : Me w sb g tb most N mb fb m) {n x p z : Nat} (hs : Sc N n x p z) : SeOk ⟨x, p⟩ := by
  obtain ⟨cap, hst⟩ := h.st
  have h1 := hs.sq.lt
  have h2 := hst.room
  have h3 := hst.most_le
  have h4 := Sq.le62 hst.wf (n := n + 1) hs.sq
  have := hs.pm
  exact ⟨by show x < _; omega, by show p < _; omega⟩
/-- A memo asked. -/
theorem Me.look2 {w : World} {sb g tb most mb : Nat} {N : List Nd} {fb : FbT} {m : Stp → Option Value} (h : Me w sb g tb most N mb fb m) {x p : Nat} (ha : SeOk ⟨x, p⟩) :
    ∃ (y : Nat) (ok : Bool), (Instr.lookup 74 (.map fb.f) (.agg #[.int .u32 (x : Int), .int .i64 (p : Int)]) true).run Tryz.prog w = .ok (.tuple #[.int .u32 (y : Int), .bool ok]) w ∧
      (ok = true → m ⟨x, p⟩ = some (.int .u32 (y : Int)) ∧ ∃ n, Sc N n x p y) ∧ (ok = false → m ⟨x, p⟩ = none) := by
  rcases h.mp with ⟨e, hn⟩ | ⟨b', e, h1⟩
  · rw [e]
    exact ⟨0, false, Maps.look_nil true Tryz.keyedE Tryz.underlying74 (Tryz.zeroID w) (keyE ⟨x, p⟩ ha), fun h => (by cases h), fun _ => hn _⟩
  · rw [e]
    cases hm : m ⟨x, p⟩ with
    | some v =>
      obtain ⟨n, y, rfl, hc⟩ := h.tr _ v hm
      exact ⟨y, true, (h1.look _ ha).1 _ hm, fun _ => ⟨rfl, n, hc⟩, fun h => (by cases h)⟩
    | none => exact ⟨0, false, (h1.look _ ha).2 hm, fun h => (by cases h), fun _ => rfl⟩
theorem Me.fq {w : World} {sb g tb most mb : Nat} {N : List Nd} {fb : FbT} {m : Stp → Option Value} (h : Me w sb g tb most N mb fb m) {b : Nat} (hb : fb.f = some b) : fb.q ≠ some b := fun e => by
  obtain ⟨sv, cl, _, hs⟩ := h.blk
  rw [e] at hs
  obtain ⟨cs, hc⟩ := hs.cells
  rcases h.mp with ⟨e', _⟩ | ⟨b', e', D, ks, ⟨es, clock, h1, h2⟩, r⟩
  · rw [e'] at hb; cases hb
  · rw [e'] at hb; cases hb
    rw [h1] at hc; cases hc
/-- The memo's own block gets another cell. -/
theorem Me.put {w : World} {sb g tb most mb : Nat} {N : List Nd} {fb : FbT} {m : Stp → Option Value} (h : Me w sb g tb most N mb fb m) {i : Nat} {v : Value} {f : Option Nat} {sv : Value} {cl : Int} (hf : (w.setCell ⟨mb, i, none⟩ v).heap[mb]? = some (meO sb f sv cl)) (hff : f = fb.f) (hs : Sights w sv fb.q N) :
    Mx sb tb mb most w g N fb m 0 (w.setCell ⟨mb, i, none⟩ v) g N fb m := by
  obtain ⟨cap, hst⟩ := h.st
  obtain ⟨a1, a2, a3⟩ := h.ap
  have hne : ∀ q, q ≠ mb → (w.setCell ⟨mb, i, none⟩ v).heap[q]? = w.heap[q]? := fun q h1 => Below.heap_setCell _ _ _ _ h1
  refine ⟨⟨⟨cap, hst.keep (hne sb (Ne.symm a1)) (hne g (Ne.symm a2)) (hne tb (Ne.symm a3))⟩, ⟨sv, cl, by rw [← hff]; exact hf, hs.blk fun b e => hne b (h.apf b (mem_bl.2 (Or.inr e))).2.2.2⟩, h.mp.imp id (fun ⟨b, e, hb⟩ => ⟨b, e, hb.blk (hne b (h.apf b (mem_bl.2 (Or.inl e))).2.2.2)⟩), h.tr, h.ap, h.apf⟩, ⟨rfl, rfl, rfl, by simp, fun b h1 h2 => hne b (fun e => h2 (by simp [e]))⟩, Or.inl rfl, fun _ h => Or.inl h, ⟨[], by simp, by simp⟩, fun _ _ h => h⟩
end Go.Proofs.YtaapkngpnlnjeaaGreatDoor
