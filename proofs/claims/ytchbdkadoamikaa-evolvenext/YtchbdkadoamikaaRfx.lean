-- Rfx
import Derived.Test.YtchbdkadoamikaaUp
import Derived.Test.YtchbdkadoamikaaS7c
import Derived.Laws.StructEq
import Derived.Deep.AppendLies
import Derived.Deep.DeepCutAuto
import Derived.Deep.CutRange
section
namespace Go.Proofs.Ytchbdkadoamikaa
open Go.RowKit Go.Maps
set_option maxRecDepth 100000

/-- A slice's address reads as these points. -/
def Ro (w : World) (a : Option Addr) (l : List (Int × Int)) : Prop :=
  ∀ (j : Nat) c, l[j]? = some c → ∃ bk, a = some ⟨bk, 0, none⟩ ∧ w.cell? ⟨bk, j * 2, none⟩ = some (.int .i64 c.1) ∧ w.cell? ⟨bk, j * 2 + 1, none⟩ = some (.int .i64 c.2)
theorem Ro.nil (w : World) (a : Option Addr) : Ro w a [] := fun j c hc => by simp at hc
theorem Ro.later {w w' : World} {a : Option Addr} {l : List (Int × Int)} (h : Ro w a l) (hb : Below w.heap.size w w') : Ro w' a l := fun j c hc => by
  obtain ⟨bk, e, h1, h2⟩ := h j c hc
  exact ⟨bk, e, by rw [hb.cell (p := ⟨bk, j * 2, none⟩) (blk_lt h1)]; exact h1, by rw [hb.cell (p := ⟨bk, j * 2 + 1, none⟩) (blk_lt h2)]; exact h2⟩
theorem Try.fieldsP7 : ((Try.prog.fieldsOf 74).toList.map fun f => (f.name, f.type, f.offset)) = [("X", 2, 0), ("Y", 2, 1)] := by kernel_rfl
theorem Try.partP0 (a b : Value) (w : World) : (part 2 #[a, b] 0).run Try.prog w = .ok a w := by kernel_rfl
theorem Try.partP1 (a b : Value) (w : World) : (part 2 #[a, b] 1).run Try.prog w = .ok b w := by kernel_rfl
theorem eqIn7 (x y a b : Int) (w : World) : (Op.equalIn 10000 74 (.agg #[.int .i64 x, .int .i64 y]) (.agg #[.int .i64 a, .int .i64 b])).run Try.prog w = .ok (x == a && y == b) w := by
  rw [run_equalIn_agg w 9999 74 _ _ (by kernel_rfl) (by kernel_rfl)]
  have hm := Try.fieldsP7
  generalize (Try.prog.fieldsOf 74).toList = l at *
  have hl : l.length = 2 := by have := congrArg List.length hm; simpa using this
  match l, hl, hm with
  | [f, g], _, hm =>
    simp only [List.map_cons, List.map_nil, List.cons.injEq, Prod.mk.injEq, and_true] at hm
    obtain ⟨⟨n1, t1, o1⟩, n2, t2, o2⟩ := hm
    simp only [Op.eqFields, n1, t1, o1, n2, t2, o2, Sem.run_bind, Sem.run_ite, Try.partP0, Try.partP1, Result.andThen_ok, run_equalIn_int w 9998 _ .i64 .i64 _ _ Try.underlying2]
    cases h1 : (x == a) <;> cases h2 : (y == b) <;> simp
theorem eqP (x y a b : Int) (w : World) : (binOp .eql 74 (.agg #[.int .i64 x, .int .i64 y]) (.agg #[.int .i64 a, .int .i64 b])).run Try.prog w = .ok (.bool (x == a && y == b)) w := by
  rw [run_eql_struct, eqIn7]; rfl
theorem neP (x y a b : Int) (w : World) : (binOp .neq 74 (.agg #[.int .i64 x, .int .i64 y]) (.agg #[.int .i64 a, .int .i64 b])).run Try.prog w = .ok (.bool (!(x == a && y == b))) w := by
  rw [run_neq_struct, eqIn7]; rfl
def ptO7 (a b : Int) : Obj := .cells #[.int .i64 a, .int .i64 b] 74 (0, 0)
theorem pt_cells7 {w : World} {b : Nat} {x y : Int} (h : w.heap[b]? = some (ptO7 x y)) : w.cell? ⟨b, 0, none⟩ = some (.int .i64 x) ∧ w.cell? ⟨b, 1, none⟩ = some (.int .i64 y) :=
  ⟨by rw [Lib.cell_of_heap h]; rfl, by rw [Lib.cell_of_heap h]; rfl⟩
theorem keptR {w w' : World} {b : Nat} {o : Obj} (h : w.heap[b]? = some o) (hb : Below w.heap.size w w') : w'.heap[b]? = some o := by
  rw [hb.block b (Array.getElem?_eq_some_iff.1 h).1]; exact h
set_option maxHeartbeats 1000000 in
theorem has_refB (l : List (Int × Int)) (a : Option Addr) (cap : Nat) (p q : Int) (w : World) (h : Ro w a l) (hl : l.length ≤ 1000000) :
    Calls Try.prog 30 #[.slice a l.length cap, .agg #[.int .i64 p, .int .i64 q]] w fun e w' => e = .returned (.bool (decide ((p, q) ∈ l))) ∧ Below w.heap.size w w' := by
  have HB := Lib.hid (bel1 w (.cells #[.int .i64 p, .int .i64 q] 74))
  have HR := Lib.hid (h.later HB.out)
  have HP : Hid ((w.alloc (.cells #[.int .i64 p, .int .i64 q] 74)).heap[w.heap.size]? = some (ptO7 p q)) := heap_alloc_new _ _
  clear h
  go_enter Try.func30, Try.ntmps30
  go_wp2_with fail
  generalize w.alloc (.cells #[.int .i64 p, .int .i64 q] 74) = W0 at *
  go_loopg [5] l.length (fun m i wr => ∃ j : Nat, m = l.length - j ∧ j ≤ l.length ∧ i = .int .i64 (j : Int) ∧ (p, q) ∉ l.take j ∧ ∃ k, wr = W0.drewN k)
  case atStart => exact ⟨0, rfl, Nat.zero_le _, rfl, by simp, 0, rfl⟩
  case round =>
    obtain ⟨j, hm, hj, rfl, hno, k, rfl⟩ := hrel
    have HM := Lib.hid hm
    have HNO := Lib.hid hno
    clear hm hno
    obtain ⟨q0, q1⟩ := pt_cells7 HP.out
    by_cases hlt : j < l.length
    · obtain ⟨c, hc⟩ : ∃ c, l[j]? = some c := ⟨l[j], List.getElem?_eq_getElem hlt⟩
      obtain ⟨bk, ha, c0, c1⟩ := HR.out j c hc
      have HTK : Hid (l.take (j + 1) = l.take j ++ [c]) := by show _ = _; rw [List.take_add_one, hc]; rfl
      subst ha
      clear hc
      have hgj : decide ((j : Int) < (l.length : Int)) = true := by simp; omega
      have i1 : (0 : Int) ≤ (j : Int) := by omega
      have i2 : (j : Int) < (l.length : Int) := by omega
      have heq := eqP c.1 c.2 p q
      go_wp2_with fail
      go_quiet (fail)
      by_cases he : c = (p, q)
      · rw [show (c.1 == p && c.2 == q) = true by rw [he]; simp]
        have HE := Lib.hid he
        clear he
        go_wp2_with fail
        go_ret
        refine ⟨?_, below_drewN (below_drewN HB.out _) _⟩
        rw [decide_eq_true]
        · rfl
        · rw [← HE.out]
          have : c ∈ l.take (j + 1) := by rw [HTK.out]; simp
          exact List.mem_of_mem_take this
      · rw [show (c.1 == p && c.2 == q) = false by simp; exact fun h1 h2 => he (Prod.ext h1 h2)]
        have HE := Lib.hid he
        clear he
        go_wp2_with fail
        go_roundg (l.length - (j + 1))
        case measure => rw [HM.out]; omega
        case rel =>
          refine ⟨j + 1, rfl, hlt, by go_num, ?_, _, rfl⟩
          rw [HTK.out, List.mem_append]
          rintro (hh | hh)
          · exact HNO.out hh
          · simp at hh
            exact HE.out hh.symm
    · obtain rfl : j = l.length := by omega
      have hgj : decide ((l.length : Int) < (l.length : Int)) = false := by simp
      go_wp2_with fail
      go_ret
      refine ⟨?_, below_drewN HB.out _⟩
      have := HNO.out
      rw [List.take_length] at this
      rw [decide_eq_false this]
      rfl
theorem has_ref (l : List (Int × Int)) (a : Option Addr) (cap : Nat) (p q : Int) (w : World) (h : Ro w a l) (hl : l.length ≤ 1000) :
    Calls Try.prog 30 #[.slice a l.length cap, .agg #[.int .i64 p, .int .i64 q]] w fun e w' => e = .returned (.bool (decide ((p, q) ∈ l))) ∧ Below w.heap.size w w' := has_refB l a cap p q w h (by omega)
end Go.Proofs.Ytchbdkadoamikaa
end

section
namespace Go.Proofs.Ytchbdkadoamikaa
open Go.RowKit Go.Maps
set_option maxRecDepth 100000

/-- Are all points in the square of level n + 1? -/
def fitB (n : Nat) (l : List (Int × Int)) : Bool := l.all fun c => inS n c.1 && inS n c.2
end Go.Proofs.Ytchbdkadoamikaa
end

section
namespace Go.Proofs.Ytchbdkadoamikaa
open Go.RowKit Go.Maps
set_option maxRecDepth 100000

theorem Try.infoP7 : (Try.prog.info? 74).map (fun i => (i.zero, i.size, i.bytes)) = some (some (.agg #[.int .i64 0, .int .i64 0]), 2, 16) := by kernel_rfl
theorem infoP7 : ∃ i, Try.prog.info? 74 = some i ∧ i.zero = some (.agg #[.int .i64 0, .int .i64 0]) ∧ i.size = 2 ∧ i.bytes = 16 := by
  obtain ⟨i, hi, h⟩ := Option.map_eq_some_iff.1 Try.infoP7
  simp only [Prod.mk.injEq] at h
  exact ⟨i, hi, h.1, h.2.1, h.2.2⟩
/-- Points as cells. -/
def ptVs (l : List (Int × Int)) : List Value := l.flatMap fun c => [.int .i64 c.1, .int .i64 c.2]
theorem ptVs_len (l : List (Int × Int)) : (ptVs l).length = l.length * 2 := by
  induction l with
  | nil => rfl
  | cons c r ih => simp only [ptVs, List.flatMap_cons, List.length_append, List.length_cons, List.length_nil] at ih ⊢; omega
theorem ptVs_at : ∀ (l : List (Int × Int)) (j : Nat), (ptVs l)[j * 2]? = l[j]?.map (fun c => .int .i64 c.1) ∧ (ptVs l)[j * 2 + 1]? = l[j]?.map (fun c => .int .i64 c.2)
  | [], j => by simp [ptVs]
  | c :: r, 0 => by simp [ptVs]
  | c :: r, j + 1 => by
    obtain ⟨h1, h2⟩ := ptVs_at r j
    simp only [ptVs, List.flatMap_cons, List.cons_append, List.nil_append, show (j + 1) * 2 = j * 2 + 1 + 1 by omega, List.getElem?_cons_succ] at h1 h2 ⊢
    exact ⟨h1, h2⟩
/-- A row of points of the call's own. -/
def OwP (w : World) (B : Nat) (v : Value) (l : List (Int × Int)) : Prop := w.ownsRow B 74 2 v l.length (ptVs l)
theorem OwP.ro {w : World} {B : Nat} {v : Value} {l : List (Int × Int)} (h : OwP w B v l) : ∃ a cap, v = .slice a l.length cap ∧ Ro w a l ∧ ∀ bk off, a = some ⟨bk, off, none⟩ → B ≤ bk ∧ bk < w.heap.size := by
  have h' := h
  rcases h.2 with ⟨hv, hn0⟩ | ⟨g, cp, cur, hv, hB, hg, h1, h2, _, _⟩
  · obtain rfl : l = [] := List.eq_nil_of_length_eq_zero (by omega)
    exact ⟨none, 0, hv, Ro.nil _ _, fun bk off e => by cases e⟩
  · subst hv
    refine ⟨_, _, rfl, fun j c hc => ?_, fun bk off e => ?_⟩
    · have hj : j < l.length := (List.getElem?_eq_some_iff.1 hc).1
      obtain ⟨e1, e2⟩ := ptVs_at l j
      rw [hc] at e1 e2
      exact ⟨g, rfl, by rw [World.ownsRow.cellAt h' (j * 2) (by omega)]; exact e1, by rw [World.ownsRow.cellAt h' (j * 2 + 1) (by omega)]; exact e2⟩
    · cases e
      exact ⟨hB, (Array.getElem?_eq_some_iff.1 hg).1⟩
def setL (l : List (Int × Int)) (p : Int × Int) (alive : Bool) : List (Int × Int) := l.filter (fun c => !decide (c = p)) ++ if alive then [p] else []
theorem own_nil (w : World) (B : Nat) : OwP w B (.slice none 0 0) [] := ⟨rfl, Or.inl ⟨rfl, rfl⟩⟩
theorem cell_pair (w : World) (x y : Int) (t : TypeId) : ∀ j u, [Value.int .i64 x, Value.int .i64 y][j]? = some u → (w.alloc (.cells #[.int .i64 x, .int .i64 y] t)).cell? ((⟨w.heap.size, 0, none⟩ : Addr).add j) = some u := fun j u hu => by
  match j, hu with
  | 0, hu => simp at hu; subst hu; simp [Addr.add]
  | 1, hu => simp at hu; subst hu; simp [Addr.add]
  | j + 2, hu => simp at hu
theorem OwP.ahead {w : World} {B : Nat} {v : Value} {l : List (Int × Int)} (h : OwP w B v l) (k : Nat) (o : Obj) : ((w.drewN k).alloc o).ownsRow B 74 2 v l.length (ptVs l) := by
  have h' : (w.drewN k).ownsRow B 74 2 v l.length (ptVs l) := h
  exact h'.alloc o
theorem OwP.mono {w : World} {B B' : Nat} {v : Value} {l : List (Int × Int)} (h : OwP w B v l) (hB : B' ≤ B) : OwP w B' v l := by
  refine ⟨h.1, ?_⟩
  rcases h.2 with h1 | ⟨g, cp, cur, hv, h0, r⟩
  · exact Or.inl h1
  · exact Or.inr ⟨g, cp, cur, hv, Nat.le_trans hB h0, r⟩
theorem ptVs_snoc (l : List (Int × Int)) (c : Int × Int) : ptVs (l ++ [c]) = ptVs l ++ [.int .i64 c.1, .int .i64 c.2] := by simp [ptVs]
end Go.Proofs.Ytchbdkadoamikaa
end
