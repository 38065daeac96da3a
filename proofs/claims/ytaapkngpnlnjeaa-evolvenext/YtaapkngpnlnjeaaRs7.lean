/- The document's Set: contract. -/
import Derived.Test.YtaapkngpnlnjeaaRf8
import Derived.Deep.DeepCutAuto
import Derived.Deep.CutRange
namespace Go.Proofs.Ytaapkngpnlnjeaa
open Go.RowKit Go.Maps
set_option maxRecDepth 100000

theorem Try.infoP7 : (Try.prog.info? 74).map (fun i => (i.zero, i.size, i.bytes)) = some (some (.agg #[.int .i64 0, .int .i64 0]), 2, 16) := by kernel_rfl
theorem infoP7 : ∃ i, Try.prog.info? 74 = some i ∧ i.zero = some (.agg #[.int .i64 0, .int .i64 0]) ∧ i.size = 2 ∧ i.bytes = 16 := by
  obtain ⟨i, hi, h⟩ := Option.map_eq_some_iff.1 Try.infoP7
  simp only [Prod.mk.injEq] at h
  exact ⟨i, hi, h.1, h.2.1, h.2.2⟩
/-- Points as cells. -/
def ptVs (l : List (Int × Int)) : List Value := l.flatMap fun c => [.int .i64 c.1, .int .i64 c.2]
theorem ptVs_len (l : List (Int × Int)) : (ptVs l).length = l.length * 2 := by
  induction l with
  | nil => rfl
  | cons c r ih => simp only [ptVs, List.flatMap_cons, List.length_append, List.length_cons, List.length_nil] at ih ⊢; omega
theorem ptVs_at : ∀ (l : List (Int × Int)) (j : Nat), (ptVs l)[j * 2]? = l[j]?.map (fun c => .int .i64 c.1) ∧ (ptVs l)[j * 2 + 1]? = l[j]?.map (fun c => .int .i64 c.2)
  | [], j => by simp [ptVs]
  | c :: r, 0 => by simp [ptVs]
  | c :: r, j + 1 => by
    obtain ⟨h1, h2⟩ := ptVs_at r j
    simp only [ptVs, List.flatMap_cons, List.cons_append, List.nil_append, show (j + 1) * 2 = j * 2 + 1 + 1 by omega, List.getElem?_cons_succ] at h1 h2 ⊢
    exact ⟨h1, h2⟩
/-- A row of points of the call's own. -/
def OwP (w : World) (B : Nat) (v : Value) (l : List (Int × Int)) : Prop := w.ownsRow B 74 2 v l.length (ptVs l)
theorem OwP.ro {w : World} {B : Nat} {v : Value} {l : List (Int × Int)} (h : OwP w B v l) : ∃ a cap, v = .slice a l.length cap ∧ Ro w a l ∧ ∀ bk off, a = some ⟨bk, off, none⟩ → B ≤ bk ∧ bk < w.heap.size := by
  have h' := h
  rcases h.2 with ⟨hv, hn0⟩ | ⟨g, cp, cur, hv, hB, hg, h1, h2, _, _⟩
  · obtain rfl : l = [] := List.eq_nil_of_length_eq_zero (by omega)
    exact ⟨none, 0, hv, Ro.nil _ _, fun bk off e => by cases e⟩
  · subst hv
    refine ⟨_, _, rfl, fun j c hc => ?_, fun bk off e => ?_⟩
    · have hj : j < l.length := (List.getElem?_eq_some_iff.1 hc).1
      obtain ⟨e1, e2⟩ := ptVs_at l j
      rw [hc] at e1 e2
      exact ⟨g, rfl, by rw [World.ownsRow.cellAt h' (j * 2) (by omega)]; exact e1, by rw [World.ownsRow.cellAt h' (j * 2 + 1) (by omega)]; exact e2⟩
    · cases e
      exact ⟨hB, (Array.getElem?_eq_some_iff.1 hg).1⟩
def setL (l : List (Int × Int)) (p : Int × Int) (alive : Bool) : List (Int × Int) := l.filter (fun c => !decide (c = p)) ++ if alive then [p] else []
theorem own_nil (w : World) (B : Nat) : OwP w B (.slice none 0 0) [] := ⟨rfl, Or.inl ⟨rfl, rfl⟩⟩
theorem cell_pair (w : World) (x y : Int) (t : TypeId) : ∀ j u, [Value.int .i64 x, Value.int .i64 y][j]? = some u → (w.alloc (.cells #[.int .i64 x, .int .i64 y] t)).cell? ((⟨w.heap.size, 0, none⟩ : Addr).add j) = some u := fun j u hu => by
  match j, hu with
  | 0, hu => simp at hu; subst hu; simp [Addr.add]
  | 1, hu => simp at hu; subst hu; simp [Addr.add]
  | j + 2, hu => simp at hu
theorem OwP.ahead {w : World} {B : Nat} {v : Value} {l : List (Int × Int)} (h : OwP w B v l) (k : Nat) (o : Obj) : ((w.drewN k).alloc o).ownsRow B 74 2 v l.length (ptVs l) := by
  have h' : (w.drewN k).ownsRow B 74 2 v l.length (ptVs l) := h
  exact h'.alloc o
theorem OwP.mono {w : World} {B B' : Nat} {v : Value} {l : List (Int × Int)} (h : OwP w B v l) (hB : B' ≤ B) : OwP w B' v l := by
  refine ⟨h.1, ?_⟩
  rcases h.2 with h1 | ⟨g, cp, cur, hv, h0, r⟩
  · exact Or.inl h1
  · exact Or.inr ⟨g, cp, cur, hv, Nat.le_trans hB h0, r⟩
theorem ptVs_snoc (l : List (Int × Int)) (c : Int × Int) : ptVs (l ++ [c]) = ptVs l ++ [.int .i64 c.1, .int .i64 c.2] := by simp [ptVs]
end Go.Proofs.Ytaapkngpnlnjeaa
