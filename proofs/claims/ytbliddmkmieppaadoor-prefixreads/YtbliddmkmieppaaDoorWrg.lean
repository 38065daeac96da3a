/- The statement's own 'wrong', and the reader's errors as values: contracts. -/
import Derived.Test.YtbliddmkmieppaaDoorRds2
import Derived.Test.YtbliddmkmieppaaDoorFlt
import Derived.Test.YtbliddmkmieppaaDoorCls
namespace Go.Proofs.YtbliddmkmieppaaDoor
open Go.RowKit Go.Extern.Stop Go.Stop Go.Extern

/-- An error of a reader: none, or a Fault of byte, at a place, with a number. -/
def ErrIs (w : World) (ev : Value) (c : Int) (pos : Nat) : Prop :=
  (c = 0 ∧ ev = .nilIface) ∨ (c ≠ 0 ∧ ∃ b, ev = .iface 53 (.pointer (some ⟨b, 0, none⟩)) ∧ w.heap[b]? = some (faultAt pos c))
theorem ErrIs.later {w w' : World} {ev : Value} {c : Int} {pos : Nat} (h : ErrIs w ev c pos) (hb : Below w.heap.size w w') : ErrIs w' ev c pos := by
  rcases h with h | ⟨h1, b, h2, h3⟩
  · exact .inl h
  · exact .inr ⟨h1, b, h2, by rw [hb.block b (Array.getElem?_eq_some_iff.1 h3).1]; exact h3⟩
theorem below_setNew {w w' : World} {o : Obj} {u : Value} (h : Below (w.alloc o).heap.size ((w.alloc o).setCell ⟨w.heap.size, 0, none⟩ u) w') : Below w.heap.size w w' :=
  ((below_alloc w o).setCell (p := ⟨w.heap.size, 0, none⟩) (Nat.le_refl _) u).trans (h.mono (by simp))

set_option maxRecDepth 100000 in
set_option maxHeartbeats 1000000 in
theorem wrong_some (b pos : Nat) (c : Int) (hc : c ≠ 0) (w : World) (hty : TypeLaid w) (h : w.heap[b]? = some (faultAt pos c)) :
    Calls Tryd.prog 15 #[.iface 53 (.pointer (some ⟨b, 0, none⟩)), .int .i64 c, .int .i64 (pos : Int)] w fun e w' => e = .returned (.bool true) ∧ Below w.heap.size w w' := by
  have hcb : (c == 0) = false := by simpa using hc
  have hbl := (Array.getElem?_eq_some_iff.1 h).1
  have HY := Lib.hid hty
  have HH := Lib.hid h
  have hty1 := hty.later (below_alloc w (.cells #[.pointer none] 53))
  have ht : (w.alloc (.cells #[.pointer none] 53)).cell? ⟨w.heap.size, 0, none⟩ = some (.pointer none) := by simp
  have hf : (w.alloc (.cells #[.pointer none] 53)).frozen? ⟨w.heap.size, 0, none⟩ = false := by simp
  have hset : ((w.alloc (.cells #[.pointer none] 53)).setCell ⟨w.heap.size, 0, none⟩ (.pointer (some ⟨b, 0, none⟩))).cell? ⟨w.heap.size, 0, none⟩ = some (.pointer (some ⟨b, 0, none⟩)) := World.cell?_setCell_same _ _ _ ht
  have H := Lib.hid (as8F 53 (.pointer (some ⟨b, 0, none⟩)) ⟨w.heap.size, 0, none⟩ (.pointer none) (w.alloc (.cells #[.pointer none] 53)) (fun e w' => e = .returned (.bool true) ∧ Below (w.alloc (.cells #[.pointer none] 53)).heap.size ((w.alloc (.cells #[.pointer none] 53)).setCell ⟨w.heap.size, 0, none⟩ (.pointer (some ⟨b, 0, none⟩))) w') hty1 ht (fun b0 W hW hb0 => by
    refine (as23F ⟨b, 0, none⟩ ⟨w.heap.size, 0, none⟩ b0 (.pointer none) W (by rw [hW.cell (p := ⟨w.heap.size, 0, none⟩) (by simp)]; exact ht) (by rw [hW.frozen (p := ⟨w.heap.size, 0, none⟩) (by simp)]; exact hf) hb0).mono ?_
    rintro e w' ⟨rfl, hb⟩
    exact ⟨true, rfl, rfl, (below_setBoth hW _ _).trans (hb.mono hW.size)⟩))
  have HSET := Lib.hid hset
  clear hc hty h hty1 ht hf hset
  go_enter Tryd.func15, Tryd.ntmps15
  go_wp2_with fail
  refine H.out.mono ?_
  rintro e w1 ⟨rfl, hb⟩
  have hfc : w1.cell? ⟨w.heap.size, 0, none⟩ = some (.pointer (some ⟨b, 0, none⟩)) := by rw [hb.cell (p := ⟨w.heap.size, 0, none⟩) (by simp)]; exact HSET.out
  have HB := Lib.hid (below_setNew hb)
  have hh1 : w1.heap[b]? = some (faultAt pos c) := by rw [HB.out.block b hbl]; exact HH.out
  have g0 := cell_in hh1 0
  have g1 := cell_in hh1 1
  have g2 := cell_in hh1 2
  simp at g0 g1 g2
  have hch : Chain w1 (.iface 45 (.int .i64 c)) [(b, ⟨#[98, 121, 116, 101]⟩, (pos : Int))] (.iface 53 (.pointer (some ⟨b, 0, none⟩))) := ⟨rfl, g0, g1, _, g2, rfl⟩
  have HC := Lib.hid (code_num c _ _ w1 (HY.out.later HB.out) hch)
  clear hb hh1 hch g2
  go_wp2_with fail
  refine HC.out.mono ?_
  rintro e w2 ⟨rfl, hb⟩
  have HB2 := Lib.hid (HB.out.trans (hb.mono HB.out.size))
  clear hb hfc g0 g1
  go_wp2
  go_ret
  exact ⟨rfl, HB2.out⟩
theorem wrong_none (f : Int) (w : World) :
    Calls Tryd.prog 15 #[.nilIface, .int .i64 0, .int .i64 f] w fun e w' => e = .returned (.bool true) ∧ Below w.heap.size w w' := by
  go_enter Tryd.func15, Tryd.ntmps15
  go_wp2
  go_ret
  exact ⟨rfl, below_alloc w _⟩
theorem wrong_any (ev : Value) (c : Int) (pos f : Nat) (w : World) (hty : TypeLaid w) (h : ErrIs w ev c pos) (hf : c ≠ 0 → f = pos) :
    Calls Tryd.prog 15 #[ev, .int .i64 c, .int .i64 (f : Int)] w fun e w' => e = .returned (.bool true) ∧ Below w.heap.size w w' := by
  rcases h with ⟨rfl, rfl⟩ | ⟨h1, b, rfl, h3⟩
  · exact wrong_none _ w
  · obtain rfl := hf h1
    exact wrong_some b f c h1 w hty h3

theorem err_v {rb : Nat} {bs : List Int} {pos : Nat} {er : Int} (w : World) (h : Rdr w rb bs pos er) :
    Calls Tryd.prog 16 #[.pointer (some ⟨rb, 0, none⟩)] w fun e w' => ∃ ev, e = .returned ev ∧ ErrIs w' ev er pos ∧ Below w.heap.size w w' := by
  by_cases he : er = 0
  · subst he
    refine (err_none w h).mono ?_
    rintro e w' ⟨rfl, q, rfl⟩
    exact ⟨_, rfl, .inl ⟨rfl, rfl⟩, below_drewN (Below.refl _ _) _⟩
  · refine (err_some he w h).mono ?_
    rintro e w' ⟨rfl, q, rfl⟩
    exact ⟨_, rfl, .inr ⟨he, _, rfl, heap_alloc_new w _⟩, below_drewN (below_alloc w _) _⟩
/-- The number of End's error. -/
def endC (er : Int) (pos len : Nat) : Int := if er = 0 then (if pos < len then 5 else 0) else er
theorem end_v {rb : Nat} {bs : List Int} {pos : Nat} {er : Int} (w : World) (h : Rdr w rb bs pos er) :
    Calls Tryd.prog 17 #[.pointer (some ⟨rb, 0, none⟩)] w fun e w' => ∃ ev, e = .returned ev ∧ ErrIs w' ev (endC er pos bs.length) pos ∧ Below w.heap.size w w' := by
  unfold endC
  by_cases he : er = 0
  · subst he
    rw [if_pos rfl]
    by_cases hp : pos < bs.length
    · rw [if_pos hp]
      refine (end_left hp w h).mono ?_
      rintro e w' ⟨rfl, q, rfl⟩
      exact ⟨_, rfl, .inr ⟨by decide, _, rfl, heap_alloc_new w _⟩, below_drewN (below_alloc w _) _⟩
    · rw [if_neg hp]
      have hpl : pos = bs.length := by obtain ⟨_, _, _, _, _, h4, _⟩ := h; omega
      subst hpl
      refine (end_done w h).mono ?_
      rintro e w' ⟨rfl, q, rfl⟩
      exact ⟨_, rfl, .inl ⟨rfl, rfl⟩, below_drewN (Below.refl _ _) _⟩
  · rw [if_neg he]
    refine (end_some he w h).mono ?_
    rintro e w' ⟨rfl, q, rfl⟩
    exact ⟨_, rfl, .inr ⟨he, _, rfl, heap_alloc_new w _⟩, below_drewN (below_alloc w _) _⟩
end Go.Proofs.YtbliddmkmieppaaDoor
