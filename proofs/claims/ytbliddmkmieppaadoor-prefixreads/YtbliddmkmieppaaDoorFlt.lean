/- Package fault, but for its texts: what At, Of, Code, First, Is, Unwrap and errors.New answer: contracts, used by the laws' proofs. -/
import Derived.Test.YtbliddmkmieppaaDoorAs8
import Derived.Test.YtbliddmkmieppaaDoorIs
namespace Go.Proofs.YtbliddmkmieppaaDoor
open Go.RowKit Go.Extern.Stop Go.Stop Go.Extern

theorem at_nil (s : ByteArray) (n : Int) (w : World) :
    Calls Tryd.prog 38 #[.string s, .int .i64 n, .nilIface] w fun e w' => e = .returned .nilIface ∧ w = w' := by
  go_enter Tryd.func38, Tryd.ntmps38
  go_wp2
  go_ret
  exact ⟨rfl, rfl⟩

theorem at_some (s : ByteArray) (n : Int) (T : TypeId) (y : Value) (w : World) :
    Calls Tryd.prog 38 #[.string s, .int .i64 n, .iface T y] w fun e w' => e = .returned (.iface 53 (.pointer (some ⟨w.heap.size, 0, none⟩))) ∧ w.alloc (.cells #[.string s, .int .i64 n, .iface T y] 57) = w' := by
  go_enter Tryd.func38, Tryd.ntmps38
  go_wp2
  go_ret
  exact ⟨rfl, rfl⟩

/-- A number as an error. -/
def ofNum (c : Int) : Value := if c = 0 then .nilIface else .iface 45 (.int .i64 c)

theorem of_num (c : Int) (w : World) :
    Calls Tryd.prog 39 #[.int .i64 c] w fun e w' => e = .returned (ofNum c) ∧ w = w' := by
  unfold ofNum
  by_cases h : c = 0
  · subst h
    go_enter Tryd.func39, Tryd.ntmps39
    go_wp2
    go_ret
    exact ⟨rfl, rfl⟩
  · have h' : (c == 0) = false := by simpa using h
    rw [if_neg h]
    go_enter Tryd.func39, Tryd.ntmps39
    go_wp2
    go_ret
    exact ⟨rfl, rfl⟩

theorem unwrap_nil (w : World) :
    Calls Tryd.prog 64 #[.pointer none] w fun e w' => e = .returned .nilIface ∧ w = w' := by
  go_enter Tryd.func64, Tryd.ntmps64
  go_wp2
  go_ret
  exact ⟨rfl, rfl⟩

theorem unwrap_some (b : Nat) (x : Value) (w : World) (h : w.cell? ⟨b, 2, none⟩ = some x) :
    Calls Tryd.prog 64 #[.pointer (some ⟨b, 0, none⟩)] w fun e w' => e = .returned x ∧ w = w' := by
  go_enter Tryd.func64, Tryd.ntmps64
  go_wp2
  go_ret
  exact ⟨rfl, rfl⟩

theorem code_nil (w : World) :
    Calls Tryd.prog 28 #[.nilIface] w fun e w' => e = .returned (.int .i64 0) ∧ w = w' := by
  go_enter Tryd.func28, Tryd.ntmps28
  go_wp2
  go_ret
  exact ⟨rfl, rfl⟩

/-- errors.errorType holds the handle of the type error. -/
def TypeLaid (w : World) : Prop := w.cell? ⟨0, 0, none⟩ = some (.iface 80 (.agg #[.pointer (some ⟨1, 39, none⟩)]))
theorem TypeLaid.later {w w' : World} (h : TypeLaid w) (hb : Below w.heap.size w w') : TypeLaid w' := by
  have hl : 0 < w.heap.size := block_lt h
  unfold TypeLaid
  rw [hb.cell (p := ⟨0, 0, none⟩) hl]; exact h

theorem below_set_new {w w' : World} {o : Obj} {u : Value} (h : Below (w.alloc o).heap.size ((w.alloc o).setCell ⟨w.heap.size, 0, none⟩ u) w') : Below w.heap.size w w' :=
  ((below_alloc w o).setCell (p := ⟨w.heap.size, 0, none⟩) (Nat.le_refl _) u).trans (h.mono (by simp))

set_option maxHeartbeats 1000000 in
theorem code_num (c : Int) (l : List (Nat × ByteArray × Int)) (v : Value) (w : World) (hg : TypeLaid w)
    (hch : Chain w (.iface 45 (.int .i64 c)) l v) :
    Calls Tryd.prog 28 #[v] w fun e w' => e = .returned (.int .i64 c) ∧ Below w.heap.size w w' := by
  have hg1 := hg.later (below_alloc w (.cells #[.int .i64 0] 45))
  have hch1 := hch.later (below_alloc w (.cells #[.int .i64 0] 45))
  have ht : (w.alloc (.cells #[.int .i64 0] 45)).cell? ⟨w.heap.size, 0, none⟩ = some (.int .i64 0) := by simp
  have hf : (w.alloc (.cells #[.int .i64 0] 45)).frozen? ⟨w.heap.size, 0, none⟩ = false := by simp
  have hset : ((w.alloc (.cells #[.int .i64 0] 45)).setCell ⟨w.heap.size, 0, none⟩ (.int .i64 c)).cell? ⟨w.heap.size, 0, none⟩ = some (.int .i64 c) := World.cell?_setCell_same _ _ _ ht
  obtain ⟨T, y, rfl⟩ : ∃ T y, v = .iface T y := by
    match l, hch with
    | [], h5 => exact ⟨_, _, h5⟩
    | (_, _, _) :: _, ⟨h, _⟩ => exact ⟨_, _, h⟩
  have H := Lib.hid (as8E T y ⟨w.heap.size, 0, none⟩ (.int .i64 0) (w.alloc (.cells #[.int .i64 0] 45)) (fun e w' => e = .returned (.bool true) ∧ Below (w.alloc (.cells #[.int .i64 0] 45)).heap.size ((w.alloc (.cells #[.int .i64 0] 45)).setCell ⟨w.heap.size, 0, none⟩ (.int .i64 c)) w') hg1 ht (fun b0 W hW hb0 => by
    refine (as23E c ⟨w.heap.size, 0, none⟩ b0 (.int .i64 0) l (.iface T y) W (hch1.later hW) (by rw [hW.cell (p := ⟨w.heap.size, 0, none⟩) (by simp)]; exact ht) (by rw [hW.frozen (p := ⟨w.heap.size, 0, none⟩) (by simp)]; exact hf) hb0).mono ?_
    rintro e w' ⟨rfl, hb⟩
    exact ⟨true, rfl, rfl, (below_setBoth hW _ _).trans (hb.mono hW.size)⟩))
  clear hch hg hg1 hch1 ht hf
  go_enter Tryd.func28, Tryd.ntmps28
  go_wp2_with fail
  refine H.out.mono ?_
  rintro e w' ⟨rfl, hb⟩
  have hc : w'.cell? ⟨w.heap.size, 0, none⟩ = some (.int .i64 c) := by rw [hb.cell (p := ⟨w.heap.size, 0, none⟩) (by simp)]; exact hset
  have Hb := Lib.hid hb
  clear hb hset
  go_wp2
  go_ret
  exact ⟨rfl, below_set_new Hb.out⟩

/-- Whether an error of number c is of the number z. -/
def numIs (c z : Int) : Bool := !(z == 0) && (c == z)

end Go.Proofs.YtbliddmkmieppaaDoor
