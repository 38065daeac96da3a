/- Package fault, but for its texts: what At, Of, Code, First, Is, Unwrap and errors.New answer: contracts, used by the laws' proofs. -/
import Derived.Test.YtjafmnhnemdedaaDoorAs8
import Derived.Test.YtjafmnhnemdedaaDoorIs
namespace Go.Proofs.YtjafmnhnemdedaaDoor
open Go.RowKit Go.Extern.Stop Go.Stop Go.Extern

theorem at_nil (s : ByteArray) (n : Int) (w : World) :
    Calls Tryd.prog 7 #[.string s, .int .i64 n, .nilIface] w fun e w' => e = .returned .nilIface ∧ w = w' := by
  go_enter Tryd.func7, Tryd.ntmps7
  go_wp2
  go_ret
  exact ⟨rfl, rfl⟩

theorem at_some (s : ByteArray) (n : Int) (T : TypeId) (y : Value) (w : World) :
    Calls Tryd.prog 7 #[.string s, .int .i64 n, .iface T y] w fun e w' => e = .returned (.iface 31 (.pointer (some ⟨w.heap.size, 0, none⟩))) ∧ w.alloc (.cells #[.string s, .int .i64 n, .iface T y] 35) = w' := by
  go_enter Tryd.func7, Tryd.ntmps7
  go_wp2
  go_ret
  exact ⟨rfl, rfl⟩

/-- A number as an error. -/
def ofNum (c : Int) : Value := if c = 0 then .nilIface else .iface 24 (.int .i64 c)

theorem of_num (c : Int) (w : World) :
    Calls Tryd.prog 6 #[.int .i64 c] w fun e w' => e = .returned (ofNum c) ∧ w = w' := by
  unfold ofNum
  by_cases h : c = 0
  · subst h
    go_enter Tryd.func6, Tryd.ntmps6
    go_wp2
    go_ret
    exact ⟨rfl, rfl⟩
  · have h' : (c == 0) = false := by simpa using h
    rw [if_neg h]
    go_enter Tryd.func6, Tryd.ntmps6
    go_wp2
    go_ret
    exact ⟨rfl, rfl⟩

theorem new_err (s : ByteArray) (w : World) :
    Calls Tryd.prog 17 #[.string s] w fun e w' => e = .returned (.iface 70 (.pointer (some ⟨w.heap.size, 0, none⟩))) ∧ w.alloc (.cells #[.string s] 72) = w' := by
  go_enter Tryd.func17, Tryd.ntmps17
  go_wp2
  go_ret
  exact ⟨rfl, rfl⟩

theorem unwrap_nil (w : World) :
    Calls Tryd.prog 10 #[.pointer none] w fun e w' => e = .returned .nilIface ∧ w = w' := by
  go_enter Tryd.func10, Tryd.ntmps10
  go_wp2
  go_ret
  exact ⟨rfl, rfl⟩

theorem unwrap_some (b : Nat) (x : Value) (w : World) (h : w.cell? ⟨b, 2, none⟩ = some x) :
    Calls Tryd.prog 10 #[.pointer (some ⟨b, 0, none⟩)] w fun e w' => e = .returned x ∧ w = w' := by
  go_enter Tryd.func10, Tryd.ntmps10
  go_wp2
  go_ret
  exact ⟨rfl, rfl⟩

theorem code_nil (w : World) :
    Calls Tryd.prog 9 #[.nilIface] w fun e w' => e = .returned (.int .i64 0) ∧ w = w' := by
  go_enter Tryd.func9, Tryd.ntmps9
  go_wp2
  go_ret
  exact ⟨rfl, rfl⟩

/-- errors.errorType holds the handle of the type error. -/
def TypeLaid (w : World) : Prop := w.cell? ⟨0, 0, none⟩ = some (.iface 80 (.agg #[.pointer (some ⟨5, 26, none⟩)]))
theorem TypeLaid.later {w w' : World} (h : TypeLaid w) (hb : Below w.heap.size w w') : TypeLaid w' := by
  have hl : 0 < w.heap.size := block_lt h
  unfold TypeLaid
  rw [hb.cell (p := ⟨0, 0, none⟩) hl]; exact h

theorem below_set_new {w w' : World} {o : Obj} {u : Value} (h : Below (w.alloc o).heap.size ((w.alloc o).setCell ⟨w.heap.size, 0, none⟩ u) w') : Below w.heap.size w w' :=
  ((below_alloc w o).setCell (p := ⟨w.heap.size, 0, none⟩) (Nat.le_refl _) u).trans (h.mono (by simp))

set_option maxHeartbeats 1000000 in
theorem code_num (c : Int) (l : List (Nat × ByteArray × Int)) (v : Value) (w : World) (hg : TypeLaid w)
    (hch : Chain w (.iface 24 (.int .i64 c)) l v) :
    Calls Tryd.prog 9 #[v] w fun e w' => e = .returned (.int .i64 c) ∧ Below w.heap.size w w' := by
  have hg1 := hg.later (below_alloc w (.cells #[.int .i64 0] 24))
  have hch1 := hch.later (below_alloc w (.cells #[.int .i64 0] 24))
  have ht : (w.alloc (.cells #[.int .i64 0] 24)).cell? ⟨w.heap.size, 0, none⟩ = some (.int .i64 0) := by simp
  have hf : (w.alloc (.cells #[.int .i64 0] 24)).frozen? ⟨w.heap.size, 0, none⟩ = false := by simp
  have hset : ((w.alloc (.cells #[.int .i64 0] 24)).setCell ⟨w.heap.size, 0, none⟩ (.int .i64 c)).cell? ⟨w.heap.size, 0, none⟩ = some (.int .i64 c) := World.cell?_setCell_same _ _ _ ht
  obtain ⟨T, y, rfl⟩ : ∃ T y, v = .iface T y := by
    match l, hch with
    | [], h5 => exact ⟨_, _, h5⟩
    | (_, _, _) :: _, ⟨h, _⟩ => exact ⟨_, _, h⟩
  have H := Lib.hid (as8E T y ⟨w.heap.size, 0, none⟩ (.int .i64 0) (w.alloc (.cells #[.int .i64 0] 24)) (fun e w' => e = .returned (.bool true) ∧ Below (w.alloc (.cells #[.int .i64 0] 24)).heap.size ((w.alloc (.cells #[.int .i64 0] 24)).setCell ⟨w.heap.size, 0, none⟩ (.int .i64 c)) w') hg1 ht (fun b0 W hW hb0 => by
    refine (as23E c ⟨w.heap.size, 0, none⟩ b0 (.int .i64 0) l (.iface T y) W (hch1.later hW) (by rw [hW.cell (p := ⟨w.heap.size, 0, none⟩) (by simp)]; exact ht) (by rw [hW.frozen (p := ⟨w.heap.size, 0, none⟩) (by simp)]; exact hf) hb0).mono ?_
    rintro e w' ⟨rfl, hb⟩
    exact ⟨true, rfl, rfl, (below_setBoth hW _ _).trans (hb.mono hW.size)⟩))
  clear hch hg hg1 hch1 ht hf
  go_enter Tryd.func9, Tryd.ntmps9
  go_wp2_with fail
  refine H.out.mono ?_
  rintro e w' ⟨rfl, hb⟩
  have hc : w'.cell? ⟨w.heap.size, 0, none⟩ = some (.int .i64 c) := by rw [hb.cell (p := ⟨w.heap.size, 0, none⟩) (by simp)]; exact hset
  have Hb := Lib.hid hb
  clear hb hset
  go_wp2
  go_ret
  exact ⟨rfl, below_set_new Hb.out⟩

set_option maxHeartbeats 1000000 in
theorem code_none (p : Addr) (l : List (Nat × ByteArray × Int)) (v : Value) (w : World) (hg : TypeLaid w)
    (hch : Chain w (.iface 70 (.pointer (some p))) l v) :
    Calls Tryd.prog 9 #[v] w fun e w' => e = .returned (.int .i64 11) ∧ Below w.heap.size w w' := by
  have hg1 := hg.later (below_alloc w (.cells #[.int .i64 0] 24))
  have hch1 := hch.later (below_alloc w (.cells #[.int .i64 0] 24))
  have ht : (w.alloc (.cells #[.int .i64 0] 24)).cell? ⟨w.heap.size, 0, none⟩ = some (.int .i64 0) := by simp
  obtain ⟨T, y, rfl⟩ : ∃ T y, v = .iface T y := by
    match l, hch with
    | [], h5 => exact ⟨_, _, h5⟩
    | (_, _, _) :: _, ⟨h, _⟩ => exact ⟨_, _, h⟩
  have H := Lib.hid (as8E T y ⟨w.heap.size, 0, none⟩ (.int .i64 0) (w.alloc (.cells #[.int .i64 0] 24)) (fun e w' => e = .returned (.bool false) ∧ Below (w.alloc (.cells #[.int .i64 0] 24)).heap.size (w.alloc (.cells #[.int .i64 0] 24)) w') hg1 ht (fun b0 W hW hb0 => by
    refine (as23E_none p ⟨w.heap.size, 0, none⟩ b0 l (.iface T y) W (hch1.later hW)).mono ?_
    rintro e w' ⟨rfl, hb⟩
    exact ⟨false, rfl, rfl, hW.trans (hb.mono hW.size)⟩))
  clear hch hg hg1 hch1 ht
  go_enter Tryd.func9, Tryd.ntmps9
  go_wp2_with fail
  refine H.out.mono ?_
  rintro e w' ⟨rfl, hb⟩
  have Hb := Lib.hid hb
  clear hb
  go_wp2
  go_ret
  exact ⟨rfl, (below_alloc w _).trans (Hb.out.mono (by simp))⟩

/-- Whether an error of number c is of the number z. -/
def numIs (c z : Int) : Bool := !(z == 0) && (c == z)

theorem isNumber_num (c z : Int) (l : List (Nat × ByteArray × Int)) (v : Value) (w : World) (hch : Chain w (.iface 24 (.int .i64 c)) l v) :
    Calls Tryd.prog 29 #[v, .int .i64 z] w fun e w' => e = .returned (.bool (numIs c z)) ∧ w = w' := by
  unfold numIs
  have H := Lib.hid (is15E c z l v w hch)
  obtain ⟨T, y, rfl⟩ : ∃ T y, v = .iface T y := by
    match l, hch with
    | [], h5 => exact ⟨_, _, h5⟩
    | (_, _, _) :: _, ⟨h, _⟩ => exact ⟨_, _, h⟩
  clear hch
  by_cases h : z = 0
  · subst h
    go_enter Tryd.func29, Tryd.ntmps29
    go_wp2
    go_ret
    exact ⟨rfl, rfl⟩
  · have h' : (z == 0) = false := by simpa using h
    rw [show (!(z == 0) && (c == z)) = (c == z) by rw [h']; simp]
    clear h
    go_enter Tryd.func29, Tryd.ntmps29
    go_wp2_with fail
    refine H.out.mono ?_
    rintro e w' ⟨rfl, rfl⟩
    go_wp2
    go_ret
    exact ⟨rfl, rfl⟩

theorem isNumber_nil (z : Int) (w : World) :
    Calls Tryd.prog 29 #[.nilIface, .int .i64 z] w fun e w' => e = .returned (.bool (z == 0)) ∧ w = w' := by
  by_cases h : z = 0
  · subst h
    go_enter Tryd.func29, Tryd.ntmps29
    go_wp2
    go_ret
    exact ⟨rfl, rfl⟩
  · have h' : (z == 0) = false := by simpa using h
    rw [h']
    clear h
    go_enter Tryd.func29, Tryd.ntmps29
    go_wp2_with fail
    refine (is_nil _ _ _).mono ?_
    rintro e w' ⟨rfl, rfl⟩
    go_wp2
    go_ret
    exact ⟨rfl, rfl⟩

/-- fault.Is, of numbers in a row of their own. -/
theorem is_any (q : Int → Bool) (v : Value) (bk cap : Nat) (zs : List Int) (w : World) (hl : zs.length ≤ 1000)
    (hz : ∀ (j : Nat) z, zs[j]? = some z → w.cell? ⟨bk, j, none⟩ = some (.int .i64 z))
    (hq : ∀ z, Calls Tryd.prog 29 #[v, .int .i64 z] w fun e w' => e = .returned (.bool (q z)) ∧ w = w') :
    Calls Tryd.prog 16 #[v, .slice (some ⟨bk, 0, none⟩) zs.length cap] w fun e w' => e = .returned (.bool (zs.any q)) ∧ w = w' := by
  have HZ := Lib.hid hz
  have HQ := Lib.hid hq
  clear hz hq
  go_enter Tryd.func16, Tryd.ntmps16
  go_wp2
  go_loopg [9] zs.length (fun k i wr => ∃ j : Nat, k = zs.length - j ∧ j ≤ zs.length ∧ i = .int .i64 j ∧ (zs.take j).any q = false ∧ wr = w)
  case atStart => exact ⟨0, by omega, by omega, rfl, by simp, rfl⟩
  case round =>
    obtain ⟨j, hk, hj, rfl, hn, rfl⟩ := hrel
    have HN := Lib.hid hn
    have HK := Lib.hid hk
    clear hn hk
    by_cases hlt : j < zs.length
    · obtain ⟨z, hzj⟩ : ∃ z, zs[j]? = some z := ⟨zs[j], List.getElem?_eq_getElem hlt⟩
      have hc := HZ.out j z hzj
      have HJ := Lib.hid hzj
      clear hzj
      have hs : (zs.take (j + 1)).any q = q z := by
        rw [List.take_add_one, HJ.out, List.any_append, HN.out]; simp
      have HS := Lib.hid hs
      clear hs
      go_wp2_with fail
      refine (HQ.out z).mono ?_
      rintro e w' ⟨rfl, rfl⟩
      cases hqz : q z with
      | true =>
        go_wp2
        go_ret
        refine ⟨?_, rfl⟩
        have : zs.any q = true := by
          rw [← List.take_append_drop (j + 1) zs, List.any_append, HS.out, hqz]; simp
        rw [this]; rfl
      | false =>
        go_wp2
        go_roundg (zs.length - (j + 1))
        case measure => rw [HK.out]; omega
        case rel => exact ⟨j + 1, rfl, by omega, by go_num, by rw [HS.out]; exact hqz, rfl⟩
    · go_wp2
      go_ret
      refine ⟨?_, rfl⟩
      have : zs.any q = false := by rw [← HN.out, List.take_of_length_le (by omega)]
      rw [this]; rfl
end Go.Proofs.YtjafmnhnemdedaaDoor
