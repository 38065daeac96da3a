/- prefix.Read, and the reader's other methods: contracts. -/
import Derived.Test.YtbliddmkmieppaaDoorRdr
import Derived.Deep.RegionWith
import Derived.BigRegion
namespace Go.Proofs.YtbliddmkmieppaaDoor
open Go.RowKit

/-- fault.Of and fault.At. -/
def numErr (c : Int) : Value := if c = 0 then .nilIface else .iface 45 (.int .i64 c)
theorem of_zero (w : World) : Calls Tryd.prog 39 #[.int .i64 0] w fun e w' => e = .returned .nilIface ∧ w = w' := by
  go_enter Tryd.func39, Tryd.ntmps39
  go_wp2
  go_ret
  exact ⟨rfl, rfl⟩
theorem of_more (c : Int) (h : c ≠ 0) (w : World) : Calls Tryd.prog 39 #[.int .i64 c] w fun e w' => e = .returned (.iface 45 (.int .i64 c)) ∧ w = w' := by
  have h' : (c == 0) = false := by simpa using h
  go_enter Tryd.func39, Tryd.ntmps39
  go_wp2
  go_ret
  exact ⟨rfl, rfl⟩
theorem atp_nil (s : ByteArray) (n : Int) (w : World) :
    Calls Tryd.prog 38 #[.string s, .int .i64 n, .nilIface] w fun e w' => e = .returned .nilIface ∧ w = w' := by
  go_enter Tryd.func38, Tryd.ntmps38
  go_wp2
  go_ret
  exact ⟨rfl, rfl⟩
theorem atp_some (s : ByteArray) (n : Int) (T : TypeId) (y : Value) (w : World) :
    Calls Tryd.prog 38 #[.string s, .int .i64 n, .iface T y] w fun e w' => e = .returned (.iface 53 (.pointer (some ⟨w.heap.size, 0, none⟩))) ∧ w.alloc (.cells #[.string s, .int .i64 n, .iface T y] 57) = w' := by
  go_enter Tryd.func38, Tryd.ntmps38
  go_wp2
  go_ret
  exact ⟨rfl, rfl⟩

theorem failure_none {rb : Nat} {bs : List Int} {pos : Nat} {wr : Int} (w : World) (h : Rdr w rb bs pos wr) :
    Calls Tryd.prog 29 #[.pointer (some ⟨rb, 0, none⟩), .int .i64 0] w fun e w' => e = .returned .nilIface ∧ ∃ q, w' = w.drewN q := by
  obtain ⟨B, v, h1, _⟩ := h
  have hc := cell_in h1 1
  simp at hc
  clear h1
  go_enter Tryd.func29, Tryd.ntmps29
  go_wp2
  go_quiet (first | (go_at_call 39; exact quietly of_zero _ _) | (go_at_call 38; exact quietly (atp_nil _ _) _ _))
  go_wp2
  go_ret
  exact ⟨rfl, _, rfl⟩
/-- The error's block. -/
def faultAt (pos : Nat) (n : Int) : Obj := .cells #[.string ⟨#[98, 121, 116, 101]⟩, .int .i64 (pos : Int), .iface 45 (.int .i64 n)] 57
theorem failure_some {rb : Nat} {bs : List Int} {pos : Nat} {wr : Int} (n : Int) (hn : n ≠ 0) (w : World) (h : Rdr w rb bs pos wr) :
    Calls Tryd.prog 29 #[.pointer (some ⟨rb, 0, none⟩), .int .i64 n] w fun e w' => e = .returned (.iface 53 (.pointer (some ⟨w.heap.size, 0, none⟩))) ∧ ∃ q, w' = (w.alloc (faultAt pos n)).drewN q := by
  obtain ⟨B, v, h1, _⟩ := h
  have hc := cell_in h1 1
  simp at hc
  clear h1
  go_enter Tryd.func29, Tryd.ntmps29
  go_wp2
  go_region_with (first | (go_at_call 39; refine (of_more n hn _).mono ?_; rintro e w' ⟨rfl, rfl⟩) | (go_at_call 38; refine (atp_some _ _ _ _ _).mono ?_; rintro e w' ⟨rfl, rfl⟩))
  all_goals go_wp2
  all_goals go_ret
  all_goals exact ⟨rfl, 1, rfl⟩
theorem err_nil (w : World) :
    Calls Tryd.prog 16 #[.pointer none] w fun e w' => e = .returned (.iface 45 (.int .i64 1)) ∧ w = w' := by
  go_enter Tryd.func16, Tryd.ntmps16
  go_wp2
  go_ret
  exact ⟨rfl, rfl⟩
theorem err_none {rb : Nat} {bs : List Int} {pos : Nat} (w : World) (h : Rdr w rb bs pos 0) :
    Calls Tryd.prog 16 #[.pointer (some ⟨rb, 0, none⟩)] w fun e w' => e = .returned .nilIface ∧ ∃ q, w' = w.drewN q := by
  have HF := Lib.hid (failure_none w h)
  obtain ⟨B, v, h1, _⟩ := h
  have hc := cell_in h1 2
  simp at hc
  clear h1
  go_enter Tryd.func16, Tryd.ntmps16
  go_wp2_with fail
  refine HF.out.mono ?_
  rintro e w' ⟨rfl, q, rfl⟩
  go_wp2
  go_ret
  exact ⟨rfl, _, rfl⟩
theorem err_some {rb : Nat} {bs : List Int} {pos : Nat} {wr : Int} (hw : wr ≠ 0) (w : World) (h : Rdr w rb bs pos wr) :
    Calls Tryd.prog 16 #[.pointer (some ⟨rb, 0, none⟩)] w fun e w' => e = .returned (.iface 53 (.pointer (some ⟨w.heap.size, 0, none⟩))) ∧ ∃ q, w' = (w.alloc (faultAt pos wr)).drewN q := by
  have HF := Lib.hid (failure_some wr hw w h)
  obtain ⟨B, v, h1, _⟩ := h
  have hc := cell_in h1 2
  simp at hc
  clear h1
  go_enter Tryd.func16, Tryd.ntmps16
  go_wp2_with fail
  refine HF.out.mono ?_
  rintro e w' ⟨rfl, q, rfl⟩
  go_wp2
  go_ret
  exact ⟨rfl, _, rfl⟩
theorem end_nil (w : World) :
    Calls Tryd.prog 17 #[.pointer none] w fun e w' => e = .returned (.iface 45 (.int .i64 1)) ∧ w = w' := by
  go_enter Tryd.func17, Tryd.ntmps17
  go_wp2_with fail
  refine (err_nil _).mono ?_
  rintro e w' ⟨rfl, rfl⟩
  go_wp2
  go_ret
  exact ⟨rfl, rfl⟩
theorem end_some {rb : Nat} {bs : List Int} {pos : Nat} {wr : Int} (hw : wr ≠ 0) (w : World) (h : Rdr w rb bs pos wr) :
    Calls Tryd.prog 17 #[.pointer (some ⟨rb, 0, none⟩)] w fun e w' => e = .returned (.iface 53 (.pointer (some ⟨w.heap.size, 0, none⟩))) ∧ ∃ q, w' = (w.alloc (faultAt pos wr)).drewN q := by
  have HF := Lib.hid (err_some hw w h)
  clear h
  go_enter Tryd.func17, Tryd.ntmps17
  go_wp2_with fail
  refine HF.out.mono ?_
  rintro e w' ⟨rfl, q, rfl⟩
  go_wp2
  go_ret
  exact ⟨rfl, _, rfl⟩
theorem end_done {rb : Nat} {bs : List Int} (w : World) (h : Rdr w rb bs bs.length 0) :
    Calls Tryd.prog 17 #[.pointer (some ⟨rb, 0, none⟩)] w fun e w' => e = .returned .nilIface ∧ ∃ q, w' = w.drewN q := by
  have HE := Lib.hid (err_none w h)
  have HL := Lib.hid (fun q => left_any (w.drewN q) h.drewN)
  rw [show (bs.length : Int) - (bs.length : Int) = 0 by omega] at HL
  clear h
  go_enter Tryd.func17, Tryd.ntmps17
  go_wp2_with fail
  refine HE.out.mono ?_
  rintro e w' ⟨rfl, q, rfl⟩
  go_wp2_with fail
  refine (HL.out q).mono ?_
  rintro e w' ⟨rfl, q', rfl⟩
  go_wp2
  go_ret
  exact ⟨rfl, _, rfl⟩
theorem end_left {rb : Nat} {bs : List Int} {pos : Nat} (hp : pos < bs.length) (w : World) (h : Rdr w rb bs pos 0) :
    Calls Tryd.prog 17 #[.pointer (some ⟨rb, 0, none⟩)] w fun e w' => e = .returned (.iface 53 (.pointer (some ⟨w.heap.size, 0, none⟩))) ∧ ∃ q, w' = (w.alloc (faultAt pos 5)).drewN q := by
  have HE := Lib.hid (err_none w h)
  have HL := Lib.hid (fun q => left_any (w.drewN q) h.drewN)
  have HF := Lib.hid (fun q => failure_some 5 (by decide) (w.drewN q) h.drewN)
  have hl : bs.length ≤ 1000000000 := by obtain ⟨_, _, _, _, _, _, h⟩ := h; exact h
  clear h
  go_enter Tryd.func17, Tryd.ntmps17
  go_wp2_with fail
  refine HE.out.mono ?_
  rintro e w' ⟨rfl, q, rfl⟩
  go_wp2_with fail
  refine (HL.out q).mono ?_
  rintro e w' ⟨rfl, q', rfl⟩
  rw [World.drewN_drewN]
  go_wp2_with fail
  refine (HF.out _).mono ?_
  rintro e w' ⟨rfl, q'', rfl⟩
  go_wp2
  go_ret
  exact ⟨rfl, _, (World.drewN_drewN (w.alloc (faultAt pos 5)) (q + q') q'')⟩
theorem uint_nil (w : World) :
    Calls Tryd.prog 6 #[.pointer none] w fun e w' => e = .returned (.int .u64 0) ∧ w = w' := by
  go_enter Tryd.func6, Tryd.ntmps6
  go_wp2_with fail
  refine (upto_nil _ _).mono ?_
  rintro e w' ⟨rfl, rfl⟩
  go_wp2
  go_ret
  exact ⟨rfl, rfl⟩
theorem int_nil (w : World) :
    Calls Tryd.prog 8 #[.pointer none] w fun e w' => e = .returned (.int .i64 0) ∧ w = w' := by
  go_enter Tryd.func8, Tryd.ntmps8
  go_wp2_with fail
  refine (uint_nil _).mono ?_
  rintro e w' ⟨rfl, rfl⟩
  go_wp2_with fail
  refine (open_any 0 (by decide) (by decide) _).mono ?_
  rintro e w' ⟨rfl, rfl⟩
  go_wp2
  go_ret
  exact ⟨rfl, rfl⟩
theorem uint_stopped {rb : Nat} {bs : List Int} {pos : Nat} {wr : Int} (w : World) (h : Rdr w rb bs pos wr) (hw : wr ≠ 0) :
    Calls Tryd.prog 6 #[.pointer (some ⟨rb, 0, none⟩)] w fun e w' => e = .returned (.int .u64 0) ∧ w = w' := by
  have HU := Lib.hid (upto_stopped 18446744073709551615 w h hw)
  clear h hw
  go_enter Tryd.func6, Tryd.ntmps6
  go_wp2_with fail
  refine HU.out.mono ?_
  rintro e w' ⟨rfl, rfl⟩
  go_wp2
  go_ret
  exact ⟨rfl, rfl⟩
theorem int_stopped {rb : Nat} {bs : List Int} {pos : Nat} {wr : Int} (w : World) (h : Rdr w rb bs pos wr) (hw : wr ≠ 0) :
    Calls Tryd.prog 8 #[.pointer (some ⟨rb, 0, none⟩)] w fun e w' => e = .returned (.int .i64 0) ∧ w = w' := by
  have HU := Lib.hid (uint_stopped w h hw)
  clear h hw
  go_enter Tryd.func8, Tryd.ntmps8
  go_wp2_with fail
  refine HU.out.mono ?_
  rintro e w' ⟨rfl, rfl⟩
  go_wp2_with fail
  refine (open_any 0 (by decide) (by decide) _).mono ?_
  rintro e w' ⟨rfl, rfl⟩
  go_wp2
  go_ret
  exact ⟨rfl, rfl⟩
/-- The greatest number of 64 bits. -/
def top : Int := 18446744073709551615
theorem uint_any {rb : Nat} {bs : List Int} {pos : Nat} (w : World) (h : Rdr w rb bs pos 0) (hb : ∀ z ∈ bs, 0 ≤ z ∧ z ≤ 255) :
    Calls Tryd.prog 6 #[.pointer (some ⟨rb, 0, none⟩)] w fun e w' =>
      e = .returned (.int .u64 (upto bs pos top).1) ∧ Rdr w' rb bs (upto bs pos top).2.1 (upto bs pos top).2.2 ∧ Only rb w w' := by
  have HU := Lib.hid (upto_any 18446744073709551615 w h hb)
  clear h hb
  rw [show (18446744073709551615 : Int) = top from rfl] at HU
  generalize upto bs pos top = U at *
  go_enter Tryd.func6, Tryd.ntmps6
  go_wp2_with fail
  refine HU.out.mono ?_
  rintro e w' ⟨rfl, h1, h2⟩
  have H1 := Lib.hid h1
  have H2 := Lib.hid h2
  clear h1 h2
  go_wp2
  go_ret
  exact ⟨rfl, H1.out, H2.out⟩
theorem upto_range {bs : List Int} {pos : Nat} {most : Int} (hb : ∀ z ∈ bs, 0 ≤ z ∧ z ≤ 255) : 0 ≤ (upto bs pos most).1 ∧ (upto bs pos most).1 ≤ 18446744073709551615 := by
  obtain ⟨h1, h2, _⟩ := dec_range (bs.drop pos) (fun z hz => hb z (List.mem_of_mem_drop hz))
  unfold upto
  (repeat' split) <;> simp <;> omega
theorem int_any {rb : Nat} {bs : List Int} {pos : Nat} (w : World) (h : Rdr w rb bs pos 0) (hb : ∀ z ∈ bs, 0 ≤ z ∧ z ≤ 255) :
    Calls Tryd.prog 8 #[.pointer (some ⟨rb, 0, none⟩)] w fun e w' =>
      e = .returned (.int .i64 (opn (upto bs pos top).1)) ∧ Rdr w' rb bs (upto bs pos top).2.1 (upto bs pos top).2.2 ∧ Only rb w w' := by
  have HU := Lib.hid (uint_any w h hb)
  obtain ⟨r0, r1⟩ := upto_range (pos := pos) (most := top) hb
  clear h hb
  generalize upto bs pos top = U at *
  go_enter Tryd.func8, Tryd.ntmps8
  go_wp2_with fail
  refine HU.out.mono ?_
  rintro e w' ⟨rfl, h1, h2⟩
  have H1 := Lib.hid h1
  have H2 := Lib.hid h2
  clear h1 h2
  go_wp2_with fail
  refine (open_any U.1 r0 r1 _).mono ?_
  rintro e w' ⟨rfl, rfl⟩
  go_wp2
  go_ret
  exact ⟨rfl, H1.out, H2.out⟩
theorem bytes_nil (n : Int) (w : World) :
    Calls Tryd.prog 12 #[.pointer none, .int .i64 n] w fun e w' => e = .returned (.slice none 0 0) ∧ w = w' := by
  go_enter Tryd.func12, Tryd.ntmps12
  go_wp2_with fail
  refine (stopped_nil _).mono ?_
  rintro e w' ⟨rfl, rfl⟩
  go_wp2
  go_ret
  exact ⟨rfl, rfl⟩
/-- prefix.Read: a reader of a row. -/
theorem read_any (B : Nat) (a : Option Addr) (c : Nat) (bs : List Int) (w : World) (hl : bs.length ≤ 1000000000) (hr : Row .u8 w B a bs) :
    Calls Tryd.prog 5 #[.slice a bs.length c] w fun e w' => ∃ rb, e = .returned (.pointer (some ⟨rb, 0, none⟩)) ∧ w.heap.size ≤ rb ∧ Rdr w' rb bs 0 0 ∧ Below w.heap.size w w' ∧ w'.heap.size = rb + 1 := by
  have HC := Lib.hid (clone_any B a c bs w hl hr)
  clear hr
  go_enter Tryd.func5, Tryd.ntmps5
  go_wp2_with fail
  refine HC.out.mono ?_
  rintro e w1 ⟨v1, rfl, ho, hb⟩
  have HO := Lib.hid ho
  have HB := Lib.hid hb
  obtain ⟨a1, c1, rfl, _⟩ := ho.row
  clear ho hb
  go_wp2
  go_ret
  refine ⟨w1.heap.size, rfl, HB.out.size, ?_, HB.out.alloc HB.out.size _, by simp⟩
  exact ⟨w.heap.size, _, heap_alloc_new w1 _, World.ownsRow.alloc HO.out _, fun k hk => (HO.out.lt k hk).2, by omega, hl⟩
end Go.Proofs.YtbliddmkmieppaaDoor
