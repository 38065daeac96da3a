/- prefix.Reader: what its methods answer: contracts. -/
import Derived.Test.YtbliddmkmieppaaTake
import Derived.Deep.RegionHeld3
namespace Go.Proofs.Ytbliddmkmieppaa
open Go.RowKit

/-- Nothing but block rb has turned. -/
structure Only (rb : Nat) (w w' : World) : Prop where
  os : w'.os = w.os
  tape : w'.tape = w.tape
  output : w'.output = w.output
  size : w'.heap.size = w.heap.size
  block : ∀ k, k ≠ rb → w'.heap[k]? = w.heap[k]?
theorem Only.refl (rb : Nat) (w : World) : Only rb w w := ⟨rfl, rfl, rfl, rfl, fun _ _ => rfl⟩
theorem Only.trans {rb : Nat} {a b c : World} (h : Only rb a b) (k : Only rb b c) : Only rb a c :=
  ⟨k.os.trans h.os, k.tape.trans h.tape, k.output.trans h.output, k.size.trans h.size, fun i hi => (k.block i hi).trans (h.block i hi)⟩
theorem Only.below {rb B : Nat} {w w' : World} (h : Only rb w w') (hB : B ≤ rb) : Below B w w' :=
  ⟨h.os, h.tape, h.output, Nat.le_of_eq h.size.symm, fun k hk => h.block k (by omega)⟩
theorem Only.drewN (rb : Nat) (w : World) (q : Nat) : Only rb w (w.drewN q) := ⟨rfl, rfl, rfl, rfl, fun _ _ => rfl⟩
theorem Only.set (rb : Nat) (w : World) (i : Nat) (u : Value) : Only rb w (w.setCell ⟨rb, i, none⟩ u) :=
  ⟨rfl, rfl, rfl, by simp [World.setCell], fun k hk => Below.heap_setCell w ⟨rb, i, none⟩ u k hk⟩

/-- A reader in block rb: its bytes, how many were consumed, what was wrong. -/
def Rdr (w : World) (rb : Nat) (bs : List Int) (pos : Nat) (wr : Int) : Prop :=
  ∃ B v, w.heap[rb]? = some (.cells #[v, .int .i64 (pos : Int), .int .i64 wr] 52 (0, 0)) ∧ Own w B v bs ∧ (∀ k, v.ownBlock = some k → k < rb) ∧ pos ≤ bs.length ∧ bs.length ≤ 1000000000
theorem cell_in {w : World} {b : Nat} {cs : Array Value} {t : TypeId} (h : w.heap[b]? = some (.cells cs t (0, 0))) (i : Nat) : w.cell? ⟨b, i, none⟩ = cs[i]? := cell_of_row w b i cs t (0, 0) h
theorem frozen_in {w : World} {b : Nat} {cs : Array Value} {t : TypeId} (h : w.heap[b]? = some (.cells cs t (0, 0))) (i : Nat) : w.frozen? ⟨b, i, none⟩ = false := frozen_of_row w b i cs t h
theorem own_same {w w' : World} {B : Nat} {v : Value} {bs : List Int} (h : Own w B v bs) (hb : ∀ k, v.ownBlock = some k → w'.heap[k]? = w.heap[k]?) : Own w' B v bs := by
  refine ⟨h.1, ?_⟩
  rcases h.2 with hn | ⟨g, cap, cur, rfl, h1, h2, h3⟩
  · exact .inl hn
  · exact .inr ⟨g, cap, cur, rfl, h1, by rw [hb g rfl]; exact h2, h3⟩
theorem Rdr.keep {w w' : World} {rb : Nat} {bs : List Int} {pos : Nat} {wr : Int} (h : Rdr w rb bs pos wr) (hb : Below (rb + 1) w w') : Rdr w' rb bs pos wr := by
  obtain ⟨B, v, h1, h2, h3, h4, h5⟩ := h
  exact ⟨B, v, by rw [hb.block rb (by omega)]; exact h1, own_same h2 (fun k hk => hb.block k (by have := h3 k hk; omega)), h3, h4, h5⟩
theorem Rdr.lt {w : World} {rb : Nat} {bs : List Int} {pos : Nat} {wr : Int} (h : Rdr w rb bs pos wr) : rb < w.heap.size := by
  obtain ⟨B, v, h1, _⟩ := h
  exact (Array.getElem?_eq_some_iff.1 h1).1
/-- A store into the reader's place, or its error. -/
theorem Rdr.setPos {w : World} {rb : Nat} {bs : List Int} {pos : Nat} {wr : Int} (h : Rdr w rb bs pos wr) (p : Nat) (hp : p ≤ bs.length) : Rdr (w.setCell ⟨rb, 1, none⟩ (.int .i64 (p : Int))) rb bs p wr := by
  obtain ⟨B, v, h1, h2, h3, h4, h5⟩ := h
  exact ⟨B, v, by rw [heap_setCell_same w rb 1 _ _ _ h1]; rfl, own_same h2 (fun k hk => Below.heap_setCell w _ _ k (by have := h3 k hk; show k ≠ rb; omega)), h3, hp, h5⟩
theorem Rdr.setErr {w : World} {rb : Nat} {bs : List Int} {pos : Nat} {wr : Int} (h : Rdr w rb bs pos wr) (e : Int) : Rdr (w.setCell ⟨rb, 2, none⟩ (.int .i64 e)) rb bs pos e := by
  obtain ⟨B, v, h1, h2, h3, h4, h5⟩ := h
  exact ⟨B, v, by rw [heap_setCell_same w rb 2 _ _ _ h1]; rfl, own_same h2 (fun k hk => Below.heap_setCell w _ _ k (by have := h3 k hk; show k ≠ rb; omega)), h3, h4, h5⟩
theorem Rdr.drewN {w : World} {rb : Nat} {bs : List Int} {pos : Nat} {wr : Int} (h : Rdr w rb bs pos wr) {q : Nat} : Rdr (w.drewN q) rb bs pos wr := h

set_option maxRecDepth 100000 in
/-- What is left to read, as a slice. -/
theorem rest_at {w : World} {B : Nat} {v : Value} {bs : List Int} (h : Own w B v bs) (pos : Nat) (hp : pos ≤ bs.length) (hl : bs.length ≤ 1000000000) :
    ∃ a c, (∀ w, (Instr.slice 22 v (some (.int .i64 (pos : Int))) none none).run Try.prog w = .ok (.slice a (bs.length - pos) c) w) ∧ bs.length - pos ≤ c ∧ c ≤ 9223372036854775807 ∧ Row .u8 w w.heap.size a (bs.drop pos) := by
  have h' := h
  rcases h.2 with ⟨rfl, hn⟩ | ⟨g, cap, cur, rfl, _, hg, h1, h2, _, _⟩
  · obtain rfl := List.eq_nil_of_length_eq_zero hn
    obtain rfl : pos = 0 := by simpa using hp
    exact ⟨none, 0, fun w => by kernel_rfl, by simp, by omega, by simp; exact Row.nil⟩
  · unfold maxLen at h2
    refine ⟨if cap = pos then some ⟨g, 0, none⟩ else some ⟨g, pos, none⟩, cap - pos, fun w => ?_, by omega, by omega, fun j z hz => ?_⟩
    · rw [run_slice_l (P := Try.prog) (w := w) 22 _ _ _ Try.underlying22 .i64 (pos : Int) (by omega) (by omega), show Try.prog.elem 22 = 5 by kernel_rfl, Try.sizeOf5]
      simp [Result.andThen, sliced, add_at]
    · have hj : j < bs.length - pos := by have := (List.getElem?_eq_some_iff.1 hz).1; simpa using this
      rw [if_neg (by omega)]
      refine ⟨g, pos, rfl, (Array.getElem?_eq_some_iff.1 hg).1, ?_⟩
      have := h'.cellAt (pos + j) (by omega)
      rw [this, List.getElem?_map]
      rw [List.getElem?_drop] at hz
      rw [hz]; rfl

theorem stopped_nil (w : World) :
    Calls Try.prog 27 #[.pointer none] w fun e w' => e = .returned (.bool true) ∧ w = w' := by
  go_enter Try.func27, Try.ntmps27
  go_wp2
  go_ret
  exact ⟨rfl, rfl⟩
theorem stopped_any {rb : Nat} {bs : List Int} {pos : Nat} {wr : Int} (w : World) (h : Rdr w rb bs pos wr) :
    Calls Try.prog 27 #[.pointer (some ⟨rb, 0, none⟩)] w fun e w' => e = .returned (.bool (wr != 0)) ∧ w = w' := by
  obtain ⟨B, v, h1, _⟩ := h
  have hc := cell_in h1 2
  simp at hc
  clear h1
  go_enter Try.func27, Try.ntmps27
  go_wp2
  go_ret
  exact ⟨rfl, rfl⟩
theorem left_nil (w : World) :
    Calls Try.prog 18 #[.pointer none] w fun e w' => e = .returned (.int .i64 0) ∧ w = w' := by
  go_enter Try.func18, Try.ntmps18
  go_wp2
  go_ret
  exact ⟨rfl, rfl⟩
theorem left_any {rb : Nat} {bs : List Int} {pos : Nat} {wr : Int} (w : World) (h : Rdr w rb bs pos wr) :
    Calls Try.prog 18 #[.pointer (some ⟨rb, 0, none⟩)] w fun e w' => e = .returned (.int .i64 ((bs.length : Int) - (pos : Int))) ∧ ∃ q, w' = w.drewN q := by
  obtain ⟨B, v, h1, h2, _, h4, h5⟩ := h
  obtain ⟨a, c, rfl, _, _, _⟩ := h2.row
  have hc := cell_in h1 0
  have hc1 := cell_in h1 1
  simp at hc hc1
  clear h1 h2
  go_enter Try.func18, Try.ntmps18
  go_wp2
  go_quiet (fail)
  go_wp2
  go_ret
  exact ⟨rfl, _, rfl⟩

/-- What Upto answers: the number, the place behind it, what is wrong. -/
def upto (bs : List Int) (pos : Nat) (most : Int) : Int × Nat × Int :=
  if (dec (bs.drop pos)).2.2 = 0 then (if most < (dec (bs.drop pos)).1 then (0, pos, 5) else ((dec (bs.drop pos)).1, pos + (dec (bs.drop pos)).2.1, 0)) else (0, pos, (dec (bs.drop pos)).2.2)

theorem upto_nil (most : Int) (w : World) :
    Calls Try.prog 20 #[.pointer none, .int .u64 most] w fun e w' => e = .returned (.int .u64 0) ∧ w = w' := by
  go_enter Try.func20, Try.ntmps20
  go_wp2_with fail
  refine (stopped_nil _).mono ?_
  rintro e w' ⟨rfl, rfl⟩
  go_wp2
  go_ret
  exact ⟨rfl, rfl⟩
theorem upto_stopped {rb : Nat} {bs : List Int} {pos : Nat} {wr : Int} (most : Int) (w : World) (h : Rdr w rb bs pos wr) (hw : wr ≠ 0) :
    Calls Try.prog 20 #[.pointer (some ⟨rb, 0, none⟩), .int .u64 most] w fun e w' => e = .returned (.int .u64 0) ∧ w = w' := by
  have hs := stopped_any w h
  rw [show (wr != 0) = true by simpa using hw] at hs
  have HS := Lib.hid hs
  clear hs h hw
  go_enter Try.func20, Try.ntmps20
  go_wp2_with fail
  refine HS.out.mono ?_
  rintro e w' ⟨rfl, rfl⟩
  go_wp2
  go_ret
  exact ⟨rfl, rfl⟩
theorem dec_range (bs : List Int) (hb : ∀ z ∈ bs, 0 ≤ z ∧ z ≤ 255) : 0 ≤ (dec bs).1 ∧ (dec bs).1 ≤ 18446744073709551615 ∧ (dec bs).2.1 ≤ bs.length ∧ (dec bs).2.1 ≤ 9 ∧ 0 ≤ (dec bs).2.2 ∧ (dec bs).2.2 ≤ 3 := by
  by_cases h : (dec bs).2.2 = 0
  · obtain ⟨_, h2, h3, h4, h5⟩ := enc_dec bs hb (dec bs).1 (dec bs).2.1 (by rw [← h])
    have := sz_pos (dec bs).1
    exact ⟨h4, h5, h3, by omega, by omega, by omega⟩
  · revert h
    match bs with
    | [] => simp [dec]
    | c :: r => simp only [dec]; (repeat' split) <;> simp

set_option maxRecDepth 100000 in
set_option maxHeartbeats 1000000 in
theorem upto_any {rb : Nat} {bs : List Int} {pos : Nat} (most : Int) (w : World) (h : Rdr w rb bs pos 0) (hb : ∀ z ∈ bs, 0 ≤ z ∧ z ≤ 255) :
    Calls Try.prog 20 #[.pointer (some ⟨rb, 0, none⟩), .int .u64 most] w fun e w' =>
      e = .returned (.int .u64 (upto bs pos most).1) ∧ Rdr w' rb bs (upto bs pos most).2.1 (upto bs pos most).2.2 ∧ Only rb w w' := by
  have hs := stopped_any w h
  rw [show ((0 : Int) != 0) = false from rfl] at hs
  have HS := Lib.hid hs
  have HR := Lib.hid h
  obtain ⟨B, v, h1, h2, _, h4, h5⟩ := h
  have hc0 := cell_in h1 0
  have hc1 := cell_in h1 1
  have hc2 := cell_in h1 2
  have hf1 := frozen_in h1 1
  have hf2 := frozen_in h1 2
  simp at hc0 hc1 hc2
  obtain ⟨a, c, hsl, h6, h7, hrow⟩ := rest_at h2 pos h4 h5
  have hbd : ∀ z ∈ bs.drop pos, 0 ≤ z ∧ z ≤ 255 := fun z hz => hb z (List.mem_of_mem_drop hz)
  have htk := fun x => take_any w.heap.size a c (bs.drop pos) (w.drewN x) (by simp; omega) (by simpa using h6) h7 hrow.drewN hbd
  rw [List.length_drop] at htk
  have HT := Lib.hid htk
  have HDR := Lib.hid (dec_range _ hbd)
  clear htk hrow hbd hs h1 h2 hb
  unfold decV at HT
  generalize hd : dec (bs.drop pos) = D at *
  have HU : Hid (upto bs pos most = if D.2.2 = 0 then (if most < D.1 then (0, pos, 5) else (D.1, pos + D.2.1, 0)) else (0, pos, D.2.2)) := by show _ = _; unfold upto; rw [hd]
  clear hd
  obtain ⟨n, k, er⟩ := D
  simp only at HT HDR HU
  obtain ⟨d1, d2, d3, d4, d5, d6⟩ := HDR.out
  rw [List.length_drop] at d3
  clear HDR
  by_cases he : er = 0
  · subst he
    rw [if_pos rfl] at HU
    by_cases hm : most < n
    · rw [if_pos hm] at HU
      rw [HU.out]
      clear HU
      go_enter Try.func20, Try.ntmps20
      go_wp2_with fail
      refine HS.out.mono ?_
      rintro e w' ⟨rfl, rfl⟩
      go_wp2
      go_quiet ((go_at_call 28; exact quietlyN HT.out _))
      go_wp2
      go_ret
      exact ⟨rfl, HR.out.drewN.setErr 5, (Only.drewN rb w _).trans (Only.set rb _ 2 _)⟩
    · rw [if_neg hm] at HU
      rw [HU.out]
      clear HU
      go_enter Try.func20, Try.ntmps20
      go_wp2_with fail
      refine HS.out.mono ?_
      rintro e w' ⟨rfl, rfl⟩
      go_wp2
      go_quiet ((go_at_call 28; exact quietlyN HT.out _))
      go_wp2
      go_ret
      refine ⟨rfl, ?_, (Only.drewN rb w _).trans (Only.set rb _ 1 _)⟩
      have := HR.out.drewN.setPos (w := w.drewN nq) (pos + k) (by omega)
      rw [Int.natCast_add] at this
      exact this
  · rw [if_neg he] at HU
    rw [HU.out]
    have hne : (er == 0) = false := by simpa using he
    have hne2 : (er != 0) = true := by simpa using he
    clear HU he
    go_enter Try.func20, Try.ntmps20
    go_wp2_with fail
    refine HS.out.mono ?_
    rintro e w' ⟨rfl, rfl⟩
    go_wp2
    go_quiet ((go_at_call 28; exact quietlyN HT.out _))
    go_wp2
    go_ret
    exact ⟨rfl, HR.out.drewN.setErr er, (Only.drewN rb w _).trans (Only.set rb _ 2 _)⟩
end Go.Proofs.Ytbliddmkmieppaa
