/- The text of a chain of Faults: (*Fault).Error. -/
import Derived.Test.YtjafmnhnemdedaaDoorTxt2
namespace Go.Proofs.YtjafmnhnemdedaaDoor
open Go.RowKit Go.Extern.Stop Go.Stop Go.Extern

abbrev Links := List (Nat × ByteArray × Int)
/-- The text of a chain, then 't'. -/
def wordsL : Links → List UInt8 → List UInt8
  | [], t => t
  | (_, s, n) :: r, t => placeL s n ++ ([58, 32] ++ wordsL r t)
/-- What is still to be written where 'r' is left: of no Fault nothing. -/
def restL (r : Links) (t : List UInt8) : List UInt8 := if r.isEmpty then [] else wordsL r t
def headPtr : Links → Value
  | [] => .pointer none
  | (b, _, _) :: _ => .pointer (some ⟨b, 0, none⟩)
def Small (l : Links) : Prop := ∀ x ∈ l, x.2.1.size ≤ 100 ∧ -9223372036854775808 ≤ x.2.2 ∧ x.2.2 ≤ 9223372036854775807
def FinIs (fin : Value) (t : List UInt8) : Prop := (fin = .nilIface ∧ t = []) ∨ ∃ c, fin = .iface 24 (.int .i64 c) ∧ t = (errText c).data.toList

theorem placeL_len (s : ByteArray) (n : Int) (h : s.size ≤ 100) (h0 : -9223372036854775808 ≤ n) (h1 : n ≤ 9223372036854775807) : (placeL s n).length ≤ 121 := by
  have := itoa_len n h0 h1
  have e : s.data.toList.length = s.size := by simp
  unfold placeL
  simp only [List.length_append, List.length_cons, List.length_nil]
  omega
theorem wordsL_len : ∀ (l : Links) (t : List UInt8), Small l → (wordsL l t).length ≤ 123 * l.length + t.length
  | [], t, _ => by simp [wordsL]
  | (b, s, n) :: r, t, h => by
    have h1 := h _ (List.mem_cons_self)
    have h2 := wordsL_len r t (fun x hx => h x (List.mem_cons_of_mem _ hx))
    have h3 := placeL_len s n h1.1 h1.2.1 h1.2.2
    simp only [wordsL, List.length_append, List.length_cons, List.length_nil]
    omega

theorem isBuilder_later {T e : TypeId} {B b : Nat} {bs : List Value} {w w' : World} (h : Lib.IsBuilder T e B b bs w) (hb : Below w.heap.size w w') : Lib.IsBuilder T e B b bs w' := by
  have key : ∀ p, Lib.BuilderAt T e B b p bs w → Lib.BuilderAt T e B b p bs w' := by
    intro p hp
    have hl := hp.lt
    obtain ⟨h1, v, h2, h3, h4⟩ := hp
    exact ⟨h1, v, by rw [hb.block b hl]; exact h2, h3.kept (row := none) ⟨hb.os, hb.tape, hb.output, hb.size, fun k hk _ => hb.block k hk⟩ (by cases v.ownBlock <;> simp), h4⟩
  exact h.imp (key _) (key _)
theorem byteCells_append (a b : List UInt8) : Lib.byteCells (a ++ b) = Lib.byteCells a ++ Lib.byteCells b := by simp [Lib.byteCells]

theorem Tryd.methodErrorE (c : Int) (w : World) : (Go.method 242 24 (.int .i64 c) "Error").run Tryd.prog w = .ok (14, .int .i64 c) w := by kernel_rfl

theorem Tryd.toFaultF (v : Value) (w : World) : (Instr.typeAssert (.iface 31 v) 26 31 true).run Tryd.prog w = .ok (.tuple #[v, .bool true]) w := by kernel_rfl
theorem Tryd.toFaultE (v : Value) (w : World) : (Instr.typeAssert (.iface 24 v) 26 31 true).run Tryd.prog w = .ok (.tuple #[.pointer none, .bool false]) w := by kernel_rfl
theorem Tryd.toFaultN (w : World) : (Instr.typeAssert .nilIface 26 31 true).run Tryd.prog w = .ok (.tuple #[.pointer none, .bool false]) w := by kernel_rfl

/-- WriteString, as the loop uses it. -/
theorem write_more (B b : Nat) (acc : List UInt8) (s : ByteArray) (w w0 : World) (h : Lib.IsBuilder 75 5 B b (Lib.byteCells acc) w) (hb : Below B w0 w) (hB : B = w0.heap.size) (hlen : acc.length + s.size ≤ 1000000) :
    Calls Tryd.prog 30 #[.pointer (some ⟨b, 0, none⟩), .string s] w fun e w' => e = .returned (.tuple #[.int .i64 s.size, .nilIface]) ∧ Lib.IsBuilder 75 5 B b (Lib.byteCells (acc ++ s.data.toList)) w' ∧ Below B w0 w' ∧ w.heap.size ≤ w'.heap.size := by
  refine (Tryd.Builder_WriteString B b (Lib.byteCells acc) s w h (by rw [Lib.byteCells_length]; omega) (by rw [hB]; exact hb.size)).mono ?_
  rintro e w' ⟨rfl, h1, h2⟩
  refine ⟨rfl, Or.inr ?_, hb.trans h2, h2.size⟩
  rw [byteCells_append, ← Lib.strCells_eq]; exact h1

set_option maxRecDepth 100000 in
set_option maxHeartbeats 1000000 in
theorem error_any (fin : Value) (t : List UInt8) (l : Links) (hl : l.length ≤ 100) (ht : FinIs fin t) (hsm : Small l) (w : World) (hch : l ≠ [] → Chain w fin l (.iface 31 (headPtr l))) (htab : Tab w) :
    Calls Tryd.prog 19 #[headPtr l] w fun e w' => e = .returned (.string ⟨(restL l t).toArray⟩) ∧ Below w.heap.size w w' := by
  have HT := Lib.hid htab
  have HF := Lib.hid ht
  have HL := Lib.hid hsm
  have HC := Lib.hid hch
  have hlen : (restL l t).length ≤ 20000 := by
    have h0 : (restL l t).length ≤ (wordsL l t).length := by unfold restL; split <;> simp
    have h1 := wordsL_len l t hsm
    have h2 : t.length ≤ 100 := by
      rcases ht with ⟨_, rfl⟩ | ⟨c, _, rfl⟩
      · simp
      · have := errText_len c; have e : (errText c).data.toList.length = (errText c).size := by simp
        omega
    omega
  clear htab ht hsm hch
  go_enter Tryd.func19, Tryd.ntmps19
  go_wp2
  go_loopg [0] (l.length + 1) (fun k p wr => ∃ r acc, k = r.length + 1 ∧ p = headPtr r ∧ (r ≠ [] → Chain w fin r (.iface 31 (headPtr r))) ∧ Small r ∧ Lib.IsBuilder 75 5 w.heap.size w.heap.size (Lib.byteCells acc) wr ∧ Below w.heap.size w wr ∧ acc ++ restL r t = restL l t)
  case atStart => exact ⟨l, [], rfl, rfl, HC.out, HL.out, Lib.fresh_isBuilder _ _ _, below_alloc w _, by simp⟩
  case round =>
    obtain ⟨r, acc, hk, rfl, hcr, hsr, hB, hbw, hacc⟩ := hrel
    have hal : acc.length ≤ 20000 := by have := congrArg List.length hacc; simp only [List.length_append] at this; omega
    have HK := Lib.hid hk
    have HCR := Lib.hid hcr
    have HS := Lib.hid hsr
    have HB := Lib.hid hB
    have HW := Lib.hid hbw
    have HA := Lib.hid hacc
    clear hk hcr hsr hB hbw hacc
    match r with
    | [] =>
      simp only [headPtr]
      go_wp2_with fail
      refine (Tryd.Builder_String_any w.heap.size w.heap.size acc _ HB.out HW.out.size).mono ?_
      rintro e w' ⟨rfl, hb⟩
      have Hb := Lib.hid hb
      clear hb
      go_wp2
      go_ret
      refine ⟨?_, HW.out.trans Hb.out⟩
      have : acc = restL l t := by rw [← HA.out]; simp [restL]
      rw [← this]; rfl
    | (b, s, n) :: r' =>
      obtain ⟨_, c0, c1, x, c2, hx⟩ := HCR.out (by simp)
      obtain ⟨s1, s2, s3⟩ := HS.out _ (List.mem_cons_self)
      simp only [] at s1 s2 s3
      have hbl := block_lt c0
      have d0 : wr.cell? ⟨b, 0, none⟩ = some (.string s) := by rw [HW.out.cell (p := ⟨b, 0, none⟩) hbl]; exact c0
      have d1 : wr.cell? ⟨b, 1, none⟩ = some (.int .i64 n) := by rw [HW.out.cell (p := ⟨b, 1, none⟩) hbl]; exact c1
      have HX := Lib.hid hx
      have HC2 := Lib.hid c2
      clear hx c0 c1 c2
      have hpl := placeL_len s n s1 s2 s3
      have hsz := HW.out.size
      simp only [headPtr]
      go_wp2_with fail
      refine (place_any b s n _ s2 s3 (by omega) d0 d1 (HT.out.later HW.out)).mono ?_
      rintro e w1 ⟨rfl, hb1⟩
      have HB1 := Lib.hid (isBuilder_later HB.out hb1)
      have HW1 := Lib.hid (HW.out.trans (hb1.mono hsz))
      clear hb1 d0 d1
      go_wp2_with fail
      refine (write_more w.heap.size w.heap.size acc _ _ w HB1.out HW1.out rfl (by rw [size_mk]; omega)).mono ?_
      rintro e w2 ⟨rfl, hB2, hW2, _⟩
      have HB2 := Lib.hid hB2
      have HW2 := Lib.hid hW2
      clear hB2 hW2
      go_wp2_with fail
      refine (write_more w.heap.size w.heap.size _ _ _ w HB2.out HW2.out rfl (by simp only [List.length_append]; have : (⟨#[58, 32]⟩ : ByteArray).size = 2 := rfl
                                                                                 omega)).mono ?_
      rintro e w3 ⟨rfl, hB3, hW3, _⟩
      have HB3 := Lib.hid hB3
      have HW3 := Lib.hid hW3
      have d2 : w3.cell? ⟨b, 2, none⟩ = some x := by rw [hW3.cell (p := ⟨b, 2, none⟩) hbl]; exact HC2.out
      clear hB3 hW3
      have tF := Tryd.toFaultF
      have tE := Tryd.toFaultE
      have tN := Tryd.toFaultN
      match r' with
      | (b', s', n') :: r'' =>
        obtain ⟨rfl, _⟩ := HX.out
        go_wp2_with fail
        go_roundg (((b', s', n') :: r'').length + 1)
        case measure => rw [HK.out]; simp
        case rel =>
          refine ⟨(b', s', n') :: r'', _, rfl, rfl, fun _ => HX.out, fun x hx => HS.out x (List.mem_cons_of_mem _ hx), HB3.out, HW3.out, ?_⟩
          rw [← HA.out]
          simp [restL, wordsL]
      | [] =>
        obtain rfl : x = fin := HX.out
        rcases HF.out with ⟨rfl, hte⟩ | ⟨c, rfl, hte⟩
        · have HTE := Lib.hid hte
          clear hte
          go_wp2_with fail
          go_roundg 1
          case measure => rw [HK.out]; simp
          case rel =>
            refine ⟨[], _, rfl, rfl, fun h => absurd rfl h, fun x hx => by simp at hx, HB3.out, HW3.out, ?_⟩
            rw [← HA.out, HTE.out]
            simp [restL, wordsL]
        · have HTE := Lib.hid hte
          clear hte
          have mE := Tryd.methodErrorE
          go_wp2_with fail
          refine (errText_is c _).mono ?_
          rintro e w' ⟨rfl, rfl⟩
          go_wp2_with fail
          refine (write_more w.heap.size w.heap.size _ _ _ w HB3.out HW3.out rfl (by have := errText_len c; simp only [List.length_append, List.length_cons, List.length_nil]; omega)).mono ?_
          rintro e w4 ⟨rfl, hB4, hW4, _⟩
          have HB4 := Lib.hid hB4
          have HW4 := Lib.hid hW4
          clear hB4 hW4
          go_wp2_with fail
          go_roundg 1
          case measure => rw [HK.out]; simp
          case rel =>
            refine ⟨[], _, rfl, rfl, fun h => absurd rfl h, fun x hx => by simp at hx, HB4.out, HW4.out, ?_⟩
            rw [← HA.out, HTE.out]
            simp [restL, wordsL]
end Go.Proofs.YtjafmnhnemdedaaDoor
