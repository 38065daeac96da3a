/- The laws' own example of layer 2; bytes as strings; errors.Is of one number: contracts. -/
import Derived.Test.YtbliddmkmieppaaDoorRdr2
import Derived.Laws.BytesArg
import Derived.Stop.Asserts
import Derived.RowKitTokens
namespace Go.Proofs.YtbliddmkmieppaaDoor
open Go.RowKit Go.Extern.Stop Go.Stop Go.Extern

theorem str_row {w : World} {B : Nat} {a : Option Addr} {bs : List Int} (h : Row .u8 w B a bs) (c : Nat) : (convert 22 9 (.slice a bs.length c)).run Tryd.prog w = .ok (.string (strOfNums bs)) w := by
  match bs, h with
  | [], _ =>
    rw [List.length_nil, run_convert_bytes_string w 22 9 5 a 0 c Tryd.underlying22 Tryd.underlying5 Tryd.underlying9]
    cases a <;> simp [Conv.bytesToString, loadCells, loadCellsFrom] <;> rfl
  | z :: r, h =>
    obtain ⟨bk, off, rfl, _, _⟩ := h 0 z rfl
    refine run_convert_bytes_arg w 22 5 Tryd.underlying22 Tryd.underlying5 bk off _ c (z :: r) rfl (fun i hi => ?_) 9 Tryd.underlying9
    obtain ⟨bk', off', he, _, hc⟩ := h i (z :: r)[i] (List.getElem?_eq_getElem hi)
    obtain ⟨rfl, rfl⟩ : bk = bk' ∧ off = off' := by simpa using he
    rw [hc]
    simp [List.getD, List.getElem?_eq_getElem hi]
theorem below_alloc1 (w : World) (o : Obj) : Below w.heap.size w (w.alloc o) := (Below.refl _ _).alloc (Nat.le_refl _) o
theorem row_new (k : IntKind) (w : World) (zs : List Int) (t : TypeId) : Row k (w.alloc (.cells (zs.map (Value.int k)).toArray t)) (w.heap.size + 1) (some ⟨w.heap.size, 0, none⟩) zs := by
  intro j z hz
  refine ⟨w.heap.size, 0, rfl, by omega, ?_⟩
  rw [cell_in (heap_alloc_new w _)]
  simp [hz]

set_option maxRecDepth 100000 in
set_option maxHeartbeats 1000000 in
theorem lives2_any (w : World) :
    Calls Tryd.prog 4 #[] w fun e w' => e = .returned (.bool true) ∧ Below w.heap.size w w' := by
  have H1 := Lib.hid (puts_any (w.heap.size + 1) none 0 [] (some ⟨w.heap.size, 0, none⟩) 2 [127, 128] (w.alloc (.cells #[.int .u64 127, .int .u64 128] 31)) (by simp) (by simp) (by simp) Row.nil (row_new .u64 w [127, 128] _) (by intro z hz; simp at hz; omega))
  rw [show ([] : List Int) ++ encs [127, 128] = [127, 128, 128] from rfl] at H1
  go_enter Tryd.func4, Tryd.ntmps4
  go_wp2_with fail
  refine H1.out.mono ?_
  rintro e w1 ⟨v1, rfl, ho, hb⟩
  obtain ⟨a, c, rfl, _, _, hr⟩ := ho.row
  have hcv := str_row hr c
  rw [show strOfNums [127, 128, 128] = ⟨#[127, 128, 128]⟩ from rfl] at hcv
  have HB : Hid (Below w.heap.size w w1) := (below_alloc1 w _).trans (hb.mono (by simp))
  clear ho hb hr
  rw [show ([127, 128, 128] : List Int).length = 3 from rfl] at *
  go_wp2_with fail
  refine (fold_any (-1) (by decide) (by decide) _).mono ?_
  rintro e w' ⟨rfl, rfl⟩
  rw [show fold (-1) = 1 from rfl]
  have H2 := Lib.hid (read_any (w1.heap.size + 1) (some ⟨w1.heap.size, 0, none⟩) 1 [5] (w1.alloc (.cells #[.int .u8 5] 5)) (by simp) (row_new .u8 w1 [5] _))
  clear hcv
  go_wp2_with fail
  refine H2.out.mono ?_
  rintro e w2 ⟨rb, rfl, hge, hrd, hb, _⟩
  have HB2 : Hid (Below w.heap.size w w2) := by
    show Below w.heap.size w w2
    have := HB.out.size
    exact (HB.out.alloc this _).trans (hb.mono (by simp; omega))
  have hge' : w.heap.size ≤ rb := by have := HB.out.size; simp at hge; omega
  have H3 := Lib.hid (uint_any w2 hrd (by intro z hz; simp at hz; omega))
  rw [show upto [5] 0 top = (5, 1, 0) from by decide] at H3
  clear hge hrd hb
  go_wp2_with fail
  refine H3.out.mono ?_
  rintro e w3 ⟨rfl, _, hon⟩
  have HB3 : Hid (Below w.heap.size w w3) := HB2.out.trans (hon.below hge')
  clear hon
  go_wp2
  go_ret
  exact ⟨rfl, HB3.out⟩

/-- Two interface values that hold numbers of one integer type: equal just as the numbers are. -/
theorem eq_nums {P : Program} (w : World) {ti tn : TypeId} {ms : Array (String × TypeId)} {i : TypeInfo} {k : IntKind} (a b : Int)
    (hi : P.underlying ti = some (.interface ms)) (hn : P.underlying tn = some (.int k)) (hinfo : P.info? tn = some i) (hc : i.comparable = true) :
    (binOp .eql ti (.iface tn (.int k a)) (.iface tn (.int k b))).run P w = .ok (.bool (a == b)) w := by
  have h : ∀ d : Nat, (Op.equalIn (d + 2) ti (.iface tn (.int k a)) (.iface tn (.int k b))).run P w = .ok (a == b) w := fun d => by
    simp [Op.equalIn, run_underlying hi, run_underlying hn, typeInfo, hinfo, hc]
  simp only [binOp]
  simp [Op.equal, Op.maxDepth, h 9998]
theorem Tryd.mComparable (h : Value) (w : World) : (Go.method 220 80 (.agg #[h]) "Comparable").run Tryd.prog w = .ok (70, .agg #[h]) w := by kernel_rfl
theorem Tryd.cErrno (w : World) : (callFunc 70 #[.agg #[.pointer (some ⟨1, 45, none⟩)]]).run Tryd.prog w = .ok (.value (.bool true)) w := by kernel_rfl
theorem Tryd.tErrno (v : Value) (w : World) : (ReflectliteType.typeOf #[.iface 45 v]).run Tryd.prog w = .ok (.iface 80 (.agg #[.pointer (some ⟨1, 45, none⟩)])) w := by kernel_rfl
theorem Tryd.iErrno : (Tryd.prog.info? 45).map (·.comparable) = some true := by kernel_rfl
end Go.Proofs.YtbliddmkmieppaaDoor
