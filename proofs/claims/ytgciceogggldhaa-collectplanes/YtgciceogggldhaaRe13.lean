/- Package collect: Collect of none; Reach: contracts. -/
import Derived.Test.YtgciceogggldhaaCo13
namespace Go.Proofs.Ytgciceogggldhaa
open Go.RowKit Go.Maps
set_option maxRecDepth 100000

set_option maxHeartbeats 2000000 in
theorem collect_nil (w : World) (l : Value) :
    Calls Try.prog 11 #[.pointer none, l] w fun e w' => ∃ (v : Value), e = .returned (.tuple #[.pointer none, v, .iface 53 (.int .i64 1)]) ∧ Now13 w' v (fun _ => none) ∧ Below w.heap.size w w' := by
  have hmm := @run_makeMap Try.prog
  have hmf : ∀ (fn : Fn) (first cap : Array Value) (w : World), (Instr.makeFunc fn first cap).run Try.prog w = .ok (.func fn first cap) w := fun _ _ _ _ => rfl
  go_enter Try.func11, Try.ntmps11
  go_upto_region 2 with fail
  have HB0 := Lib.hid (bel2 w (.map #[] 0) (.cells #[.map (some w.heap.size)] 71))
  have HM0 := Lib.hid ((gmap_new mkI w).later (bel1 (w.alloc (.map #[] 0)) (.cells #[.map (some w.heap.size)] 71)))
  have HC0 : Hid (((w.alloc (.map #[] 0)).alloc (.cells #[.map (some w.heap.size)] 71)).cell? ⟨w.heap.size + 1, 0, none⟩ = some (.map (some w.heap.size))) := by
    have := heap_alloc_new (w.alloc (.map #[] 0)) (.cells #[.map (some w.heap.size)] 71)
    rw [show (w.alloc (.map #[] 0)).heap.size = w.heap.size + 1 by simp] at this
    exact (Lib.cell_of_heap this 0).trans rfl
  have HZ0 : Hid (w.heap.size + 1 < ((w.alloc (.map #[] 0)).alloc (.cells #[.map (some w.heap.size)] 71)).heap.size) := by
    show _ < _
    simp
  generalize (w.alloc (.map #[] 0)).alloc (.cells #[.map (some w.heap.size)] 71) = W0 at *
  clear hmm
  go_wp2_with fail
  refine (len_nil _).mono ?_
  rintro e W1 ⟨rfl, rfl⟩
  go_wp2_with fail
  refine (room_nil _).mono ?_
  rintro e W1 ⟨rfl, rfl⟩
  go_wp2_with fail
  refine (new_bad 0 (Or.inl (by decide)) _).mono ?_
  rintro e W1 ⟨rfl, rfl⟩
  go_wp2_with fail
  go_ret3
  exact ⟨_, rfl, ⟨_, _, rfl, HC0.out, HM0.out, HZ0.out⟩, HB0.out⟩
theorem IdRow.apartG {w : World} {B b mb : Nat} {v : Value} {xs : List Nat} (h : IdRow w B v xs) (hv : v.ownBlock = some b) {k e t : TypeId} {α : Type} {K : Mk k e t α} {m : α → Option Value} (hm : GMap K w mb m) : b ≠ mb := fun e => by
  obtain ⟨_, _, cur, hF⟩ := h.blk hv
  obtain ⟨es, cl, h1⟩ := hm.is_map
  rw [e, h1] at hF
  cases hF
/-- Which are there, of a row. -/
def inQ (xs : List Nat) (x : Nat) : Option Value := if x ∈ xs then some (.bool true) else none
theorem inQ_step {xs : List Nat} {j x : Nat} (h : xs[j]? = some x) : (fun y => if y = x then some (Value.bool true) else inQ (xs.take j) y) = inQ (xs.take (j + 1)) := by
  funext y
  unfold inQ
  rw [take_next13 h]
  by_cases hy : y = x
  · simp [hy]
  · simp [hy]
set_option maxHeartbeats 4000000 in
theorem reach13_gen {w : World} {p l : Value} {xs : List Nat} (hneed : ∀ W, Below w.heap.size w W → Calls Try.prog 24 #[p, l] W fun e w' => ∃ (v : Value), e = .returned v ∧ IdRow w' W.heap.size v xs ∧ Below W.heap.size W w')
    (h0 : 0 < xs.length) (h9 : xs.length ≤ 1048576) (hu : ∀ x ∈ xs, x < 4294967296) :
    Calls Try.prog 12 #[p, l] w fun e w' => ∃ mb, e = .returned (.map (some mb)) ∧ GMap mkQ w' mb (inQ xs) ∧ Below w.heap.size w w' := by
  have HND := Lib.hid hneed
  have HU := Lib.hid hu
  have HL0 := Lib.hid h0
  have HL9 := Lib.hid h9
  clear hneed hu h0 h9
  have hmm := @run_makeMap Try.prog
  go_enter Try.func12, Try.ntmps12
  go_upto_region 2 with fail
  have HB0 := Lib.hid (bel1 w (.map #[] 0))
  have HM0 := Lib.hid (gmap_new mkQ w)
  generalize w.alloc (.map #[] 0) = W0 at *
  clear hmm
  go_wp2_with fail
  refine (HND.out W0 HB0.out).mono ?_
  rintro e W1 ⟨v, rfl, hrow, hb⟩
  obtain ⟨lb, lcap, rfl⟩ := hrow.slice HL0.out
  have HR := Lib.hid hrow
  have HB1 := Lib.hid (HB0.out.trans (hb.mono HB0.out.size))
  have HM1 := Lib.hid (HM0.out.later hb)
  clear hrow hb HB0 HM0 HND
  generalize W0.heap.size = B at *
  go_wp2_with fail
  go_loopg [7, 13] xs.length (fun mm v12 cnt wr => ∃ (j : Nat), mm = xs.length - j ∧ j ≤ xs.length ∧ cnt = .int .i64 (j : Int) ∧ GMap mkQ wr w.heap.size (inQ (xs.take j)) ∧ IdRow wr B (.slice (some ⟨lb, 0, none⟩) xs.length lcap) xs ∧ Below w.heap.size w wr)
  case atStart =>
    refine ⟨0, rfl, Nat.zero_le _, rfl, ?_, HR.out, HB1.out⟩
    rw [show inQ (xs.take 0) = fun _ => none by funext x; simp [inQ]]
    exact HM1.out
  case round =>
    clear HM1 HR HB1
    obtain ⟨j, hm, hj, rfl, hmp, hrow, hb⟩ := hrel
    have HMM := Lib.hid hm
    have HM := Lib.hid hmp
    have HR := Lib.hid hrow
    have HB := Lib.hid hb
    clear hm hmp hrow hb
    by_cases hlt : j < xs.length
    · have hgj : decide (j < xs.length) = true := by simp; omega
      obtain ⟨x, hx⟩ : ∃ x, xs[j]? = some x := ⟨_, List.getElem?_eq_getElem hlt⟩
      obtain ⟨cx, _⟩ := HR.out.at rfl hx
      obtain ⟨w6, hrun, hmp, hgr⟩ := HM.out.put x (HU.out x (List.mem_of_getElem? hx)) (.bool true)
      have hrun' : (Instr.mapUpdate 45 (.map (some w.heap.size)) (.int .u32 (x : Int)) (.bool true)).run Try.prog wr = .ok () w6 := hrun
      have HM2 : Hid (GMap mkQ w6 w.heap.size (inQ (xs.take (j + 1)))) := by
        show GMap _ _ _ _
        rw [← inQ_step hx]; exact hmp
      have HR2 := Lib.hid (HR.out.grown hgr fun b hv e => HR.out.apartG hv HM.out (by simpa using e))
      have HB2 := Lib.hid (HB.out.trans (bel_grown hgr (Nat.le_refl _) HB.out.size))
      have i1 : (j : Int) < (xs.length : Int) := by omega
      have i2 : (0 : Int) ≤ (j : Int) := by omega
      have w2 : IntKind.i64.wrap ((j : Int) + 1) = ((j + 1 : Nat) : Int) := by rw [IntWalk.i64_in _ (by have := HL9.out; omega)]; omega
      clear hx hrun hmp hgr HM HR HB
      go_wp2_with fail
      go_roundg (xs.length - (j + 1))
      case measure => rw [HMM.out]; omega
      case rel => exact ⟨j + 1, rfl, by omega, by go_num, HM2.out, HR2.out, HB2.out⟩
    · obtain rfl : j = xs.length := by omega
      have hgj : decide (xs.length < xs.length) = false := by simp
      go_wp2_with fail
      go_ret
      have := HM.out
      rw [List.take_length] at this
      exact ⟨_, rfl, this, HB.out⟩
theorem reach13_nil (w : World) {a : Option Addr} {L : List Nat} {l c : Nat} (hL : LRow w a L) (hl : l = L.length) (hl9 : l ≤ 1000000) :
    Calls Try.prog 12 #[.pointer none, .slice a l c] w fun e w' => ∃ mb, e = .returned (.map (some mb)) ∧ GMap mkQ w' mb (inQ [0, 1]) ∧ Below w.heap.size w w' :=
  reach13_gen (fun W hb => needed_nil W (hL.later hb) hl hl9) (by decide) (by decide) (by simp)
theorem reach13_any {w : World} {sb g tb cap most : Nat} {N : List Nd} (h : St w sb g tb cap most N) {a : Option Addr} {L : List Nat} {l c : Nat} (hL : LRow w a L) (hl : l = L.length) (hl9 : l ≤ 1000000) :
    Calls Try.prog 12 #[.pointer (some ⟨sb, 0, none⟩), .slice a l c] w fun e w' => ∃ mb, e = .returned (.map (some mb)) ∧ GMap mkQ w' mb (inQ (ndL (nedF N L) N.length)) ∧ Below w.heap.size w w' := by
  have hc := ned_cl h.wf L
  have h2 := h.wf.two
  have hr := h.room
  have hm := h.most_le
  refine reach13_gen (fun W hb => needed_any (h.later hb) (hL.later hb) hl hl9) ?_ ?_ ?_
  · rw [ndL_len]
    have := rk_lt hc.d (show 0 < N.length by omega)
    omega
  · rw [ndL_len]
    have := rk_le (nedF N L) N.length
    omega
  · intro x hx
    have := (ndL_mem.1 hx).1
    omega
end Go.Proofs.Ytgciceogggldhaa
