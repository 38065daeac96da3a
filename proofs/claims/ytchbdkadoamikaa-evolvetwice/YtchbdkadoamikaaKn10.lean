/- Package evolve: Known, Forget; Next, told again: contracts. -/
import Derived.Test.YtchbdkadoamikaaLc10
namespace Go.Proofs.Ytchbdkadoamikaa
open Go.RowKit Go.Maps
set_option maxRecDepth 100000

/-- How many a memo has found. -/
def KnS (w : World) (fb : Option Nat) (m : Stp → Option Value) (k : Nat) : Prop :=
  (fb = none ∧ k = 0) ∨ ∃ b D ks, fb = some b ∧ w.ownsMap Try.prog 71 heldR b (Maps.size D) D ∧ Maps.size D = k ∧ List.length ks = k ∧ ks.Nodup ∧ ∀ a : Stp, a ∈ ks ↔ (m a).isSome = true
theorem Me.kn {w : World} {sb g tb most mb : Nat} {N : List Nd} {fb : Option Nat} {m : Stp → Option Value} (h : Me w sb g tb most N mb fb m) : ∃ k, KnS w fb m k ∧ (∀ a v, m a = some v → 0 < k) := by
  rcases h.mp with ⟨e, hn⟩ | ⟨b, e, D, ks, h1, h2, h3, h4, h5, h6⟩
  · exact ⟨0, Or.inl ⟨e, rfl⟩, fun a v hv => by rw [hn a] at hv; cases hv⟩
  · refine ⟨ks.length, Or.inr ⟨b, D, ks, e, h1, h2, rfl, h3, h5⟩, fun a v hv => ?_⟩
    have : a ∈ ks := (h5 a).2 (by rw [hv]; rfl)
    exact List.length_pos_of_mem this
theorem KnS.blk {w w' : World} {fb : Option Nat} {m : Stp → Option Value} {k : Nat} (h : KnS w fb m k) (hb : ∀ b, fb = some b → w'.heap[b]? = w.heap[b]?) : KnS w' fb m k := by
  refine h.imp id ?_
  rintro ⟨b, D, ks, e, ⟨es, clock, h1, h2⟩, r⟩
  exact ⟨b, D, ks, e, ⟨es, clock, (hb b e).trans h1, h2⟩, r⟩
theorem KnS.len {w : World} {fb : Option Nat} {m : Stp → Option Value} {k : Nat} (h : KnS w fb m k) (ty : TypeId) : (Builtin.len_ #[65] ty #[.map fb]).run Try.prog w = .ok (.int .i64 (k : Int)) w := by
  rcases h with ⟨rfl, rfl⟩ | ⟨b, D, ks, rfl, h1, rfl, _⟩
  · exact Maps.len_nil Try.underlying65 ty
  · exact h1.len Try.underlying65 ty
theorem known_blk {w : World} {mb sb th : Nat} {fb : Option Nat} {m : Stp → Option Value} {k : Nat} (h : w.heap[mb]? = some (meO sb fb th)) (hk : KnS w fb m k) :
    Calls Try.prog 13 #[.pointer (some ⟨mb, 0, none⟩)] w fun e w' => e = .returned (.int .i64 (k : Int)) ∧ w = w' := by
  have c1 : w.cell? ⟨mb, 1, none⟩ = some (.map fb) := by rw [Lib.cell_of_heap h]; rfl
  have hl := hk.len 3
  clear h hk
  go_enter Try.func13, Try.ntmps13
  go_wp2
  go_ret
  exact ⟨rfl, rfl⟩
theorem forget_blk {w : World} {mb sb th : Nat} {fb : Option Nat} (h : w.heap[mb]? = some (meO sb fb th)) :
    Calls Try.prog 19 #[.pointer (some ⟨mb, 0, none⟩)] w fun e w' => e = .returned (.tuple #[]) ∧ w' = w.setCell ⟨mb, 1, none⟩ (.map none) ∧ w'.heap[mb]? = some (meO sb none th) := by
  have c1 : w.cell? ⟨mb, 1, none⟩ = some (.map fb) := by rw [Lib.cell_of_heap h]; rfl
  have c2 : w.frozen? ⟨mb, 1, none⟩ = false := Lib.frozen_of_heap h 1
  have hs : (w.setCell ⟨mb, 1, none⟩ (.map none)).heap[mb]? = some (meO sb none th) := by
    simp only [World.setCell, Array.getElem?_modify, h, meO]; simp
  clear h
  go_enter Try.func19, Try.ntmps19
  go_wp2
  refine bodyPost_end (results_none rfl _ _ _) rfl ?_
  exact ⟨rfl, rfl, hs⟩
set_option maxHeartbeats 2000000 in
theorem next_known {w : World} {sb g tb most mb : Nat} {N : List Nd} {fb : Option Nat} {m : Stp → Option Value} (h : Me w sb g tb most N mb fb m) {x p z : Nat} (hok : SeOk ⟨x, p⟩) (hm : m ⟨x, p⟩ = some (.int .u32 (z : Int))) :
    Calls Try.prog 28 #[.pointer (some ⟨mb, 0, none⟩), .agg #[.int .u32 (x : Int), .int .i64 (p : Int)]] w fun e w' => e = .returned (.tuple #[.int .u32 (z : Int), .nilIface]) ∧ Below w.heap.size w w' := by
  have HM := Lib.hid h
  have HMV := Lib.hid hm
  have HB := Lib.hid (bel1 w (.cells #[.int .u32 (x : Int), .int .i64 (p : Int)] 71))
  have HO : Hid (Oe (w.alloc (.cells #[.int .u32 (x : Int), .int .i64 (p : Int)] 71)) sb g tb mb fb w.heap.size (seO x p)) := Oe.new h _ _
  have HM0 := Lib.hid (h.later HB.out)
  have HOK := Lib.hid hok
  clear h hm hok
  go_enter Try.func28, Try.ntmps28
  go_upto_region 1 with fail
  generalize w.alloc (.cells #[.int .u32 (x : Int), .int .i64 (p : Int)] 71) = W0 at *
  obtain ⟨th, hth, m0, m1, m2, m3⟩ := HM0.out.cells
  obtain ⟨e0, e1⟩ := se_cells HO.out.at_
  obtain ⟨y, ok, hlk, hyes, hno⟩ := HM0.out.drew.look2 HOK.out
  have hy : ok = true ∧ y = z := by
    cases ok with
    | true =>
      have := (hyes rfl).1
      rw [HMV.out] at this
      simp only [Option.some.injEq, Value.int.injEq, true_and] at this
      exact ⟨rfl, by omega⟩
    | false => rw [hno rfl] at HMV; cases HMV.out
  obtain ⟨rfl, rfl⟩ := hy
  clear hth m0 m2 m3 hyes hno
  refine region_sq 10 (fun W => W = W0.drew) [(0, 1), (1, 1), (2, 1), (3, 2), (4, 2), (5, 2), (6, 1), (7, 1), (8, 1), (9, 1), (10, 3)] (by kernel_rfl) (by kernel_rfl) rfl (by intro c a d v w h; cases d <;> exact h) (by kernel_rfl) rfl ?_
  refine ⟨_, ?_, rfl, by rfl, ?_, ?_⟩
  rotate_left
  · intro W; go_simp; first | done | rfl
  conv => arg 6; simp only [Act.put, List.setIfInBounds_toArray, List.set_cons_zero, List.set_cons_succ]
  refine ⟨_, ?_, rfl, by rfl, ?_, ?_⟩
  rotate_left
  · intro W; go_simp; first | done | rfl
  conv => arg 6; simp only [Act.put, List.setIfInBounds_toArray, List.set_cons_zero, List.set_cons_succ]
  refine ⟨_, ?_, rfl, by rfl, ?_, ?_⟩
  rotate_left
  · intro W; go_simp; first | done | rfl
  conv => arg 6; simp only [Act.put, List.setIfInBounds_toArray, List.set_cons_zero, List.set_cons_succ]
  refine ⟨_, ?_, rfl, by rfl, ?_, ?_⟩
  rotate_left
  · rintro W rfl
    skip
    go_simp; first | done | rfl
  conv => arg 6; simp only [Act.put, List.setIfInBounds_toArray, List.set_cons_zero, List.set_cons_succ]
  refine ⟨_, ?_, rfl, by rfl, ?_, ?_⟩
  rotate_left
  · rintro W rfl
    skip
    go_simp; first | done | rfl
  conv => arg 6; simp only [Act.put, List.setIfInBounds_toArray, List.set_cons_zero, List.set_cons_succ]
  refine ⟨_, ?_, rfl, by rfl, ?_, ?_⟩
  rotate_left
  · rintro W rfl
    skip
    go_simp; first | done | rfl
  conv => arg 6; simp only [Act.put, List.setIfInBounds_toArray, List.set_cons_zero, List.set_cons_succ]
  refine ⟨_, ?_, rfl, by rfl, ?_, ?_⟩
  rotate_left
  · intro W; go_simp; first | done | rfl
  conv => arg 6; simp only [Act.put, List.setIfInBounds_toArray, List.set_cons_zero, List.set_cons_succ]
  refine ⟨_, ?_, rfl, by rfl, ?_, ?_⟩
  rotate_left
  · intro W; go_simp; first | done | rfl
  conv => arg 6; simp only [Act.put, List.setIfInBounds_toArray, List.set_cons_zero, List.set_cons_succ]
  refine ⟨_, ?_, rfl, by rfl, ?_, ?_⟩
  rotate_left
  · intro W; go_simp; first | done | rfl
  conv => arg 6; simp only [Act.put, List.setIfInBounds_toArray, List.set_cons_zero, List.set_cons_succ]
  refine ⟨_, ?_, rfl, by rfl, ?_, ?_⟩
  rotate_left
  · intro W; go_simp; first | done | rfl
  conv => arg 6; simp only [Act.put, List.setIfInBounds_toArray, List.set_cons_zero, List.set_cons_succ]
  refine ⟨_, rfl, by rfl, fun K hK => ?_⟩
  go_simp
  refine hK _ _ ?_
  clear hK K
  conv => arg 6; simp only [Act.put, List.setIfInBounds_toArray, List.set_cons_zero, List.set_cons_succ]
  unfold wpSq
  clear hlk
  go_wp2_with fail
  go_ret2
  exact ⟨rfl, below_drewN HB.out 1⟩
set_option maxHeartbeats 2000000 in
theorem enext_known {w : World} {sb g tb most mb : Nat} {N : List Nd} {fb : Option Nat} {m : Stp → Option Value} (h : Me w sb g tb most N mb fb m) {n x p z : Nat} (hs : Sc N n x p z) (hm : m ⟨x, p⟩ = some (.int .u32 (z : Int))) :
    Calls Try.prog 11 #[.pointer (some ⟨mb, 0, none⟩), .int .u32 (x : Int), .int .i64 (p : Int)] w fun e w' => e = .returned (.tuple #[.int .u32 (z : Int), .nilIface]) ∧ Mx sb tb mb most w g N fb m 0 w' g N fb m ∧ Frm [mb] w w' := by
  have HM := Lib.hid h
  have HSC := Lib.hid hs
  have hx := hs.sq
  have hp := hs.pm
  have hxu : x < 4294967296 := by obtain ⟨cap, hs⟩ := h.st; exact Sq.u32 hs hx
  have HLV := Lib.hid (by obtain ⟨cap, hs⟩ := h.st; exact level_any hs x hxu)
  rw [show lvZ N x = ((n + 2 : Nat) : Int) from hx] at HLV
  have w1 : IntKind.i64.wrap (((n + 2 : Nat) : Int) - 2) = ((n : Nat) : Int) := by rw [show ((n + 2 : Nat) : Int) - 2 = ((n : Nat) : Int) by omega]; exact IntWalk.i64_in _ (by have := Sq.le62 h.wf (n := n + 1) hx; omega)
  have g1 : decide ((p : Int) < 0) = false := by simp
  have g2 : decide (n < p) = false := by simp; omega
  obtain ⟨th, hth, m0, m1, m2, m3⟩ := h.cells
  have HMV := Lib.hid hm
  clear h hx hth m1 m2 m3 hm hs hp
  generalize hlv : ((n + 2 : Nat) : Int) = lv at *
  go_enter Try.func11, Try.ntmps11
  go_wp2_with fail
  refine HLV.out.mono ?_
  rintro e w5 ⟨rfl, rfl⟩
  clear HLV hlv
  go_wp2_with fail
  refine (prune_any HM.out).mono ?_
  rintro e w5 ⟨rfl, hb⟩
  have HB5 := Lib.hid hb
  have HNX := Lib.hid (next_known (HM.out.later hb) (HSC.out.ok HM.out) HMV.out)
  clear hb m0
  go_wp2_with fail
  refine HNX.out.mono ?_
  rintro e w6 ⟨rfl, hb6⟩
  have HB6 := Lib.hid (HB5.out.trans (hb6.mono HB5.out.size))
  have HM6 := Lib.hid (HM.out.later HB6.out)
  clear hb6 HNX
  obtain ⟨th, hth, m0, m1, m2, m3⟩ := HM6.out.cells
  have m4 := m3 2
  obtain ⟨cap6, hs6⟩ := HM6.out.st
  have HS6 := Lib.hid hs6
  clear hs6 hth m1 m3
  go_wp2_with fail
  refine (len_any HS6.out).mono ?_
  rintro e w7 ⟨rfl, rfl⟩
  go_wp2_with fail
  go_ret2
  refine ⟨rfl, ((Mx.of_below HM.out HB6.out).trans HM6.out.there).mono (by omega), HB6.out.os, HB6.out.tape, HB6.out.output, by simpa using HB6.out.size, fun b hb hn => ?_⟩
  rw [Below.heap_setCell _ _ _ _ (by show b ≠ mb; intro e; exact hn (by simp [e])), HB6.out.block b hb]
end Go.Proofs.Ytchbdkadoamikaa
