/- Package evolve: Known, Forget; Next, told again: contracts. -/
import Derived.Test.YtaapkngpnlnjeaaP11
namespace Go.Proofs.Ytaapkngpnlnjeaa
open Go.RowKit Go.Maps
set_option maxRecDepth 100000

/-- How many a memo has found. -/
def KnS (w : World) (fb : FbT) (m : Stp → Option Value) (k : Nat) : Prop :=
  (fb.f = none ∧ k = 0 ∧ ∀ a, m a = none) ∨ ∃ b D ks, fb.f = some b ∧ w.ownsMap Try.prog 71 heldR b (Maps.size D) D ∧ Maps.size D = k ∧ List.length ks = k ∧ ks.Nodup ∧ ∀ a : Stp, a ∈ ks ↔ (m a).isSome = true
theorem Me.kn {w : World} {sb g tb most mb : Nat} {N : List Nd} {fb : FbT} {m : Stp → Option Value} (h : Me w sb g tb most N mb fb m) : ∃ k, KnS w fb m k ∧ (∀ a v, m a = some v → 0 < k) := by
  rcases h.mp with ⟨e, hn⟩ | ⟨b, e, D, ks, h1, h2, h3, h4, h5, h6⟩
  · exact ⟨0, Or.inl ⟨e, rfl, hn⟩, fun a v hv => by rw [hn a] at hv; cases hv⟩
  · refine ⟨ks.length, Or.inr ⟨b, D, ks, e, h1, h2, rfl, h3, h5⟩, fun a v hv => ?_⟩
    have : a ∈ ks := (h5 a).2 (by rw [hv]; rfl)
    exact List.length_pos_of_mem this
theorem KnS.same {w w' : World} {fb fb' : FbT} {m : Stp → Option Value} {k k' : Nat} (h : KnS w fb m k) (h' : KnS w' fb' m k') : k = k' := by
  rcases h with ⟨_, rfl, hn⟩ | ⟨b, D, ks, _, _, _, h1, h2, h3⟩
  · rcases h' with ⟨_, rfl, _⟩ | ⟨b', D', ks', _, _, _, h1', _, h3'⟩
    · rfl
    · cases ks' with
      | nil => rw [← h1']; rfl
      | cons a r => have := (h3' a).1 List.mem_cons_self; rw [hn a] at this; cases this
  · rcases h' with ⟨_, rfl, hn⟩ | ⟨b', D', ks', _, _, _, h1', h2', h3'⟩
    · cases ks with
      | nil => rw [← h1]; rfl
      | cons a r => have := (h3 a).1 List.mem_cons_self; rw [hn a] at this; cases this
    · have hp : ks.Perm ks' := by
        rw [List.perm_ext_iff_of_nodup h2 h2']
        intro a
        rw [h3, h3']
      rw [← h1, ← h1', hp.length_eq]
/-- What is known of a memo is the same number wherever it is found. -/
theorem KnS.of {w w' : World} {sb g tb most mb : Nat} {N : List Nd} {fb fb' : FbT} {m : Stp → Option Value} {k : Nat} (hk : KnS w fb m k) (h : Me w' sb g tb most N mb fb' m) : KnS w' fb' m k := by
  obtain ⟨k', h', _⟩ := h.kn
  rw [hk.same h']
  exact h'
theorem KnS.len {w : World} {fb : FbT} {m : Stp → Option Value} {k : Nat} (h : KnS w fb m k) (ty : TypeId) : (Builtin.len_ #[63] ty #[.map fb.f]).run Try.prog w = .ok (.int .i64 (k : Int)) w := by
  rcases h with ⟨e, rfl, _⟩ | ⟨b, D, ks, e, h1, rfl, _⟩
  · rw [e]; exact Maps.len_nil Try.underlying63 ty
  · rw [e]; exact h1.len Try.underlying63 ty
theorem known_blk {w : World} {mb sb : Nat} {fb : FbT} {sv : Value} {cl : Int} {m : Stp → Option Value} {k : Nat} (h : w.heap[mb]? = some (meO sb fb.f sv cl)) (hk : KnS w fb m k) :
    Calls Try.prog 12 #[.pointer (some ⟨mb, 0, none⟩)] w fun e w' => e = .returned (.int .i64 (k : Int)) ∧ w = w' := by
  have c1 : w.cell? ⟨mb, 1, none⟩ = some (.map fb.f) := by rw [Lib.cell_of_heap h]; rfl
  have hl := hk.len 3
  clear h hk
  go_enter Try.func12, Try.ntmps12
  go_wp2
  go_ret
  exact ⟨rfl, rfl⟩
theorem forget_blk {w : World} {mb sb : Nat} {f : Option Nat} {sv : Value} {cl : Int} (h : w.heap[mb]? = some (meO sb f sv cl)) :
    Calls Try.prog 18 #[.pointer (some ⟨mb, 0, none⟩)] w fun e w' => e = .returned (.tuple #[]) ∧ Frm [mb] w w' ∧ w'.heap[mb]? = some (meO sb none (.slice none 0 0) cl) := by
  have c1 : w.cell? ⟨mb, 1, none⟩ = some (.map f) := by rw [Lib.cell_of_heap h]; rfl
  have d1 : w.cell? ⟨mb, 2, none⟩ = some sv := by rw [Lib.cell_of_heap h]; rfl
  have e1 : w.cell? ⟨mb, 4, none⟩ = some (.map none) := by rw [Lib.cell_of_heap h]; rfl
  have c2 : w.frozen? ⟨mb, 1, none⟩ = false := Lib.frozen_of_heap h 1
  have d2 : w.frozen? ⟨mb, 2, none⟩ = false := Lib.frozen_of_heap h 2
  have e2 : w.frozen? ⟨mb, 4, none⟩ = false := Lib.frozen_of_heap h 4
  have hs : (((w.setCell ⟨mb, 1, none⟩ (.map none)).setCell ⟨mb, 2, none⟩ (.slice none 0 0)).setCell ⟨mb, 4, none⟩ (.map none)).heap[mb]? = some (meO sb none (.slice none 0 0) cl) := by
    simp only [World.setCell, Array.getElem?_modify, h, meO]; simp
  have hf : Frm [mb] w (((w.setCell ⟨mb, 1, none⟩ (.map none)).setCell ⟨mb, 2, none⟩ (.slice none 0 0)).setCell ⟨mb, 4, none⟩ (.map none)) :=
    (one_set (one_set (one_set (gq := mb) ⟨Frm.refl _ w, fun _ _ => rfl⟩ 1 (.map none)) 2 (.slice none 0 0)) 4 (.map none)).1
  have HS := Lib.hid hs
  have HF := Lib.hid hf
  clear h hs hf
  go_enter Try.func18, Try.ntmps18
  go_wp2
  refine bodyPost_end (results_none rfl _ _ _) rfl ?_
  exact ⟨rfl, HF.out, HS.out⟩
set_option maxHeartbeats 2000000 in
theorem next_known {w : World} {sb g tb most mb : Nat} {N : List Nd} {fb : FbT} {m : Stp → Option Value} (h : Me w sb g tb most N mb fb m) {n x p z : Nat} (hx : Sq N n x) (hok : SeOk ⟨x, p⟩) (hm : m ⟨x, p⟩ = some (.int .u32 (z : Int))) :
    Calls Try.prog 26 #[.pointer (some ⟨mb, 0, none⟩), .agg #[.int .u32 (x : Int), .int .i64 (p : Int)]] w fun e w' => e = .returned (.tuple #[.int .u32 (z : Int), .nilIface]) ∧ ∃ fb', Mx sb tb mb most w g N fb m 0 w' g N fb' m := by
  have HMV := Lib.hid hm
  have HB := Lib.hid (bel1 w (.cells #[.int .u32 (x : Int), .int .i64 (p : Int)] 71))
  have HO : Hid (Oe (w.alloc (.cells #[.int .u32 (x : Int), .int .i64 (p : Int)] 71)) sb g tb mb fb w.heap.size (seO x p)) := Oe.new h _ _
  have HM0 := Lib.hid (Mx.of_below h HB.out)
  have HOK := Lib.hid hok
  have HX := Lib.hid hx
  clear h hm hok hx
  go_enter Try.func26, Try.ntmps26
  obtain ⟨e0, e1⟩ := se_cells HO.out.at_
  have HKN := Lib.hid (known_any HM0.out.me HX.out HOK.out)
  go_upto_region 1 with fail
  generalize w.alloc (.cells #[.int .u32 (x : Int), .int .i64 (p : Int)] 71) = W0 at *
  generalize w.heap.size = eb at *
  go_wp2_with fail
  refine HKN.out.mono ?_
  rintro e w1 ⟨y, ok, rfl, ⟨fb1, hmx⟩, hyes, hno⟩
  have HMX := Lib.hid ((HM0.out.trans hmx).mono (show 0 + 0 ≤ 0 by omega))
  have hy : ok = true ∧ y = z := by
    cases ok with
    | true =>
      have := (hyes rfl).1
      rw [HMV.out] at this
      simp only [Option.some.injEq, Value.int.injEq, true_and] at this
      exact ⟨rfl, by omega⟩
    | false => rw [hno rfl] at HMV; cases HMV.out
  obtain ⟨rfl, rfl⟩ := hy
  clear hmx hyes hno HKN e0 e1
  go_wp2_with fail
  go_ret2
  exact ⟨rfl, fb1, HMX.out⟩
set_option maxHeartbeats 2000000 in
theorem enext_known {w : World} {sb g tb most mb : Nat} {N : List Nd} {fb : FbT} {m : Stp → Option Value} (h : Me w sb g tb most N mb fb m) {n x p z : Nat} (hs : Sc N n x p z) (hm : m ⟨x, p⟩ = some (.int .u32 (z : Int))) :
    Calls Try.prog 10 #[.pointer (some ⟨mb, 0, none⟩), .int .u32 (x : Int), .int .i64 (p : Int)] w fun e w' => e = .returned (.tuple #[.int .u32 (z : Int), .nilIface]) ∧ ∃ fb', Mx sb tb mb most w g N fb m 0 w' g N fb' m := by
  have HM := Lib.hid h
  have HSC := Lib.hid hs
  have hx := hs.sq
  have hp := hs.pm
  have hxu : x < 4294967296 := by obtain ⟨cap, hs⟩ := h.st; exact Sq.u32 hs hx
  have HLV := Lib.hid (by obtain ⟨cap, hs⟩ := h.st; exact level_any hs x hxu)
  rw [show lvZ N x = ((n + 2 : Nat) : Int) from hx] at HLV
  have w1 : IntKind.i64.wrap (((n + 2 : Nat) : Int) - 2) = ((n : Nat) : Int) := by rw [show ((n + 2 : Nat) : Int) - 2 = ((n : Nat) : Int) by omega]; exact IntWalk.i64_in _ (by have := Sq.le62 h.wf (n := n + 1) hx; omega)
  have g1 : decide ((p : Int) < 0) = false := by simp
  have g2 : decide (n < p) = false := by simp; omega
  obtain ⟨sv0, cl0, hth, m0, m1, mv, m2, mt, m3⟩ := h.cells
  have HMV := Lib.hid hm
  clear mv mt hth m1 m2 m3 h hx hm hs hp
  generalize hlv : ((n + 2 : Nat) : Int) = lv at *
  go_enter Try.func10, Try.ntmps10
  go_wp2_with fail
  refine HLV.out.mono ?_
  rintro e w5 ⟨rfl, rfl⟩
  clear HLV hlv
  go_wp2_with fail
  refine (begin_any HM.out).mono ?_
  rintro e w5 ⟨rfl, hmx⟩
  have HMX5 := Lib.hid hmx
  have HNX := Lib.hid (next_known hmx.me HSC.out.sq (HSC.out.ok HM.out) HMV.out)
  clear hmx m0
  go_wp2_with fail
  refine HNX.out.mono ?_
  rintro e w6 ⟨rfl, fb6, hmx⟩
  have HMX := Lib.hid ((HMX5.out.trans hmx).mono (show 0 + 0 ≤ 0 by omega))
  clear hmx HNX
  go_wp2_with fail
  go_ret2
  exact ⟨rfl, fb6, HMX.out⟩
end Go.Proofs.Ytaapkngpnlnjeaa
