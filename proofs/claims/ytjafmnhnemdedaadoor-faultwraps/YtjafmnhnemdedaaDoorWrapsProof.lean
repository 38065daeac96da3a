/- FaultWraps holds: for every number, row of steps and other number the law returns true, and each argument reads as it did. Condition: the four listed variables of Go's library hold what the program's text lays there (the card ties them). -/
import Derived.Test.YtjafmnhnemdedaaDoorWraps
import Derived.Test.YtjafmnhnemdedaaDoorLaid
import Derived.Test.YtjafmnhnemdedaaDoorCards
import Derived.Test.YtjafmnhnemdedaaDoorTie
import Derived.ProofKit
import Derived.OpenShut
import Derived.ShutString
import Derived.ChangeOld
import Derived.SevenTiedAt
import Derived.Deep.SlicePairs
namespace Go.Proofs.YtjafmnhnemdedaaDoor
open Go.ChangeShapes Go.WideShapes Go.ChangeAt Go.RowKit
open Go.ChangeMaps (open_string shut_string)

theorem wraps_walk (n m : Int) (a : Option Addr) (len cap : Nat) (L : Links) (w : World) (wn : (Lit.int .u8 n).wf = true) (wm : (Lit.int .u8 m).wf = true) (hl : L.length = len) (hm : len ≤ maxLen) (hst : StepsAt w a L)
    (hw : ∀ x ∈ L, x.2.1.size ≤ maxLen ∧ (Lit.int .i64 x.2.2).wf = true) (hty : TypeLaid w) (htab : Tab w) :
    Calls Tryd.prog 3 #[.int .u8 n, .slice a len cap, .int .u8 m] w fun e w' => e = .returned (.bool true) ∧ Below w.heap.size w w' := by
  unfold maxLen at hm hw
  by_cases h : 60 < len
  · exact wraps_great n m a len cap w hty htab hm h
  · subst hl
    obtain ⟨b0, b1⟩ := bounds_u8 wn
    obtain ⟨b2, b3⟩ := bounds_u8 wm
    exact wraps_small n m b0 b1 b2 b3 a cap L w hty htab (by omega) hst (fun x h => bounds_i64 (hw x h).2) (fun x h => (hw x h).1)

set_option maxRecDepth 100000 in
theorem wraps_lifted (os : Os) (started : os.Started) (H : Type) (enc : TypeId × Value → H) :
    ReturnsInHanded {} Tryd.checked os 3 .any (fun w args => (Rows.faultWrapsSpec.pre enc Tryd.prog Tryd.f3 [] false w args ∧ laidMetH Tryd.prog laidL w) ∧ sizedMet enc Tryd.prog Tryd.f3 (OpenSpec.ofChange Rows.faultWrapsSpec) false w args)
      (Rows.faultWrapsSpec.post enc Tryd.prog Tryd.f3 false true false false) := by
  refine returnsInHanded_of_change_and (C := Tryd.checked) (X := fun w _ => laidMetH Tryd.prog laidL w) (fun _ _ _ hh h => h.of_heap hh) Tryd.own started (by kernel_rfl) Tryd.func3
    (ChangeSpec.witness_at (enc := enc) (C := Tryd.checked) (os := os) (X := fun w _ => laidMetH Tryd.prog laidL w) false (laidWorld os) #[.int .u8 0, .slice none 0 0, .int .u8 0] 8 rfl (by kernel_rfl) (by kernel_rfl) (by kernel_rfl) (by kernel_rfl) (by kernel_rfl) (laidWorld_met os _)) ?_
  intro W base args ds gs before hval0 hW _ _ hL _
  have hval : ∀ (j : Nat) t v, Tryd.f3.params[j]? = some t → args[j]? = some v → Value.okWide Tryd.prog W .any base t v := hval0
  have hW' := hW
  obtain ⟨p, q, hA0, hV0, rfl, hfz, hnd⟩ := hW
  have hA : DataW.TrodAll enc Tryd.prog W 0 (fun _ => true) true Tryd.f3.params.toList args.toList ds p := hA0
  have hV : DataW.TrodVars enc Tryd.prog W (fun _ => true) [] gs q := hV0
  rw [Tryd.params3] at hA hval
  obtain ⟨v0, vs0, d0, ds0, p0, q0, hargs, rfl, rfl, h0, r0⟩ := trodAll_cons hA
  obtain ⟨v1, vs1, d1, ds1, p1, q1, rfl, rfl, rfl, h1, r1⟩ := trodAll_cons r0
  obtain ⟨v2, vs2, d2, ds2, p2, q2, rfl, rfl, rfl, h2, r2⟩ := trodAll_cons r1
  obtain ⟨rfl, rfl, rfl⟩ := trodAll_nil r2
  obtain rfl : args = #[v0, v1, v2] := by cases args; simp_all
  obtain ⟨rfl, rfl⟩ := trodVars_none hV
  obtain ⟨a0, rfl, rfl, rfl, w0⟩ := open_int Tryd.underlying5 (hval 0 5 v0 rfl rfl) h0
  obtain ⟨a2, rfl, rfl, rfl, w2⟩ := open_int Tryd.underlying5 (hval 2 5 v2 rfl rfl) h2
  obtain ⟨a1, len1, cap1, rfl⟩ := okWide_slice Tryd.underlying22 (hval 1 22 v1 rfl rfl)
  have k1 := h1
  have lt1 : ∀ x ∈ p1, x.block < W.heap.size := by obtain ⟨m, hm⟩ := k1; exact DataW.trod_lt m _ _ _ hm
  obtain ⟨L, hLl, hLm, hLc, hLw⟩ : ∃ L : Links, L.length = len1 ∧ len1 ≤ maxLen ∧ StepsAt W a1 L ∧ ∀ x ∈ L, x.2.1.size ≤ maxLen ∧ (Lit.int .i64 x.2.2).wf = true := by
    obtain ⟨fuel, hf⟩ := h1
    rcases Deep.open_slice_pairs Tryd.underlying22 Tryd.underlying29 (by kernel_rfl) rfl rfl (by kernel_rfl) (by kernel_rfl) hf with ⟨hcs, _⟩ | ⟨x, l, c, mm, nn, V0, V1, D0, D1, P0, P1, hcs, _, hl, hm, hmm, _, hc⟩
    · simp [Value.cells] at hcs
      obtain ⟨rfl, rfl, rfl⟩ := hcs
      exact ⟨[], rfl, by decide, fun j z hj => by simp at hj, fun z hz => by simp at hz⟩
    · simp [Value.cells] at hcs
      obtain ⟨rfl, rfl, rfl⟩ := hcs
      have each : ∀ i, i < len1 → ∃ y : ByteArray × Int, V0 i = .string y.1 ∧ V1 i = .int .i64 y.2 ∧ y.1.size ≤ maxLen ∧ (Lit.int .i64 y.2).wf = true := by
        intro i hi
        obtain ⟨_, _, t0, t1⟩ := hc i (by rw [hmm]; simp; omega)
        obtain ⟨s, e0, _, hs⟩ := DataW.trod_string Tryd.underlying9 t0
        obtain ⟨z, e1, _, hz⟩ := DataW.trod_int Tryd.underlying3 t1
        exact ⟨(s, z), by simpa using e0, by simpa using e1, hs, hz⟩
      obtain ⟨Y, hY⟩ := Deep.choose_lt each
      refine ⟨(List.range len1).map fun i => (0, Y i), by simp, by omega, fun j z hj => ?_, fun z hz => ?_⟩
      · have hjl : j < len1 := by
          have := (List.getElem?_eq_some_iff.1 hj).1
          simpa using this
        obtain ⟨c0, c1, _, _⟩ := hc j (by rw [hmm]; simp; omega)
        obtain ⟨y0, y1, _, _⟩ := hY j hjl
        have hz : z = (0, Y j) := by
          rw [List.getElem?_map, List.getElem?_range hjl] at hj
          simpa using hj.symm
        subst hz
        obtain ⟨bk, off, spot⟩ := x
        have hspot : spot = none := by simpa [Addr.add] using World.cell?_spot (hc 0 (by rw [hmm]; simp; omega)).1
        subst hspot
        refine ⟨bk, off, rfl, ?_, ?_⟩
        · rw [← y0, ← c0, Go.WideShapes.add_plain]
        · rw [← y1, ← c1, Go.WideShapes.add_plain]; rfl
      · obtain ⟨i, hi, rfl⟩ := List.mem_map.1 hz
        obtain ⟨_, _, h3, h4⟩ := hY i (by simpa using hi)
        exact ⟨h3, h4⟩
  clear hA0 hval0
  refine (wraps_walk a0 a2 a1 len1 cap1 L W w0 w2 hLl hLm hLc hLw (type_of_laid hL) (tab_of_laid hL)).mono fun e W' ⟨he, bel⟩ => ?_
  subst he
  exact ⟨_, rfl, _, _, _, [], _, [], hW', trodAll_mk1 (shut_bool Tryd.underlying4 _), (trodAll_cons_mk (shut_int Tryd.underlying5 w0) (trodAll_cons_mk (Below.trod Tryd.laidOut (by kernel_rfl) (of_decide_eq_true (by kernel_rfl)) k1 bel lt1) (trodAll_cons_mk (shut_int Tryd.underlying5 w2) trodAll_mk0))), rfl, bel.frame _, fun h => by cases h⟩

theorem wraps_said : Rows.FaultWrapsSaid :=
  OpenClaim.holds_of_wide 3 Tryd.f3 rfl rfl rfl rfl rfl rfl rfl ⟨rfl, rfl, rfl, rfl, rfl⟩ rfl rfl rfl rfl rfl (by kernel_rfl) Tryd.func3 (by kernel_rfl)
    (of_decide_eq_true (by kernel_rfl)) (by unfold Func.isWrapper; rw [if_neg (of_decide_eq_false (by kernel_rfl))]; exact ⟨rfl, rfl⟩)
    (fun os started H enc _ => wraps_lifted os started H enc)

theorem wraps_card : Rows.FaultWrapsCardSaid :=
  Claim7.holds_tied_plain_at .later [] [.data, .data, .data, .handle] true (true, "4c07d037a834cc0ec17f1a397add563903e3e28ddc09e343aedd294039a07bff") true
    wraps_said (fun _ h => by cases h) (by kernel_rfl) (fun _ h => by cases h) faultWraps_row_tie rfl ⟨rfl, rfl⟩ (by kernel_rfl) rfl
    (fun f fn hf hfn => by
      obtain rfl : f = 3 := Option.some.inj ((show Tryd.prog.funcNamed "belvedere/belvederelaw01.FaultWraps" = some 3 by kernel_rfl).symm.trans hf) |>.symm
      obtain rfl : fn = Tryd.f3 := (Option.some.inj (Tryd.func3.symm.trans hfn)).symm
      exact ⟨by kernel_rfl, fun j t ht => by
        rw [Tryd.params3] at ht
        match j, ht with
        | 0, ht => obtain rfl : _ = t := by simpa using ht
                   exact (show Tryd.prog.wantsStandIn 5 = false by kernel_rfl)
        | 1, ht => obtain rfl : _ = t := by simpa using ht
                   exact (show Tryd.prog.wantsStandIn 22 = false by kernel_rfl)
        | 2, ht => obtain rfl : _ = t := by simpa using ht
                   exact (show Tryd.prog.wantsStandIn 5 = false by kernel_rfl)
        | j + 3, ht => simp at ht⟩)
    (by kernel_rfl)
#print axioms wraps_card
end Go.Proofs.YtjafmnhnemdedaaDoor
