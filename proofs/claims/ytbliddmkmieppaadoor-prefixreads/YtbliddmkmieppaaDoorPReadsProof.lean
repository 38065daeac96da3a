/- PrefixReads holds: for every row of bytes and every row of numbers the law returns true, and each argument reads as it did. Condition: errors.errorType of Go's library holds what the program's text lays there (the card ties it). -/
import Derived.Test.YtbliddmkmieppaaDoorPReads
import Derived.Test.YtbliddmkmieppaaDoorLaidT
import Derived.Test.YtbliddmkmieppaaDoorOpn
import Derived.Test.YtbliddmkmieppaaDoorCards
import Derived.Test.YtbliddmkmieppaaDoorTie
import Derived.ProofKit
import Derived.OpenShut
import Derived.ChangeOld
import Derived.SevenTiedAt
namespace Go.Proofs.YtbliddmkmieppaaDoor
open Go.ChangeShapes Go.WideShapes Go.ChangeAt Go.RowKit

theorem preads_walk (a0 a1 : Option Addr) (n0 n1 c0 c1 : Nat) (bs l : List Int) (w : World) (hty : TypeLaid w) (e0 : bs.length = n0) (e1 : l.length = n1) (b0 : n0 ≤ maxLen) (b1 : n1 ≤ maxLen)
    (r0 : Row .u8 w w.heap.size a0 bs) (r1 : Row .u16 w w.heap.size a1 l) (hn : a0 = none → c0 = 0) (z0 : ∀ z ∈ bs, (Lit.int .u8 z).wf = true) (z1 : ∀ z ∈ l, (Lit.int .u16 z).wf = true) :
    Calls Tryd.prog 3 #[.slice a0 n0 c0, .slice a1 n1 c1] w fun e w' => e = .returned (.bool true) ∧ Below w.heap.size w w' := by
  unfold maxLen at b0 b1
  by_cases h : 2000 < n0 ∨ 60 < n1
  · exact preads_great a0 a1 n0 n1 c0 c1 w (by omega) (by omega) h
  · subst e0 e1
    exact preads_small a0 a1 c0 c1 bs l w hty (by omega) (by omega) r0 r1 hn (fun z hz => bounds_u8 (z0 z hz)) (fun z hz => bounds_u16 (z1 z hz))

set_option maxRecDepth 100000 in
theorem preads_lifted (os : Os) (started : os.Started) (H : Type) (enc : TypeId × Value → H) :
    ReturnsInHanded {} Tryd.checked os 3 .any (fun w args => (Rows.prefixReadsSpec.pre enc Tryd.prog Tryd.f3 [] false w args ∧ laidMetH Tryd.prog laidT w) ∧ sizedMet enc Tryd.prog Tryd.f3 (OpenSpec.ofChange Rows.prefixReadsSpec) false w args)
      (Rows.prefixReadsSpec.post enc Tryd.prog Tryd.f3 false true false false) := by
  refine returnsInHanded_of_change_and (C := Tryd.checked) (X := fun w _ => laidMetH Tryd.prog laidT w) (fun _ _ _ hh h => h.of_heap hh) Tryd.knob started (by kernel_rfl) Tryd.func3
    (ChangeSpec.witness_at (enc := enc) (C := Tryd.checked) (os := os) (X := fun w _ => laidMetH Tryd.prog laidT w) false (laidWorldT os) #[.slice none 0 0, .slice none 0 0] 8 rfl (by kernel_rfl) (by kernel_rfl) (by kernel_rfl) (by kernel_rfl) (by kernel_rfl) (laidWorldT_met os _)) ?_
  intro W base args ds gs before hval0 hW _ _ hL _
  have hval : ∀ (j : Nat) t v, Tryd.f3.params[j]? = some t → args[j]? = some v → Value.okWide Tryd.prog W .any base t v := hval0
  have hW' := hW
  obtain ⟨p, q, hA0, hV0, rfl, hfz, hnd⟩ := hW
  have hA : DataW.TrodAll enc Tryd.prog W 0 (fun _ => true) true Tryd.f3.params.toList args.toList ds p := hA0
  have hV : DataW.TrodVars enc Tryd.prog W (fun _ => true) [] gs q := hV0
  rw [Tryd.params3] at hA hval
  obtain ⟨v0, vs0, d0, ds0, p0, q0, hargs, rfl, rfl, h0, r0⟩ := trodAll_cons hA
  obtain ⟨v1, vs1, d1, ds1, p1, q1, rfl, rfl, rfl, h1, r1⟩ := trodAll_cons r0
  obtain ⟨rfl, rfl, rfl⟩ := trodAll_nil r1
  obtain rfl : args = #[v0, v1] := by cases args; simp_all
  obtain ⟨rfl, rfl⟩ := trodVars_none hV
  obtain ⟨a0, len0, cap0, rfl⟩ := okWide_slice Tryd.underlying22 (hval 0 22 v0 rfl rfl)
  obtain ⟨a1, len1, cap1, rfl⟩ := okWide_slice Tryd.underlying23 (hval 1 23 v1 rfl rfl)
  have k0 := h0
  have k1 := h1
  have lt0 : ∀ x ∈ p0, x.block < W.heap.size := by obtain ⟨m, hm⟩ := k0; exact DataW.trod_lt m _ _ _ hm
  have lt1 : ∀ x ∈ p1, x.block < W.heap.size := by obtain ⟨m, hm⟩ := k1; exact DataW.trod_lt m _ _ _ hm
  obtain ⟨bs, e0, l0, m0, w0, z0, hn⟩ := open_row Tryd.underlying22 Tryd.underlying5 (by kernel_rfl) h0
  obtain ⟨l, e1, l1, m1, w1, z1, _⟩ := open_row Tryd.underlying23 Tryd.underlying30 (by kernel_rfl) h1
  clear hA0 hval0
  refine (preads_walk a0 a1 len0 len1 cap0 cap1 bs l W (type_of_laidT hL) e0 e1 (Nat.le_trans l0 m0) (Nat.le_trans l1 m1) w0 w1 hn z0 z1).mono fun e W' ⟨he, bel⟩ => ?_
  subst he
  exact ⟨_, rfl, _, _, _, [], _, [], hW', trodAll_mk1 (shut_bool Tryd.underlying4 _), (trodAll_cons_mk (Below.trod Tryd.laidAll (by kernel_rfl) (of_decide_eq_true (by kernel_rfl)) k0 bel lt0) (trodAll_cons_mk (Below.trod Tryd.laidAll (by kernel_rfl) (of_decide_eq_true (by kernel_rfl)) k1 bel lt1) trodAll_mk0)), rfl, bel.frame _, fun h => by cases h⟩

theorem preads_said : Rows.PrefixReadsSaid :=
  OpenClaim.holds_of_wide 3 Tryd.f3 rfl rfl rfl rfl rfl rfl rfl ⟨rfl, rfl, rfl, rfl, rfl⟩ rfl rfl rfl rfl rfl (by kernel_rfl) Tryd.func3 (by kernel_rfl)
    (of_decide_eq_true (by kernel_rfl)) (by unfold Func.isWrapper; rw [if_neg (of_decide_eq_false (by kernel_rfl))]; exact ⟨rfl, rfl⟩)
    (fun os started H enc _ => preads_lifted os started H enc)

theorem preads_card : Rows.PrefixReadsCardSaid :=
  Claim7.holds_tied_plain_at .later [] [.handle] true (true, "f82372df42155542fe6a16aee73603c1515014596285902b651ee69038eda7d6") true
    preads_said (fun _ h => by cases h) (by kernel_rfl) (fun _ h => by cases h) prefixReads_row_tie rfl ⟨rfl, rfl⟩ (by kernel_rfl) rfl
    (fun f fn hf hfn => by
      obtain rfl : f = 3 := Option.some.inj ((show Tryd.prog.funcNamed "belvedere/belvederelaw02.PrefixReads" = some 3 by kernel_rfl).symm.trans hf) |>.symm
      obtain rfl : fn = Tryd.f3 := (Option.some.inj (Tryd.func3.symm.trans hfn)).symm
      exact ⟨by kernel_rfl, fun j t ht => by
        rw [Tryd.params3] at ht
        match j, ht with
        | 0, ht => obtain rfl : _ = t := by simpa using ht
                   exact (show Tryd.prog.wantsStandIn 22 = false by kernel_rfl)
        | 1, ht => obtain rfl : _ = t := by simpa using ht
                   exact (show Tryd.prog.wantsStandIn 23 = false by kernel_rfl)
        | j + 2, ht => simp at ht⟩)
    (by kernel_rfl)
#print axioms preads_card
end Go.Proofs.YtbliddmkmieppaaDoor
