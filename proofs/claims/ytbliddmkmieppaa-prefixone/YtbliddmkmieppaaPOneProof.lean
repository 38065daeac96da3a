/- PrefixOne holds: for every row of bytes and every two numbers the law returns true, and each argument reads as it did. No condition. -/
import Derived.Test.YtbliddmkmieppaaPOne
import Derived.Test.YtbliddmkmieppaaOpn
namespace Go.Proofs.Ytbliddmkmieppaa
open Go.ChangeShapes Go.WideShapes Go.ChangeAt Go.RowKit

theorem pone_walk (a : Option Addr) (len cap : Nat) (bs : List Int) (n m : Int) (wn : (Lit.int .u64 n).wf = true) (wm : (Lit.int .u64 m).wf = true) (w : World) (hl : bs.length = len) (hcap : len ≤ cap) (hcap2 : cap ≤ maxLen)
    (hr : Row .u8 w w.heap.size a bs) (hb : ∀ z ∈ bs, (Lit.int .u8 z).wf = true) :
    Calls Try.prog 4 #[.slice a len cap, .int .u64 n, .int .u64 m] w fun e w' => e = .returned (.bool true) ∧ Below w.heap.size w w' := by
  unfold maxLen at hcap2
  subst hl
  obtain ⟨n0, n1⟩ := bounds_u64 wn
  obtain ⟨m0, m1⟩ := bounds_u64 wm
  by_cases h : 1000 < bs.length
  · exact pone_great a bs.length cap n m w (by omega) h
  · exact pone_small a cap bs n m n0 n1 m0 m1 w (by omega) hcap hcap2 hr (fun z hz => bounds_u8 (hb z hz))

set_option maxRecDepth 100000 in
theorem pone_lifted (os : Os) (started : os.Started) (H : Type) (enc : TypeId × Value → H) :
    ReturnsInHanded {} Try.checked os 4 .any (Rows.prefixOneSpec.pre6 enc Try.prog Try.f4 Rows.prefixOneRow.domain false) (Rows.prefixOneSpec.post enc Try.prog Try.f4 false true false false) := by
  refine returnsInHanded_of_change (C := Try.checked) Try.knob started (by kernel_rfl) Try.func4
    (ChangeSpec.witness6 (enc := enc) (C := Try.checked) false ⟨#[], #[.slice none 0 0, .int .u64 0, .int .u64 0], []⟩ 8 (by kernel_rfl) (by kernel_rfl) (by kernel_rfl) (by kernel_rfl)) ?_
  intro W base args ds gs before hval0 hW hcnd _
  have hval : ∀ (j : Nat) t v, Try.f4.params[j]? = some t → args[j]? = some v → Value.okWide Try.prog W .any base t v := hval0
  have hW' := hW
  obtain ⟨p, q, hA0, hV, rfl, hfz, hnd⟩ := hW
  have hA : DataW.TrodAll enc Try.prog W 0 (fun _ => true) true Try.f4.params.toList args.toList ds p := hA0
  rw [Try.params4] at hA hval
  obtain ⟨v0, vs0, d0, ds0, p0, q0, hargs, rfl, rfl, h0, r0⟩ := trodAll_cons hA
  obtain ⟨v1, vs1, d1, ds1, p1, q1, rfl, rfl, rfl, h1, r1⟩ := trodAll_cons r0
  obtain ⟨v2, vs2, d2, ds2, p2, q2, rfl, rfl, rfl, h2, r2⟩ := trodAll_cons r1
  obtain ⟨rfl, rfl, rfl⟩ := trodAll_nil r2
  obtain rfl : args = #[v0, v1, v2] := by cases args; simp_all
  obtain ⟨rfl, rfl⟩ := trodVars_none hV
  obtain ⟨a0, len0, cap0, rfl⟩ := okWide_slice Try.underlying22 (hval 0 22 v0 rfl rfl)
  have k0 := h0
  have lt0 : ∀ x ∈ p0, x.block < W.heap.size := by obtain ⟨m, hm⟩ := k0; exact DataW.trod_lt m _ _ _ hm
  obtain ⟨bs, hbl, hlc, hcm, hrow, hbw, _⟩ := open_row Try.underlying22 Try.underlying5 (by kernel_rfl) h0
  obtain ⟨a1, rfl, rfl, rfl, w1⟩ := open_int Try.underlying26 (hval 1 26 v1 rfl rfl) h1
  obtain ⟨a2, rfl, rfl, rfl, w2⟩ := open_int Try.underlying26 (hval 2 26 v2 rfl rfl) h2
  clear hA0 hval0
  refine (pone_walk a0 len0 cap0 bs a1 a2 w1 w2 W hbl hlc hcm hrow hbw).mono fun e W' ⟨he, bel⟩ => ?_
  subst he
  exact ⟨_, rfl, _, _, _, [], _, [], hW', trodAll_mk1 (shut_bool Try.underlying4 _), (trodAll_cons_mk (Below.trod Try.laidAll (by kernel_rfl) (of_decide_eq_true (by kernel_rfl)) k0 bel lt0) (trodAll_cons_mk (shut_int Try.underlying26 w1) (trodAll_cons_mk (shut_int Try.underlying26 w2) trodAll_mk0))), rfl, bel.frame _, fun h => by cases h⟩

theorem pone_said : Rows.PrefixOneSaid :=
  OpenClaim.holds_of_wide 4 Try.f4 rfl rfl rfl rfl rfl rfl rfl ⟨rfl, rfl, rfl, rfl, rfl⟩ rfl rfl rfl rfl rfl (by kernel_rfl) Try.func4 (by kernel_rfl)
    (of_decide_eq_true (by kernel_rfl)) (by unfold Func.isWrapper; rw [if_neg (of_decide_eq_false (by kernel_rfl))]; exact ⟨rfl, rfl⟩)
    (fun os started H enc _ => pone_lifted os started H enc)
#print axioms pone_said
end Go.Proofs.Ytbliddmkmieppaa
