/- SumRows holds: for every two rows of bytes and every place the law returns true, and each argument reads as it did. No condition. -/
import Derived.Test.YtnhhdnhfijaijaaSR
import Derived.Test.YtnhhdnhfijaijaaOpn
import Derived.Test.YtnhhdnhfijaijaaRows
namespace Go.Proofs.Ytnhhdnhfijaijaa
open Go.ChangeShapes Go.WideShapes Go.ChangeAt Go.RowKit

theorem srows_walk (a0 a2 : Option Addr) (n0 n2 c0 c2 : Nat) (t : Int) (al s : List Int) (w : World) (e0 : al.length = n0) (e2 : s.length = n2) (b0 : n0 ≤ 140737488355328) (b2 : n2 ≤ 140737488355328) (k0 : n0 ≤ c0) (k2 : n2 ≤ c2)
    (r0 : Row .u8 w w.heap.size a0 al) (r2 : Row .u8 w w.heap.size a2 s) (m0 : a0 = none → c0 = 0) (m2 : a2 = none → c2 = 0)
    (z0 : ∀ z ∈ al, (Lit.int .u8 z).wf = true) (z2 : ∀ z ∈ s, (Lit.int .u8 z).wf = true) :
    Calls Try.prog 3 #[.slice a0 n0 c0, .int .i64 t, .slice a2 n2 c2] w fun e w' => e = .returned (.bool true) ∧ Below w.heap.size w w' := by
  by_cases h : 20000 < n0 + n2
  · exact srows_great a0 a2 n0 n2 c0 c2 t w (by omega) (by omega) h
  · subst e0 e2
    exact srows_small a0 a2 c0 c2 t al s w (by omega) k0 k2 r0 r2 m0 m2 (fun z hz => bounds_u8 (z0 z hz)) (fun z hz => bounds_u8 (z2 z hz))

set_option maxRecDepth 100000 in
theorem srows_lifted (os : Os) (started : os.Started) (H : Type) (enc : TypeId × Value → H) :
    ReturnsInHanded {} Try.checked os 3 .any (Rows.sumRowsSpec.pre6 enc Try.prog Try.f3 Rows.sumRowsRow.domain false) (Rows.sumRowsSpec.post enc Try.prog Try.f3 false true false false) := by
  refine returnsInHanded_of_change_sized (C := Try.checked) Try.knob started (by kernel_rfl) Try.func3
    (ChangeSpec.witness6 (enc := enc) (C := Try.checked) false ⟨#[], #[.slice none 0 0, .int .i64 0, .slice none 0 0], []⟩ 8 (by kernel_rfl) (by kernel_rfl) (by kernel_rfl) (by kernel_rfl)) ?_
  intro W base args ds gs before hval0 hW hcnd hsz0 _
  have hsz : (DataW.weightsEach Try.prog (Try.f3.params.toList ++ Rows.sumRowsSpec.plain.varTypes Try.prog) (ds ++ gs)).all (· ≤ reachBytes) = true := hsz0
  clear hsz0
  have hval : ∀ (j : Nat) t v, Try.f3.params[j]? = some t → args[j]? = some v → Value.okWide Try.prog W .any base t v := hval0
  have hW' := hW
  obtain ⟨p, q, hA0, hV, rfl, hfz, hnd⟩ := hW
  have hA : DataW.TrodAll enc Try.prog W 0 (fun _ => true) true Try.f3.params.toList args.toList ds p := hA0
  rw [Try.params3] at hA hval hsz
  obtain ⟨v0, vs0, d0, ds0, p0, q0, hargs, rfl, rfl, h0, r0⟩ := trodAll_cons hA
  obtain ⟨v1, vs1, d1, ds1, p1, q1, rfl, rfl, rfl, h1, r1⟩ := trodAll_cons r0
  obtain ⟨v2, vs2, d2, ds2, p2, q2, rfl, rfl, rfl, h2, r2⟩ := trodAll_cons r1
  obtain ⟨rfl, rfl, rfl⟩ := trodAll_nil r2
  obtain rfl : args = #[v0, v1, v2] := by cases args; simp_all
  obtain ⟨rfl, rfl⟩ := trodVars_none hV
  obtain ⟨a0, len0, cap0, rfl⟩ := okWide_slice Try.underlying22 (hval 0 22 v0 rfl rfl)
  obtain ⟨a2, len2, cap2, rfl⟩ := okWide_slice Try.underlying22 (hval 2 22 v2 rfl rfl)
  have k0 := h0
  have k2 := h2
  have lt0 : ∀ x ∈ p0, x.block < W.heap.size := by obtain ⟨m, hm⟩ := k0; exact DataW.trod_lt m _ _ _ hm
  have lt2 : ∀ x ∈ p2, x.block < W.heap.size := by obtain ⟨m, hm⟩ := k2; exact DataW.trod_lt m _ _ _ hm
  obtain ⟨al, e0, g0, _, w0, z0, m0⟩ := open_row Try.underlying22 Try.underlying5 (by kernel_rfl) h0
  obtain ⟨a1, rfl, rfl, rfl, w1⟩ := open_int Try.underlying3 (hval 1 3 v1 rfl rfl) h1
  obtain ⟨s, e2, g2, _, w2, z2, m2⟩ := open_row Try.underlying22 Try.underlying5 (by kernel_rfl) h2
  have b0 := len_reach hsz (j := 0) (t := 22) rfl rfl Try.underlying22 (of_decide_eq_true (by kernel_rfl)) (open_len Try.underlying22 Try.underlying5 (by kernel_rfl) h0)
  have b2 := len_reach hsz (j := 2) (t := 22) rfl rfl Try.underlying22 (of_decide_eq_true (by kernel_rfl)) (open_len Try.underlying22 Try.underlying5 (by kernel_rfl) h2)
  clear hA0 hval0
  refine (srows_walk a0 a2 len0 len2 cap0 cap2 a1 al s W e0 e2 b0 b2 g0 g2 w0 w2 m0 m2 z0 z2).mono fun e W' ⟨he, bel⟩ => ?_
  subst he
  exact ⟨_, rfl, _, _, _, [], _, [], hW', trodAll_mk1 (shut_bool Try.underlying4 _), (trodAll_cons_mk (Below.trod Try.laidAll (by kernel_rfl) (of_decide_eq_true (by kernel_rfl)) k0 bel lt0) (trodAll_cons_mk (shut_int Try.underlying3 w1) (trodAll_cons_mk (Below.trod Try.laidAll (by kernel_rfl) (of_decide_eq_true (by kernel_rfl)) k2 bel lt2) trodAll_mk0))), rfl, bel.frame _, fun h => by cases h⟩

theorem srows_said : Rows.SumRowsSaid :=
  OpenClaim.holds_of_wide 3 Try.f3 rfl rfl rfl rfl rfl rfl rfl ⟨rfl, rfl, rfl, rfl, rfl⟩ rfl rfl rfl rfl rfl (by kernel_rfl) Try.func3 (by kernel_rfl)
    (of_decide_eq_true (by kernel_rfl)) (by unfold Func.isWrapper; rw [if_neg (of_decide_eq_false (by kernel_rfl))]; exact ⟨rfl, rfl⟩)
    (fun os started H enc _ => srows_lifted os started H enc)
#print axioms srows_said
end Go.Proofs.Ytnhhdnhfijaijaa
