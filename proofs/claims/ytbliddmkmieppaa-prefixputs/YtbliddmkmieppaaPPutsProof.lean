/- PrefixPuts holds: for every row of bytes and all rows of numbers the law returns true, and each argument reads as it did. No condition. -/
import Derived.Test.YtbliddmkmieppaaPPuts
import Derived.Test.YtbliddmkmieppaaOpn
namespace Go.Proofs.Ytbliddmkmieppaa
open Go.ChangeShapes Go.WideShapes Go.ChangeAt Go.RowKit

theorem pputs_walk (a0 a1 a2 : Option Addr) (n0 n1 n2 c0 c1 c2 : Nat) (al l s : List Int) (w : World) (e0 : al.length = n0) (e1 : l.length = n1) (e2 : s.length = n2) (b0 : n0 ≤ 140737488355328) (b1 : n1 ≤ 140737488355328) (b2 : n2 ≤ 140737488355328)
    (r0 : Row .u8 w w.heap.size a0 al) (r1 : Row .u64 w w.heap.size a1 l) (r2 : Row .i64 w w.heap.size a2 s) (hn : a0 = none → c0 = 0)
    (z1 : ∀ z ∈ l, (Lit.int .u64 z).wf = true) (z2 : ∀ z ∈ s, (Lit.int .i64 z).wf = true) :
    Calls Try.prog 3 #[.slice a0 n0 c0, .slice a1 n1 c1, .slice a2 n2 c2] w fun e w' => e = .returned (.bool true) ∧ Below w.heap.size w w' := by
  by_cases h : 200 < n0 ∨ 100 < n1 + n2
  · exact pputs_great a0 a1 a2 n0 n1 n2 c0 c1 c2 w (by omega) (by omega) (by omega) h
  · subst e0 e1 e2
    exact pputs_small a0 a1 a2 c0 c1 c2 al l s w (by omega) (by omega) r0 r1 r2 hn (fun z hz => bounds_u64 (z1 z hz)) (fun z hz => bounds_i64 (z2 z hz))

set_option maxRecDepth 100000 in
theorem pputs_lifted (os : Os) (started : os.Started) (H : Type) (enc : TypeId × Value → H) :
    ReturnsInHanded {} Try.checked os 3 .any (Rows.prefixPutsSpec.pre6 enc Try.prog Try.f3 Rows.prefixPutsRow.domain false) (Rows.prefixPutsSpec.post enc Try.prog Try.f3 false true false false) := by
  refine returnsInHanded_of_change_sized (C := Try.checked) Try.knob started (by kernel_rfl) Try.func3
    (ChangeSpec.witness6 (enc := enc) (C := Try.checked) false ⟨#[], #[.slice none 0 0, .slice none 0 0, .slice none 0 0], []⟩ 8 (by kernel_rfl) (by kernel_rfl) (by kernel_rfl) (by kernel_rfl)) ?_
  intro W base args ds gs before hval0 hW hcnd hsz0 _
  have hsz : (DataW.weightsEach Try.prog (Try.f3.params.toList ++ Rows.prefixPutsSpec.plain.varTypes Try.prog) (ds ++ gs)).all (· ≤ reachBytes) = true := hsz0
  clear hsz0
  have hval : ∀ (j : Nat) t v, Try.f3.params[j]? = some t → args[j]? = some v → Value.okWide Try.prog W .any base t v := hval0
  have hW' := hW
  obtain ⟨p, q, hA0, hV, rfl, hfz, hnd⟩ := hW
  have hA : DataW.TrodAll enc Try.prog W 0 (fun _ => true) true Try.f3.params.toList args.toList ds p := hA0
  rw [Try.params3] at hA hval hsz
  obtain ⟨v0, vs0, d0, ds0, p0, q0, hargs, rfl, rfl, h0, r0⟩ := trodAll_cons hA
  obtain ⟨v1, vs1, d1, ds1, p1, q1, rfl, rfl, rfl, h1, r1⟩ := trodAll_cons r0
  obtain ⟨v2, vs2, d2, ds2, p2, q2, rfl, rfl, rfl, h2, r2⟩ := trodAll_cons r1
  obtain ⟨rfl, rfl, rfl⟩ := trodAll_nil r2
  obtain rfl : args = #[v0, v1, v2] := by cases args; simp_all
  obtain ⟨rfl, rfl⟩ := trodVars_none hV
  obtain ⟨a0, len0, cap0, rfl⟩ := okWide_slice Try.underlying22 (hval 0 22 v0 rfl rfl)
  obtain ⟨a1, len1, cap1, rfl⟩ := okWide_slice Try.underlying23 (hval 1 23 v1 rfl rfl)
  obtain ⟨a2, len2, cap2, rfl⟩ := okWide_slice Try.underlying24 (hval 2 24 v2 rfl rfl)
  have k0 := h0
  have k1 := h1
  have k2 := h2
  have lt0 : ∀ x ∈ p0, x.block < W.heap.size := by obtain ⟨m, hm⟩ := k0; exact DataW.trod_lt m _ _ _ hm
  have lt1 : ∀ x ∈ p1, x.block < W.heap.size := by obtain ⟨m, hm⟩ := k1; exact DataW.trod_lt m _ _ _ hm
  have lt2 : ∀ x ∈ p2, x.block < W.heap.size := by obtain ⟨m, hm⟩ := k2; exact DataW.trod_lt m _ _ _ hm
  obtain ⟨al, e0, _, _, w0, _, hn⟩ := open_row Try.underlying22 Try.underlying5 (by kernel_rfl) h0
  obtain ⟨l, e1, _, _, w1, z1, _⟩ := open_row Try.underlying23 Try.underlying26 (by kernel_rfl) h1
  obtain ⟨s, e2, _, _, w2, z2, _⟩ := open_row Try.underlying24 Try.underlying2 (by kernel_rfl) h2
  have b0 := len_reach hsz (j := 0) (t := 22) rfl rfl Try.underlying22 (of_decide_eq_true (by kernel_rfl)) (open_len Try.underlying22 Try.underlying5 (by kernel_rfl) h0)
  have b1 := len_reach hsz (j := 1) (t := 23) rfl rfl Try.underlying23 (of_decide_eq_true (by kernel_rfl)) (open_len Try.underlying23 Try.underlying26 (by kernel_rfl) h1)
  have b2 := len_reach hsz (j := 2) (t := 24) rfl rfl Try.underlying24 (of_decide_eq_true (by kernel_rfl)) (open_len Try.underlying24 Try.underlying2 (by kernel_rfl) h2)
  clear hA0 hval0
  refine (pputs_walk a0 a1 a2 len0 len1 len2 cap0 cap1 cap2 al l s W e0 e1 e2 b0 b1 b2 w0 w1 w2 hn z1 z2).mono fun e W' ⟨he, bel⟩ => ?_
  subst he
  exact ⟨_, rfl, _, _, _, [], _, [], hW', trodAll_mk1 (shut_bool Try.underlying4 _), (trodAll_cons_mk (Below.trod Try.laidAll (by kernel_rfl) (of_decide_eq_true (by kernel_rfl)) k0 bel lt0) (trodAll_cons_mk (Below.trod Try.laidAll (by kernel_rfl) (of_decide_eq_true (by kernel_rfl)) k1 bel lt1) (trodAll_cons_mk (Below.trod Try.laidAll (by kernel_rfl) (of_decide_eq_true (by kernel_rfl)) k2 bel lt2) trodAll_mk0))), rfl, bel.frame _, fun h => by cases h⟩

theorem pputs_said : Rows.PrefixPutsSaid :=
  OpenClaim.holds_of_wide 3 Try.f3 rfl rfl rfl rfl rfl rfl rfl ⟨rfl, rfl, rfl, rfl, rfl⟩ rfl rfl rfl rfl rfl (by kernel_rfl) Try.func3 (by kernel_rfl)
    (of_decide_eq_true (by kernel_rfl)) (by unfold Func.isWrapper; rw [if_neg (of_decide_eq_false (by kernel_rfl))]; exact ⟨rfl, rfl⟩)
    (fun os started H enc _ => pputs_lifted os started H enc)
#print axioms pputs_said
end Go.Proofs.Ytbliddmkmieppaa
