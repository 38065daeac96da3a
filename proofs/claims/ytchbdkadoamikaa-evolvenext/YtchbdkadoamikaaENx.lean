-- ENx
import Derived.Test.YtchbdkadoamikaaEN10
import Derived.Lib.SmallJoins
import Derived.OpenShut
import Derived.ProofKit
import Derived.Test.YtchbdkadoamikaaOpn
import Derived.Test.YtchbdkadoamikaaRows
import Derived.ChangeOld
section
namespace Go.Proofs.Ytchbdkadoamikaa
open Go.ChangeShapes Go.WideShapes Go.RowKit Go.Joins
set_option maxRecDepth 100000

theorem enx_many (n no : Nat) (hl : 4 < n ∨ 4 < no) (p0 p1 : Int) (a ao : Option Addr) (cap capo : Nat) (w : World) : Calls Try.prog 3 #[.slice a n cap, .agg #[.int .u8 p0, .int .u8 p1], .slice ao no capo] w fun e w' => e = .returned (.bool true) ∧ Below w.heap.size w w' := by
  have HB0 := Lib.hid (bel1 w (.cells #[.int .u8 p0, .int .u8 p1] 23))
  by_cases h4 : 4 < n
  · have gl : decide ((4 : Int) < (n : Int)) = true := by simp; omega
    have gl' : decide (4 < n) = true := by simp; omega
    clear hl
    go_enter Try.func3, Try.ntmps3
    go_wp2_with fail
    refine (lives10_any _).mono ?_
    rintro e W1 ⟨rfl, hb⟩
    have HB1 := Lib.hid (HB0.out.trans (hb.mono HB0.out.size))
    clear hb
    go_wp2_with fail
    refine (lives10_any _).mono ?_
    rintro e W2 ⟨rfl, hb⟩
    have HB2 := Lib.hid (HB1.out.trans (hb.mono HB1.out.size))
    clear hb
    go_wp2_with fail
    go_ret
    exact ⟨rfl, HB2.out⟩
  · have gl : decide ((4 : Int) < (n : Int)) = false := by simp; omega
    have gl' : decide (4 < n) = false := by simp; omega
    have gm : decide ((4 : Int) < (no : Int)) = true := by simp; omega
    have gm' : decide (4 < no) = true := by simp; omega
    clear hl
    go_enter Try.func3, Try.ntmps3
    go_wp2_with fail
    refine (lives10_any _).mono ?_
    rintro e W1 ⟨rfl, hb⟩
    have HB1 := Lib.hid (HB0.out.trans (hb.mono HB0.out.size))
    clear hb
    go_wp2_with fail
    refine (lives10_any _).mono ?_
    rintro e W2 ⟨rfl, hb⟩
    have HB2 := Lib.hid (HB1.out.trans (hb.mono HB1.out.size))
    clear hb
    go_wp2_with fail
    go_ret
    exact ⟨rfl, HB2.out⟩
theorem enext_walk (zs : List Int) (wz : ∀ z ∈ zs, (Lit.int .u64 z).wf = true) (a : Option Addr) (n cap : Nat) (hn : zs.length = n) (_ : n ≤ maxLen) (p0 : Int) (wp0 : (Lit.int .u8 p0).wf = true) (p1 : Int) (wp1 : (Lit.int .u8 p1).wf = true)
    (zo : List Int) (wo : ∀ z ∈ zo, (Lit.int .u64 z).wf = true) (ao : Option Addr) (no capo : Nat) (hno : zo.length = no) (_ : no ≤ maxLen) (w : World) (h : Row .u64 w w.heap.size a zs) (ho : Row .u64 w w.heap.size ao zo) :
    Calls Try.prog 3 #[.slice a n cap, .agg #[.int .u8 p0, .int .u8 p1], .slice ao no capo] w fun e w' => e = .returned (.bool true) ∧ Below w.heap.size w w' := by
  by_cases h4 : 4 < n ∨ 4 < no
  · exact enx_many n no h4 p0 p1 a ao cap capo w
  · obtain ⟨p0, rfl⟩ : ∃ k : Nat, p0 = (k : Int) := ⟨p0.toNat, by simp [Lit.wf, IntKind.min, IntKind.max, IntKind.signed, IntKind.bits] at wp0; omega⟩
    obtain ⟨p1, rfl⟩ : ∃ k : Nat, p1 = (k : Int) := ⟨p1.toNat, by simp [Lit.wf, IntKind.min, IntKind.max, IntKind.signed, IntKind.bits] at wp1; omega⟩
    have hp0 : p0 < 256 := by simp [Lit.wf, IntKind.min, IntKind.max, IntKind.signed, IntKind.bits] at wp0; omega
    have hp1 : p1 < 256 := by simp [Lit.wf, IntKind.min, IntKind.max, IntKind.signed, IntKind.bits] at wp1; omega
    obtain ⟨h1, h2, h3⟩ := rowU_of h wz
    obtain ⟨k1, k2, k3⟩ := rowU_of ho wo
    have l1 : (zs.map Int.toNat).length = n := by rw [List.length_map]; exact hn
    have l2 : (zo.map Int.toNat).length = no := by rw [List.length_map]; exact hno
    rw [← l1, ← l2]
    have e4 : (zs.map Int.toNat).length ≤ 4 := by omega
    have e5 : (zo.map Int.toNat).length ≤ 4 := by omega
    have c0 : p0 % 3 = 0 ∨ (p0 % 3 = 1 ∧ p1 % 2 = 0) ∨ (p0 % 3 = 1 ∧ p1 % 2 = 1) ∨ (p0 % 3 = 2 ∧ p1 % 3 = 0) ∨ (p0 % 3 = 2 ∧ p1 % 3 = 1) ∨ (p0 % 3 = 2 ∧ p1 % 3 = 2) := by omega
    rcases c0 with c | ⟨c, d⟩ | ⟨c, d⟩ | ⟨c, d⟩ | ⟨c, d⟩ | ⟨c, d⟩
    · exact enx_0_0 _ _ e4 e5 h3 k3 p0 p1 hp0 hp1 c (by omega) a ao cap capo w h1 h2 k1 k2
    · exact enx_1_0 _ _ e4 e5 h3 k3 p0 p1 hp0 hp1 c d a ao cap capo w h1 h2 k1 k2
    · exact enx_1_1 _ _ e4 e5 h3 k3 p0 p1 hp0 hp1 c d a ao cap capo w h1 h2 k1 k2
    · exact enx_2_0 _ _ e4 e5 h3 k3 p0 p1 hp0 hp1 c d a ao cap capo w h1 h2 k1 k2
    · exact enx_2_1 _ _ e4 e5 h3 k3 p0 p1 hp0 hp1 c d a ao cap capo w h1 h2 k1 k2
    · exact enx_2_2 _ _ e4 e5 h3 k3 p0 p1 hp0 hp1 c d a ao cap capo w h1 h2 k1 k2
theorem okWide_arr8 {P : Program} {w : World} {r : Reach} {b0 : Nat} {t e : TypeId} {n : Nat} {v : Value} (ht : P.underlying t = some (.array n e)) (h : Value.okWide P w r b0 t v) : ∃ cs, v = .agg cs ∧ cs.size = P.cellsOf t := by
  simp only [Value.okWide, ht] at h
  obtain ⟨cs, h1, h2, _⟩ := h
  exact ⟨cs, h1, h2⟩
theorem open_arr8 {H : Type} {enc : TypeId × Value → H} {w : World} {base : Nat} {spare : Nat → Bool} {held : Bool} {r : Reach} {b0 : Nat} {v : Value} {d : DataW H} {p : List MemPlace}
    (hv : Value.okWide Try.prog w r b0 23 v) (h : DataW.Trod enc Try.prog w base spare held 23 v d p) :
    ∃ a b, v = .agg #[.int .u8 a, .int .u8 b] ∧ (Lit.int .u8 a).wf = true ∧ (Lit.int .u8 b).wf = true := by
  obtain ⟨cs, rfl, hsz⟩ := okWide_arr8 Try.underlying23 hv
  obtain ⟨c0, c1, rfl⟩ := array2 (hsz.trans (show Try.prog.cellsOf 23 = 2 by kernel_rfl))
  obtain ⟨fuel, hf⟩ := h
  obtain ⟨xs, m, _, _, _, hl, hi⟩ := DataW.trod_array Try.underlying23 hf
  have hc : Try.prog.cellsOf 5 = 1 := by kernel_rfl
  obtain ⟨y0, y1, rfl⟩ : ∃ y0 y1, xs = [y0, y1] := match xs, hl with
    | [y0, y1], _ => ⟨y0, y1, rfl⟩
  have h0 := hi 0 (by omega)
  have h1 := hi 1 (by omega)
  simp only [hc, Value.cells] at h0 h1
  obtain ⟨a, e0, _, wa⟩ := DataW.trod_int Try.underlying5 h0
  obtain ⟨b, e1, _, wb⟩ := DataW.trod_int Try.underlying5 h1
  simp at e0 e1
  subst e0 e1
  exact ⟨a, b, rfl, wa, wb⟩
end Go.Proofs.Ytchbdkadoamikaa
end

section
namespace Go.Proofs.Ytchbdkadoamikaa
open Go.ChangeShapes Go.WideShapes Go.ChangeAt Go.RowKit

set_option maxRecDepth 100000 in
theorem enext_lifted (os : Os) (started : os.Started) (H : Type) (enc : TypeId × Value → H) :
    ReturnsInHanded {} Try.checked os 3 .any (Rows.evolveNextSpec.pre6 enc Try.prog Try.f3 Rows.evolveNextRow.domain false) (Rows.evolveNextSpec.post enc Try.prog Try.f3 false true false false) := by
  refine returnsInHanded_of_change (C := Try.checked) Try.knob started (by kernel_rfl) Try.func3
    (ChangeSpec.witness6 (enc := enc) (C := Try.checked) false ⟨#[], #[.slice none 0 0, .agg #[.int .u8 0, .int .u8 0], .slice none 0 0], []⟩ 8 (by kernel_rfl) (by kernel_rfl) (by kernel_rfl) (by kernel_rfl)) ?_
  intro W base args ds gs before hval0 hW hcnd _
  have hval : ∀ (j : Nat) t v, Try.f3.params[j]? = some t → args[j]? = some v → Value.okWide Try.prog W .any base t v := hval0
  have hW' := hW
  obtain ⟨p, q, hA0, hV, rfl, hfz, hnd⟩ := hW
  have hA : DataW.TrodAll enc Try.prog W 0 (fun _ => true) true Try.f3.params.toList args.toList ds p := hA0
  rw [Try.params3] at hA hval
  obtain ⟨v0, vs0, d0, ds0, p0, q0, hargs, rfl, rfl, h0, r0⟩ := trodAll_cons hA
  obtain ⟨v1, vs1, d1, ds1, p1, q1, rfl, rfl, rfl, h1, r1⟩ := trodAll_cons r0
  obtain ⟨v2, vs2, d2, ds2, p2, q2, rfl, rfl, rfl, h2, r2⟩ := trodAll_cons r1
  obtain ⟨rfl, rfl, rfl⟩ := trodAll_nil r2
  obtain rfl : args = #[v0, v1, v2] := by cases args; simp_all
  obtain ⟨rfl, rfl⟩ := trodVars_none hV
  obtain ⟨a0, len0, cap0, rfl⟩ := okWide_slice Try.underlying22 (hval 0 22 v0 rfl rfl)
  have k0 := h0
  have lt0 : ∀ x ∈ p0, x.block < W.heap.size := by obtain ⟨m, hm⟩ := k0; exact DataW.trod_lt m _ _ _ hm
  obtain ⟨zs0, e0, hle0, hcm0, w0, z0, _⟩ := open_row Try.underlying22 Try.underlying54 (by kernel_rfl) h0
  have k1 := h1
  have lt1 : ∀ x ∈ p1, x.block < W.heap.size := by obtain ⟨m, hm⟩ := k1; exact DataW.trod_lt m _ _ _ hm
  obtain ⟨x1, y1, rfl, wx1, wy1⟩ := open_arr8 (hval 1 23 v1 rfl rfl) h1
  obtain ⟨a2, len2, cap2, rfl⟩ := okWide_slice Try.underlying22 (hval 2 22 v2 rfl rfl)
  have k2 := h2
  have lt2 : ∀ x ∈ p2, x.block < W.heap.size := by obtain ⟨m, hm⟩ := k2; exact DataW.trod_lt m _ _ _ hm
  obtain ⟨zs2, e2, hle2, hcm2, w2, z2, _⟩ := open_row Try.underlying22 Try.underlying54 (by kernel_rfl) h2
  clear hA0 hval0
  refine (enext_walk zs0 z0 a0 len0 cap0 e0 (Nat.le_trans hle0 hcm0) x1 wx1 y1 wy1 zs2 z2 a2 len2 cap2 e2 (Nat.le_trans hle2 hcm2) W w0 w2).mono fun e W' ⟨he, bel⟩ => ?_
  subst he
  exact ⟨_, rfl, _, _, _, [], _, [], hW', trodAll_mk1 (shut_bool Try.underlying4 _), (trodAll_cons_mk (Below.trod Try.laidAll (by kernel_rfl) (of_decide_eq_true (by kernel_rfl)) k0 bel lt0) (trodAll_cons_mk (Below.trod Try.laidAll (by kernel_rfl) (of_decide_eq_true (by kernel_rfl)) k1 bel lt1) (trodAll_cons_mk (Below.trod Try.laidAll (by kernel_rfl) (of_decide_eq_true (by kernel_rfl)) k2 bel lt2) trodAll_mk0))), rfl, bel.frame _, fun h => by cases h⟩

theorem enext_said : Rows.EvolveNextSaid :=
  OpenClaim.holds_of_wide 3 Try.f3 rfl rfl rfl rfl rfl rfl rfl ⟨rfl, rfl, rfl, rfl, rfl⟩ rfl rfl rfl rfl rfl (by kernel_rfl) Try.func3 (by kernel_rfl)
    (of_decide_eq_true (by kernel_rfl)) (by unfold Func.isWrapper; rw [if_neg (of_decide_eq_false (by kernel_rfl))]; exact ⟨rfl, rfl⟩)
    (fun os started H enc _ => enext_lifted os started H enc)
#print axioms enext_said
end Go.Proofs.Ytchbdkadoamikaa
end
