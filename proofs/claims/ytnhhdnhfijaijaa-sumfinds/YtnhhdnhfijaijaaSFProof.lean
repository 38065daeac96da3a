/- SumFinds holds: for every row of bytes, every place and every pattern of 32 bits the law returns true, and each argument reads as it did. No condition. -/
import Derived.Test.YtnhhdnhfijaijaaSF
import Derived.Test.YtnhhdnhfijaijaaOpn
import Derived.Test.YtnhhdnhfijaijaaRows
namespace Go.Proofs.Ytnhhdnhfijaijaa
open Go.ChangeShapes Go.WideShapes Go.ChangeAt Go.RowKit

theorem sfinds_walk (a : Option Addr) (len cap : Nat) (bs : List Int) (n m : Int) (wm : (Lit.int .u32 m).wf = true) (w : World) (hl : bs.length = len) (hlen : len ≤ 140737488355328) (hn : a = none → cap = 0)
    (hr : Row .u8 w w.heap.size a bs) (hb : ∀ z ∈ bs, (Lit.int .u8 z).wf = true) :
    Calls Try.prog 4 #[.slice a len cap, .int .i64 n, .int .u32 m] w fun e w' => e = .returned (.bool true) ∧ Below w.heap.size w w' := by
  subst hl
  obtain ⟨m0, m1⟩ := bounds_u32 wm
  by_cases h : bs.length < 4 ∨ 20000 < bs.length ∨ m = 0
  · exact sfinds_great a bs.length cap n m w (by omega) h
  · have e : m = ((BitVec.ofNat 32 m.toNat).toNat : Int) := by rw [BitVec.toNat_ofNat, Nat.mod_eq_of_lt (by omega)]; omega
    have hne : BitVec.ofNat 32 m.toNat ≠ 0#32 := fun h0 => by
      rw [h0] at e
      exact h (Or.inr (Or.inr e))
    rw [e]
    exact sfinds_small a cap n (BitVec.ofNat 32 m.toNat) bs w (by omega) (by omega) hne hr hn (fun z hz => bounds_u8 (hb z hz))

set_option maxRecDepth 100000 in
theorem sfinds_lifted (os : Os) (started : os.Started) (H : Type) (enc : TypeId × Value → H) :
    ReturnsInHanded {} Try.checked os 4 .any (Rows.sumFindsSpec.pre6 enc Try.prog Try.f4 Rows.sumFindsRow.domain false) (Rows.sumFindsSpec.post enc Try.prog Try.f4 false true false false) := by
  refine returnsInHanded_of_change_sized (C := Try.checked) Try.knob started (by kernel_rfl) Try.func4
    (ChangeSpec.witness6 (enc := enc) (C := Try.checked) false ⟨#[], #[.slice none 0 0, .int .i64 0, .int .u32 0], []⟩ 8 (by kernel_rfl) (by kernel_rfl) (by kernel_rfl) (by kernel_rfl)) ?_
  intro W base args ds gs before hval0 hW hcnd hsz0 _
  have hsz : (DataW.weightsEach Try.prog (Try.f4.params.toList ++ Rows.sumFindsSpec.plain.varTypes Try.prog) (ds ++ gs)).all (· ≤ reachBytes) = true := hsz0
  clear hsz0
  have hval : ∀ (j : Nat) t v, Try.f4.params[j]? = some t → args[j]? = some v → Value.okWide Try.prog W .any base t v := hval0
  have hW' := hW
  obtain ⟨p, q, hA0, hV, rfl, hfz, hnd⟩ := hW
  have hA : DataW.TrodAll enc Try.prog W 0 (fun _ => true) true Try.f4.params.toList args.toList ds p := hA0
  rw [Try.params4] at hA hval hsz
  obtain ⟨v0, vs0, d0, ds0, p0, q0, hargs, rfl, rfl, h0, r0⟩ := trodAll_cons hA
  obtain ⟨v1, vs1, d1, ds1, p1, q1, rfl, rfl, rfl, h1, r1⟩ := trodAll_cons r0
  obtain ⟨v2, vs2, d2, ds2, p2, q2, rfl, rfl, rfl, h2, r2⟩ := trodAll_cons r1
  obtain ⟨rfl, rfl, rfl⟩ := trodAll_nil r2
  obtain rfl : args = #[v0, v1, v2] := by cases args; simp_all
  obtain ⟨rfl, rfl⟩ := trodVars_none hV
  obtain ⟨a0, len0, cap0, rfl⟩ := okWide_slice Try.underlying22 (hval 0 22 v0 rfl rfl)
  have k0 := h0
  have lt0 : ∀ x ∈ p0, x.block < W.heap.size := by obtain ⟨m, hm⟩ := k0; exact DataW.trod_lt m _ _ _ hm
  obtain ⟨bs, hbl, _, _, hrow, hbw, hn⟩ := open_row Try.underlying22 Try.underlying5 (by kernel_rfl) h0
  have b0 := len_reach hsz (j := 0) (t := 22) rfl rfl Try.underlying22 (of_decide_eq_true (by kernel_rfl)) (open_len Try.underlying22 Try.underlying5 (by kernel_rfl) h0)
  obtain ⟨a1, rfl, rfl, rfl, w1⟩ := open_int Try.underlying3 (hval 1 3 v1 rfl rfl) h1
  obtain ⟨a2, rfl, rfl, rfl, w2⟩ := open_int Try.underlying25 (hval 2 25 v2 rfl rfl) h2
  clear hA0 hval0
  refine (sfinds_walk a0 len0 cap0 bs a1 a2 w2 W hbl b0 hn hrow hbw).mono fun e W' ⟨he, bel⟩ => ?_
  subst he
  exact ⟨_, rfl, _, _, _, [], _, [], hW', trodAll_mk1 (shut_bool Try.underlying4 _), (trodAll_cons_mk (Below.trod Try.laidAll (by kernel_rfl) (of_decide_eq_true (by kernel_rfl)) k0 bel lt0) (trodAll_cons_mk (shut_int Try.underlying3 w1) (trodAll_cons_mk (shut_int Try.underlying25 w2) trodAll_mk0))), rfl, bel.frame _, fun h => by cases h⟩

theorem sfinds_said : Rows.SumFindsSaid :=
  OpenClaim.holds_of_wide 4 Try.f4 rfl rfl rfl rfl rfl rfl rfl ⟨rfl, rfl, rfl, rfl, rfl⟩ rfl rfl rfl rfl rfl (by kernel_rfl) Try.func4 (by kernel_rfl)
    (of_decide_eq_true (by kernel_rfl)) (by unfold Func.isWrapper; rw [if_neg (of_decide_eq_false (by kernel_rfl))]; exact ⟨rfl, rfl⟩)
    (fun os started H enc _ => sfinds_lifted os started H enc)
#print axioms sfinds_said
end Go.Proofs.Ytnhhdnhfijaijaa
