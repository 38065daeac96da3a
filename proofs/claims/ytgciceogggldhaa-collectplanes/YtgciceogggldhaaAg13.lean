/- Package collect: maps by squares' numbers; again: contracts. -/
import Derived.Test.YtgciceogggldhaaNe13
import Derived.Test.YtgciceogggldhaaGd12
namespace Go.Proofs.Ytgciceogggldhaa
open Go.RowKit Go.Maps
set_option maxRecDepth 100000

theorem id_lit {x : Nat} (hx : x < 4294967296) : (Lit.int .u32 (x : Int)).wf = true := by simp [Lit.wf, IntKind.min, IntKind.max, IntKind.bits, IntKind.signed]; omega
theorem id_few (ks : List Nat) (hn : ks.Nodup) (hk : ∀ a ∈ ks, a < 4294967296) : ks.length < maxLen :=
  few_of (fun x : Nat => x) 4294967296 (by decide) (fun a ha => ha) (fun a b _ _ e => e) ks hn hk
/-- Numbers by numbers. -/
def mkI : Mk 34 34 71 Nat where
  keyed := int_keyed Try.underlying34
  ht := Try.underlying71
  kv := fun x => .int .u32 (x : Int)
  ok := fun x => x < 4294967296
  kl := fun x => .int .u32 (x : Int)
  hkey := fun a ha => keyOf_int_mk Try.underlying34 (id_lit ha)
  inj := fun a b _ _ h => by have := (Lit.int.inj h).2; omega
  zero := .int .u32 0
  hz := fun w => by kernel_rfl
  few := id_few
/-- Bools by numbers. -/
def mkQ : Mk 34 4 45 Nat where
  keyed := int_keyed Try.underlying34
  ht := Try.underlying45
  kv := fun x => .int .u32 (x : Int)
  ok := fun x => x < 4294967296
  kl := fun x => .int .u32 (x : Int)
  hkey := fun a ha => keyOf_int_mk Try.underlying34 (id_lit ha)
  inj := fun a b _ _ h => by have := (Lit.int.inj h).2; omega
  zero := .bool false
  hz := fun w => by kernel_rfl
  few := id_few
theorem GMap.look1 {k e t : TypeId} {α : Type} {K : Mk k e t α} {w : World} {b : Nat} {m : α → Option Value} (h : GMap K w b m) (a : α) (ha : K.ok a) :
    (∀ v, m a = some v → (Instr.lookup t (.map (some b)) (K.kv a) false).run Try.prog w = .ok v w) ∧
    (m a = none → (Instr.lookup t (.map (some b)) (K.kv a) false).run Try.prog w = .ok K.zero w) := by
  obtain ⟨D, ks, ho, hs, hnd, hok, hmem, hval⟩ := h
  obtain ⟨v, ps, hr, hv⟩ := ho.lookup K.keyed K.ht (K.hz w) (zd := .held K.zero) (zp := []) rfl (K.hkey a ha)
  obtain ⟨g1, g2⟩ := hval a ha
  simp only [heldR, Option.some.injEq, Prod.mk.injEq] at hv
  refine ⟨fun u hu => ?_, fun hn => ?_⟩
  · obtain ⟨h1, h2⟩ := g1 u hu
    rw [h2] at hv
    rw [hr]
    have := hv.1
    simp only [DataW.held.injEq] at this
    rw [this]
  · have h1 := g2 hn
    rw [Maps.atKey_of_not_has h1] at hv
    rw [hr]
    have := hv.1
    simp only [DataW.held.injEq] at this
    rw [this]
/-- Which number a square has now, behind so many. -/
def nowF (F : List Bool) (j : Nat) (x : Nat) : Option Value := if nd13 F x = true ∧ rk13 F x < j then some (.int .u32 (rk13 F x : Int)) else none
theorem now_step {F : List Bool} {n j x : Nat} (hj : (ndL F n)[j]? = some x) : (fun y => if y = x then some (Value.int .u32 (j : Int)) else nowF F j y) = nowF F (j + 1) := by
  obtain ⟨h1, h2, h3⟩ := ndL_of hj
  funext y
  unfold nowF
  by_cases hy : y = x
  · subst hy
    rw [if_pos rfl, if_pos ⟨h1, by omega⟩, h3]
  · rw [if_neg hy]
    by_cases hn : nd13 F y = true
    · have hne : rk13 F y ≠ j := fun e => hy (rk_inj hn h1 (by omega))
      by_cases hl : rk13 F y < j
      · rw [if_pos ⟨hn, hl⟩, if_pos ⟨hn, by omega⟩]
      · rw [if_neg (fun h => hl h.2), if_neg (fun h => by have := h.2; omega)]
    · rw [if_neg (fun h => hn h.1), if_neg (fun h => hn h.1)]
theorem kAt_rk (F : List Bool) (k : K4) {i : Nat} (hi : i < 4) : kAt (rkK F k) i = rk13 F (kAt k i) := by
  have : i = 0 ∨ i = 1 ∨ i = 2 ∨ i = 3 := by omega
  rcases this with rfl | rfl | rfl | rfl <;> rfl
theorem mk4_rk (F : List Bool) (k : K4) {q : Nat → Nat} (h : ∀ i, i < 4 → q i = rk13 F (kAt k i)) : mk4 q = rkK F k := by
  rw [mk4_ext (g := kAt (rkK F k)) (fun i hi => by rw [h i hi, kAt_rk F k hi]), mk4_kAt]
theorem again_low {w : World} {sb g tb cap most : Nat} {N : List Nd} (h : St w sb g tb cap most N) {x : Nat} (hx : x < 2) (p m : Value) :
    Calls Try.prog 25 #[p, .pointer (some ⟨sb, 0, none⟩), .int .u32 (x : Int), m] w fun e w' => e = .returned (.int .u32 (x : Int)) ∧ Below w.heap.size w w' := by
  have hlv : lvZ N x < 1 := by
    have hw := h.wf
    have : x = 0 ∨ x = 1 := by omega
    unfold lvZ
    rcases this with rfl | rfl
    · rw [hw.dead]; decide
    · rw [hw.alive]; decide
  have HOF := Lib.hid (of_bad h x (by omega) hlv)
  clear h hlv
  go_enter Try.func25, Try.ntmps25
  go_wp2_with fail
  refine HOF.out.mono ?_
  rintro e W1 ⟨rfl, hb⟩
  have HB1 := Lib.hid (hb.trans ((bel1 W1 (.cells #[.int .u32 ((0 : Nat) : Int), .int .u32 ((0 : Nat) : Int), .int .u32 ((0 : Nat) : Int), .int .u32 ((0 : Nat) : Int)] 68)).mono hb.size))
  clear hb
  unfold kv
  go_wp2_with fail
  go_ret
  exact ⟨rfl, HB1.out⟩
set_option maxHeartbeats 4000000 in
theorem again_up {w : World} {sb g tb cap most : Nat} {N : List Nd} (h : St w sb g tb cap most N) {fb fg ftb fcap fmost : Nat} {F : List Bool} {j x mb : Nat} (hf : St w fb fg ftb fcap fmost ((cmpN N F).take j)) (hc : Cl13 N F)
    (hj : (ndL F N.length)[j]? = some x) (hx : 2 ≤ x) (hm : GMap mkI w mb (nowF F j)) (hr : j < fmost) :
    Calls Try.prog 25 #[.pointer (some ⟨fb, 0, none⟩), .pointer (some ⟨sb, 0, none⟩), .int .u32 (x : Int), .map (some mb)] w fun e w' => ∃ fg' fcap', e = .returned (.int .u32 (j : Int)) ∧ St w' fb fg' ftb fcap' fmost ((cmpN N F).take (j + 1)) ∧ Frm [fb, fg, ftb] w w' ∧ (fg' = fg ∨ w.heap.size ≤ fg') := by
  obtain ⟨hn1, hxl, hjr⟩ := ndL_of hj
  have hxn := List.getElem?_eq_getElem hxl
  obtain ⟨cf, cn, ct, cl, cj, cr⟩ := cmp_step hc h.wf hj hx hxn
  have hkn := hc.k x _ hx hxn hn1
  obtain ⟨hlv, _, k1, k2, k3, k4, _⟩ := h.wf.up x _ hx hxn
  have hNl := h.room
  have hMl := h.most_le
  have HOF := Lib.hid (of_good h x (by omega) hxn (by omega))
  have hkk : ∀ i, i < 4 → kAt N[x].k i < 4294967296 ∧ nowF F j (kAt N[x].k i) = some (.int .u32 (rk13 F (kAt N[x].k i) : Int)) := fun i hi => by
    have : i = 0 ∨ i = 1 ∨ i = 2 ∨ i = 3 := by omega
    unfold nowF
    rw [← hjr]
    rcases this with rfl | rfl | rfl | rfl
    · exact ⟨by show N[x].k.1 < _; omega, if_pos ⟨hkn.1, rk_lt hkn.1 k1⟩⟩
    · exact ⟨by show N[x].k.2.1 < _; omega, if_pos ⟨hkn.2.1, rk_lt hkn.2.1 k2⟩⟩
    · exact ⟨by show N[x].k.2.2.1 < _; omega, if_pos ⟨hkn.2.2.1, rk_lt hkn.2.2.1 k3⟩⟩
    · exact ⟨by show N[x].k.2.2.2 < _; omega, if_pos ⟨hkn.2.2.2, rk_lt hkn.2.2.2 k4⟩⟩
  have hink : InK (rkK F N[x].k) := by
    have a1 := rk_le F N[x].k.1
    have a2 := rk_le F N[x].k.2.1
    have a3 := rk_le F N[x].k.2.2.1
    have a4 := rk_le F N[x].k.2.2.2
    refine ⟨?_, ?_, ?_, ?_⟩ <;> simp only [rkK] <;> omega
  have HKK := Lib.hid hkk
  have HINK := Lib.hid hink
  have HCF := Lib.hid cf
  have HCN := Lib.hid cn
  have HCT := Lib.hid ct
  have HST := Lib.hid hf
  have HMP := Lib.hid hm
  have HR := Lib.hid hr
  clear hkk hink cf cn ct hf hm hr hkn hlv k1 k2 k3 k4 hn1 hjr hj hxn cj cr hc h hNl hMl
  generalize N[x].k = k at *
  generalize hM : (cmpN N F).take j = M at *
  generalize (cmpN N F).take (j + 1) = M' at *
  clear hM
  subst cl
  go_enter Try.func25, Try.ntmps25
  go_wp2_with fail
  refine HOF.out.mono ?_
  rintro e W1 ⟨rfl, hb⟩
  have HB1 := Lib.hid (hb.trans ((bel1 W1 (.cells #[.int .u32 (k.1 : Int), .int .u32 (k.2.1 : Int), .int .u32 (k.2.2.1 : Int), .int .u32 (k.2.2.2 : Int)] 68)).mono hb.size))
  have HO : Hid ((W1.alloc (.cells #[.int .u32 (k.1 : Int), .int .u32 (k.2.1 : Int), .int .u32 (k.2.2.1 : Int), .int .u32 (k.2.2.2 : Int)] 68)).heap[W1.heap.size]? = some (kO k)) := heap_alloc_new W1 _
  have HW1 : Hid (w.heap.size ≤ W1.heap.size) := hb.size
  clear hb
  obtain ⟨c0, c1, c2, c3⟩ := k_cells HO.out
  unfold kv
  go_wp2_with fail
  clear c0 c1 c2 c3
  generalize W1.alloc (.cells #[.int .u32 (k.1 : Int), .int .u32 (k.2.1 : Int), .int .u32 (k.2.2.1 : Int), .int .u32 (k.2.2.2 : Int)] 68) = W2 at *
  generalize W1.heap.size = kb at *
  clear HOF
  go_loopg [11, 12, 25] 4 (fun mm v11 v12 cnt wr => ∃ (i : Nat) (q : Nat → Nat), mm = 4 - i ∧ i ≤ 4 ∧ cnt = .int .i64 (i : Int) ∧ Below w.heap.size w wr ∧ wr.heap[kb]? = some (kO (mk4 q)) ∧ (∀ z, z < i → q z = rk13 F (kAt k z)))
  case atStart => exact ⟨0, kAt k, rfl, Nat.zero_le _, rfl, HB1.out, HO.out, fun i hi => by omega⟩
  case round =>
    clear HO HB1
    obtain ⟨i, q, hm, hi, rfl, hb, hO, hq⟩ := hrel
    have HMM := Lib.hid hm
    have HB := Lib.hid hb
    have HO := Lib.hid hO
    have HQ := Lib.hid hq
    clear hm hb hO hq
    by_cases hlt : i < 4
    · have hgj : decide ((i : Int) < 4) = true := by simp; omega
      have hix := kix k hlt
      obtain ⟨hu, hnow⟩ := HKK.out i hlt
      have hlook := ((HMP.out.later HB.out).look1 (kAt k i) hu).1 _ hnow
      have i4 : (i : Int) < 4 := by omega
      have i5 : (0 : Int) ≤ (i : Int) := by omega
      obtain ⟨o0, o1⟩ := k_cell HO.out hlt
      simp only [mkI] at hlook
      have w1 : IntKind.i64.wrap ((i : Int) + 1) = ((i + 1 : Nat) : Int) := by rw [IntWalk.i64_in _ (by omega)]; omega
      clear hu hnow
      go_upto_region 7 with fail
      go_wp2_with fail
      go_roundg (4 - (i + 1))
      case measure => rw [HMM.out]; omega
      case rel =>
        refine ⟨i + 1, fun z => if z = i then rk13 F (kAt k i) else q z, rfl, by omega, by go_num, HB.out.setCell (p := ⟨kb, i, none⟩) HW1.out _, ?_, fun z hz => ?_⟩
        · have := k_set HO.out hlt (rk13 F (kAt k i))
          rw [show (mk4 fun z => if z = i then rk13 F (kAt k i) else kAt (mk4 q) z) = mk4 (fun z => if z = i then rk13 F (kAt k i) else q z) from mk4_ext fun z hz => by show (if z = i then rk13 F (kAt k i) else kAt (mk4 q) z) = _; rw [kAt_mk4 _ hz]] at this
          exact this
        · show (if z = i then rk13 F (kAt k i) else q z) = _
          by_cases e : z = i
          · rw [if_pos e, e]
          · rw [if_neg e]; exact HQ.out z (by omega)
    · obtain rfl : i = 4 := by omega
      have hgj : decide (((4 : Nat) : Int) < 4) = false := by decide
      have HO2 : Hid (wr.heap[kb]? = some (kO (rkK F k))) := by
        have := HO.out
        rw [mk4_rk F k (fun z hz => HQ.out z hz)] at this
        exact this
      clear HO HQ HKK HMM
      generalize rkK F k = k' at *
      obtain ⟨c0, c1, c2, c3⟩ := k_cells HO2.out
      have HST2 := Lib.hid (HST.out.later HB.out)
      go_wp2_with fail
      refine (make_add HST2.out k' HINK.out HCF.out HCN.out HR.out).mono ?_
      rintro e W5 ⟨fg', fcap', rfl, hst, hfr, hfg⟩
      have HS5 : Hid (St W5 fb fg' ftb fcap' fmost M') := by
        show St _ _ _ _ _ _ _
        rw [HCT.out]; exact hst
      have HF5 : Hid (Frm [fb, fg, ftb] w W5) := (Frm.of_below HB.out).trans hfr (fun b hb => Or.inl hb)
      have HG5 : Hid (fg' = fg ∨ w.heap.size ≤ fg') := hfg.imp id fun h => Nat.le_trans HB.out.size h
      clear hst hfr hfg HST2 HST c0 c1 c2 c3
      go_wp2_with fail
      go_ret
      exact ⟨fg', fcap', rfl, HS5.out, HF5.out, HG5.out⟩
end Go.Proofs.Ytgciceogggldhaa
