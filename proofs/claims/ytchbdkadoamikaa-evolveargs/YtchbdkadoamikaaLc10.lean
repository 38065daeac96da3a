/- The laws of layer 10: lives: contract. -/
import Derived.Test.YtchbdkadoamikaaLb10
namespace Go.Proofs.Ytchbdkadoamikaa
open Go.RowKit Go.Maps
set_option maxRecDepth 100000

/-- How many are alive, of a square whose cells are known. -/
theorem ct_con {N : List Nd} (hw : Wf N) {n x : Nat} {F : Plane} (h : Con N n x F) {L : List (Int × Int)} (hd : L.Nodup) (hL : ∀ X Y, (X, Y) ∈ L ↔ (0 ≤ X ∧ X < 2 ^ n) ∧ (0 ≤ Y ∧ Y < 2 ^ n) ∧ F X Y = 1) : ctZ N x = min L.length topN := by
  rw [ct_cells hw h.1]
  have hp : (cellsQ N n x).Perm L := by
    refine (List.perm_ext_iff_of_nodup (nodup_cells N n x) hd).2 fun p => ?_
    obtain ⟨X, Y⟩ := p
    rw [mem_cells, hL]
    constructor
    · rintro ⟨h1, h2, h3⟩
      exact ⟨h1, h2, by rw [← h.2 X Y h1 h2]; exact h3⟩
    · rintro ⟨h1, h2, h3⟩
      exact ⟨h1, h2, by rw [h.2 X Y h1 h2]; exact h3⟩
  rw [hp.length_eq]
/-- A memo's blocks lie above a bound. -/
structure Abv (D sb g tb mb : Nat) (fb : Option Nat) : Prop where
  sb_ : D ≤ sb
  g_ : D ≤ g
  tb_ : D ≤ tb
  mb_ : D ≤ mb
  fb_ : ∀ b, fb = some b → D ≤ b
theorem Abv.mx {D sb tb mb most g g' c : Nat} {w w' : World} {N N' : List Nd} {fb fb' : Option Nat} {m m' : Stp → Option Value} (h : Abv D sb g tb mb fb) (hD : D ≤ w.heap.size) (hn : Mx sb tb mb most w g N fb m c w' g' N' fb' m') : Abv D sb g' tb mb fb' := by
  refine ⟨h.sb_, ?_, h.tb_, h.mb_, fun b hb => ?_⟩
  · have := h.g_
    rcases hn.gin with e | e <;> omega
  · rcases hn.fin with e | ⟨b', e, hb'⟩
    · exact h.fb_ b (by rw [← e]; exact hb)
    · rw [e] at hb; cases hb; omega
theorem Abv.below {D sb tb mb most g g' c : Nat} {w0 w w' : World} {N N' : List Nd} {fb fb' : Option Nat} {m m' : Stp → Option Value} (h : Abv D sb g tb mb fb) (hb : Below D w0 w) (hD : D ≤ w.heap.size) (hn : Mx sb tb mb most w g N fb m c w' g' N' fb' m') : Below D w0 w' := by
  refine hb.trans (hn.frm.below (fun b hbm => ?_) hD)
  simp only [List.mem_cons, Option.mem_toList] at hbm
  rcases hbm with e | e | e | e | e
  · rw [e]; exact h.sb_
  · rw [e]; exact h.g_
  · rw [e]; exact h.tb_
  · rw [e]; exact h.mb_
  · exact h.fb_ b e
theorem rowS_new {w : World} {sb g tb cs most : Nat} {N : List Nd} (h : St w sb g tb cs most N) (c : Nat) (t : TypeId) : RowS (w.alloc (.cells #[.int .u64 (c : Int)] t)) sb g tb (some ⟨w.heap.size, 0, none⟩) [c] := by
  obtain ⟨l1, l2, l3⟩ := h.lt
  refine ⟨fun j d hj => ?_, fun _ b off e => ?_⟩
  · match j, hj with
    | 0, hj => 
      simp at hj; subst hj
      exact ⟨_, _, rfl, by rw [Lib.cell_of_heap (heap_alloc_new w _)]; rfl⟩
    | j + 1, hj => simp at hj
  · cases e
    exact ⟨by simp, by omega, by omega, by omega⟩
/-- build, beside a memo. -/
theorem bld10 {w : World} {sb g tb most mb : Nat} {N : List Nd} {fb : Option Nat} {m : Stp → Option Value} (h : Me w sb g tb most N mb fb m) (n : Nat) (hn : n ≤ 6) (l : List Nat) (hl2 : l.length ≤ 4) (hz : ∀ z ∈ l, z < 18446744073709551616) (a : Option Addr) (cap : Nat) (hr : RowS w sb g tb a l) :
    Calls Try.prog 10 #[.pointer (some ⟨sb, 0, none⟩), .int .i64 (n : Int), .slice a l.length cap] w fun e w' => ∃ g' N', Mx sb tb mb most w g N fb m (bC n) w' g' N' fb m ∧ Bld most e N' n (plU l (2 ^ n)) := by
  obtain ⟨cs, hs⟩ := h.st
  refine (build_any hs n hn l hl2 hz a cap hr).mono ?_
  rintro e w' ⟨g', N', h1, h2⟩
  exact ⟨g', N', Mx.of_nx h h1, h2⟩
theorem bld_out {most : Nat} {e : Ending} {N' : List Nd} {n : Nat} {F : Plane} (h : Bld most e N' n F) (hn : N'.length < most) : ∃ z : Nat, e = .returned (.tuple #[.int .u32 (z : Int), .nilIface]) ∧ Con N' n z F := by
  rcases h with h | ⟨_, h⟩
  · exact h
  · omega
theorem res_good {most : Nat} {e : Ending} {N' : List Nd} {m' : Stp → Option Value} {n x p : Nat} (h : Res10 most e N' m' n x p) (hn : N'.length < most) : ∃ z : Nat, e = .returned (.tuple #[.int .u32 (z : Int), .nilIface]) ∧ Sc N' n x p z ∧ m' ⟨x, p⟩ = some (.int .u32 (z : Int)) := by
  rcases h with h | ⟨_, h⟩
  · exact h
  · omega
theorem Mx.len {w w' : World} {sb tb mb most g g' c : Nat} {N N' : List Nd} {fb fb' : Option Nat} {m m' : Stp → Option Value} (h : Mx sb tb mb most w g N fb m c w' g' N' fb' m') : N'.length ≤ N.length + c := by
  obtain ⟨E, hE, hl⟩ := h.ext
  rw [hE, List.length_append]; omega
theorem Con.mx {w w' : World} {sb tb mb most g g' c n x : Nat} {N N' : List Nd} {fb fb' : Option Nat} {m m' : Stp → Option Value} {F : Plane} (hc : Con N n x F) (hw : Wf N) (h : Mx sb tb mb most w g N fb m c w' g' N' fb' m') : Con N' n x F := by
  obtain ⟨E, hE, hl⟩ := h.ext
  rw [hE]; exact hc.app hw E
theorem Sc.mx {w w' : World} {sb tb mb most g g' c n x p z : Nat} {N N' : List Nd} {fb fb' : Option Nat} {m m' : Stp → Option Value} (hc : Sc N n x p z) (hw : Wf N) (h : Mx sb tb mb most w g N fb m c w' g' N' fb' m') : Sc N' n x p z := by
  obtain ⟨E, hE, hl⟩ := h.ext
  rw [hE]; exact hc.app hw E
theorem lives_two : ∀ X Y : Fin 4, gens (2 ^ 1) (plU [103481868288] 8) ((X.val : Int) + 2) ((Y.val : Int) + 2) = if (X.val = 1 ∨ X.val = 2) ∧ (Y.val = 1 ∨ Y.val = 2) then 1 else 0 := by decide +kernel
theorem lives_one : ∀ X Y : Fin 4, gens (2 ^ 0) (plU [103481868288] 8) ((X.val : Int) + 2) ((Y.val : Int) + 2) = if (X.val = 1 ∨ X.val = 2) ∧ (Y.val = 1 ∨ Y.val = 2) then 1 else 0 := by decide +kernel
def bkF : Plane := fun X Y => if (X = 1 ∨ X = 2) ∧ (Y = 1 ∨ Y = 2) then 1 else 0
theorem lives_con {N : List Nd} {x y p : Nat} (hp : p = 0 ∨ p = 1) (hx : Con N 3 x (plU [103481868288] 8)) (h : Sc N 1 x p y) : Con N 2 y bkF := by
  refine (h.out _ hx).of fun X Y hX hY => ?_
  have e2 : (2 : Int) ^ (1 + 1) = 4 := rfl
  rw [e2] at hX hY
  have k : ∀ (q : Nat), (∀ X Y : Fin 4, gens (2 ^ q) (plU [103481868288] 8) ((X.val : Int) + 2) ((Y.val : Int) + 2) = if (X.val = 1 ∨ X.val = 2) ∧ (Y.val = 1 ∨ Y.val = 2) then 1 else 0) → shF (gens (2 ^ q) (plU [103481868288] 8)) (2 ^ 1) (2 ^ 1) X Y = bkF X Y := fun q hh => by
    have := hh ⟨X.toNat, by omega⟩ ⟨Y.toNat, by omega⟩
    simp only at this
    rw [show ((X.toNat : Nat) : Int) = X by omega, show ((Y.toNat : Nat) : Int) = Y by omega] at this
    show gens (2 ^ q) _ (X + 2 ^ 1) (Y + 2 ^ 1) = _
    rw [show (2 : Int) ^ 1 = 2 from rfl, this]
    unfold bkF
    have e1 : (X.toNat = 1 ∨ X.toNat = 2) ↔ (X = 1 ∨ X = 2) := by omega
    have e2 : (Y.toNat = 1 ∨ Y.toNat = 2) ↔ (Y = 1 ∨ Y = 2) := by omega
    simp only [e1, e2]
  rcases hp with rfl | rfl
  · exact k 0 lives_one
  · exact k 1 lives_two
theorem bk_ct {N : List Nd} (hw : Wf N) {y : Nat} (h : Con N 2 y bkF) : ctZ N y = 4 := by
  rw [ct_con hw h (L := [(1, 1), (2, 1), (1, 2), (2, 2)]) (by decide) (fun X Y => by
    have e2 : (2 : Int) ^ 2 = 4 := rfl
    rw [e2]
    unfold bkF
    simp only [List.mem_cons, Prod.mk.injEq, List.not_mem_nil, or_false]
    constructor
    · rintro (⟨rfl, rfl⟩ | ⟨rfl, rfl⟩ | ⟨rfl, rfl⟩ | ⟨rfl, rfl⟩) <;> decide
    · rintro ⟨h1, h2, h3⟩
      split at h3
      · omega
      · cases h3)]
  rfl
set_option maxHeartbeats 4000000 in
theorem lives10_any (w : World) : Calls Try.prog 7 #[] w fun e w' => e = .returned (.bool true) ∧ Below w.heap.size w w' := by
  go_enter Try.func7, Try.ntmps7
  go_wp2_with fail
  refine (new_good 999 (by omega) (by omega) _).mono ?_
  rintro e W2 ⟨sb, g, tb, rfl, hS, hB2, l1, l2, l3⟩
  have HS2 := Lib.hid hS
  have HB2 := Lib.hid hB2
  have HL := Lib.hid (And.intro l1 (And.intro l2 l3))
  clear hS hB2 l1 l2 l3
  go_wp2_with fail
  refine (enew_any HS2.out).mono ?_
  rintro e W3 ⟨mb, rfl, hmb, hme, hB3⟩
  have HM3 := Lib.hid (hme.later (bel1 W3 (.cells #[.int .u64 103481868288] 54)))
  have HB3 := Lib.hid ((HB2.out.trans (hB3.mono HB2.out.size)).trans ((bel1 W3 (.cells #[.int .u64 103481868288] 54)).mono (Nat.le_trans HB2.out.size hB3.size)))
  have HAB : Hid (Abv w.heap.size sb g tb mb none) := by
    obtain ⟨a1, a2, a3⟩ := HL.out
    have := HB2.out.size
    exact ⟨by omega, by omega, by omega, by omega, fun b e => by cases e⟩
  have HRW : Hid (RowS (W3.alloc (.cells #[.int .u64 103481868288] 54)) sb g tb (some ⟨W3.heap.size, 0, none⟩) [103481868288]) := by
    obtain ⟨cap, hs⟩ := hme.st
    exact rowS_new hs 103481868288 _
  clear hmb hme hB3 HB2 HS2 HL
  go_wp2_with fail
  generalize W3.alloc (.cells #[.int .u64 103481868288] 54) = W4 at *
  generalize W3.heap.size = rb at *
  refine (bld10 HM3.out 3 (by omega) [103481868288] (by decide) (by decide) _ 1 HRW.out).mono ?_
  rintro e W5 ⟨g5, N5, hmx, hres⟩
  have HL5 : Hid (N5.length ≤ 23) := Nat.le_trans hmx.len (by decide)
  obtain ⟨x, rfl, hc⟩ := bld_out hres (by have := HL5.out; omega)
  have HC := Lib.hid hc
  have HB5 := Lib.hid (HAB.out.below HB3.out HB3.out.size hmx)
  have HAB5 := Lib.hid (HAB.out.mx HB3.out.size hmx)
  have HM5 := Lib.hid hmx.me
  clear hres hc hmx HM3 HRW HB3 HAB
  have HN5 := Lib.hid (enext_any HM5.out (n := 1) (p := 1) HC.out.1 (Nat.le_refl _))
  go_wp2_with fail
  refine HN5.out.mono ?_
  rintro e W6 ⟨g6, N6, fb6, m6, hmx, hres⟩
  have HL6 : Hid (N6.length ≤ 50) := Nat.le_trans hmx.len (by have := HL5.out; have : cE 1 = 27 := rfl; omega)
  obtain ⟨y, rfl, hy, _⟩ := res_good hres (by have := HL6.out; omega)
  have HC6 := Lib.hid (HC.out.mx HM5.out.wf hmx)
  have HY := Lib.hid hy
  have HB6 := Lib.hid (HAB5.out.below HB5.out HB5.out.size hmx)
  have HAB6 := Lib.hid (HAB5.out.mx HB5.out.size hmx)
  have HM6 := Lib.hid hmx.me
  clear hres hy hmx HN5 HM5 HB5 HAB5 HL5
  have HN6 := Lib.hid (enext_any HM6.out (n := 1) (p := 0) HC6.out.1 (by omega))
  go_wp2_with fail
  refine HN6.out.mono ?_
  rintro e W7 ⟨g7, N7, fb7, m7, hmx, hres⟩
  have HL7 : Hid (N7.length ≤ 77) := Nat.le_trans hmx.len (by have := HL6.out; have : cE 1 = 27 := rfl; omega)
  obtain ⟨z, rfl, hz, _⟩ := res_good hres (by have := HL7.out; omega)
  have HC7 := Lib.hid (HC6.out.mx HM6.out.wf hmx)
  have HY7 := Lib.hid (HY.out.mx HM6.out.wf hmx)
  have HZ := Lib.hid hz
  have HB7 := Lib.hid (HAB6.out.below HB6.out HB6.out.size hmx)
  have HM7 := Lib.hid hmx.me
  have HCY := Lib.hid (lives_con (Or.inr rfl) HC7.out HY7.out)
  have HCZ := Lib.hid (lives_con (Or.inl rfl) HC7.out hz)
  obtain rfl : z = y := Con.inj HM7.out.wf HCZ.out HCY.out
  clear hres hz hmx HN6 HM6 HB6 HAB6 HL6
  obtain ⟨cs7, hs7⟩ := HM7.out.st
  have HS7 := Lib.hid hs7
  have hzu : z < 4294967296 := Sq.u32 hs7 HCY.out.1
  have HLV := Lib.hid (level_any hs7 z hzu)
  rw [show lvZ N7 z = ((2 : Nat) : Int) from HCY.out.1] at HLV
  have HCT := Lib.hid (count_any hs7 z hzu)
  rw [bk_ct HM7.out.wf HCY.out] at HCT
  clear hs7
  go_wp2_with fail
  refine HLV.out.mono ?_
  rintro e w8 ⟨rfl, rfl⟩
  go_wp2_with fail
  refine HCT.out.mono ?_
  rintro e w8 ⟨rfl, rfl⟩
  go_wp2_with fail
  go_ret
  exact ⟨rfl, HB7.out⟩
end Go.Proofs.Ytchbdkadoamikaa
