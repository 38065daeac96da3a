/- Package evolve: later's way: contract. -/
import Derived.Test.YtaapkngpnlnjeaaGreatWy
namespace Go.Proofs.YtaapkngpnlnjeaaGreat
open Go.RowKit Go.Maps
set_option maxRecDepth 100000

/-- What later's way keeps: its memo, its power. -/
def KeepL (sb tb mb p pa pb : Nat) (w : World) (g : Nat) (fb : FbT) : Prop :=
  Oe w sb g tb mb fb pa (.cells #[.pointer (some ⟨mb, 0, none⟩)] 62 (0, 0)) ∧ Oe w sb g tb mb fb pb (.cells #[.int .i64 (p : Int)] 3 (0, 0))
theorem KeepL.mx {sb tb mb most p pa pb : Nat} {w w' : World} {g g' c : Nat} {N N' : List Nd} {fb fb' : FbT} {m m' : Stp → Option Value} (h : KeepL sb tb mb p pa pb w g fb) (hn : Mx sb tb mb most w g N fb m c w' g' N' fb' m') : KeepL sb tb mb p pa pb w' g' fb' := ⟨h.1.mx hn, h.2.mx hn⟩
theorem KeepL.later {sb tb mb p pa pb : Nat} {w w' : World} {g : Nat} {fb : FbT} (h : KeepL sb tb mb p pa pb w g fb) (hb : Below w.heap.size w w') : KeepL sb tb mb p pa pb w' g fb := ⟨h.1.later hb, h.2.later hb⟩
/-- These blocks stand beside a memo. -/
def Kp (sb tb mb : Nat) (Bs : List (Nat × Obj)) (w : World) (g : Nat) (fb : FbT) : Prop := ∀ bo ∈ Bs, Oe w sb g tb mb fb bo.1 bo.2
theorem Kp.mx {sb tb mb most : Nat} {Bs : List (Nat × Obj)} {w w' : World} {g g' c : Nat} {N N' : List Nd} {fb fb' : FbT} {m m' : Stp → Option Value} (h : Kp sb tb mb Bs w g fb) (hn : Mx sb tb mb most w g N fb m c w' g' N' fb' m') : Kp sb tb mb Bs w' g' fb' := fun bo hb => (h bo hb).mx hn
theorem Kp.later {sb tb mb : Nat} {Bs : List (Nat × Obj)} {w w' : World} {g : Nat} {fb : FbT} (h : Kp sb tb mb Bs w g fb) (hb : Below w.heap.size w w') : Kp sb tb mb Bs w' g fb := fun bo hbo => (h bo hbo).later hb
theorem Kp.set {sb tb mb : Nat} {Bs : List (Nat × Obj)} {w : World} {g D b i : Nat} {fb : FbT} (h : Kp sb tb mb Bs w g fb) (hD : ∀ bo ∈ Bs, bo.1 < D) (hb : D ≤ b) (v : Value) : Kp sb tb mb Bs (w.setCell ⟨b, i, none⟩ v) g fb := fun bo hbo => (h bo hbo).other (by have := hD bo hbo; show b ≠ bo.1; omega) v
theorem Kp.setRow {sb tb mb : Nat} {Bs : List (Nat × Obj)} {w : World} {g D b : Nat} {fb : FbT} (h : Kp sb tb mb Bs w g fb) (hD : ∀ bo ∈ Bs, bo.1 < D) (hb : D ≤ b) (cs : Array Value) : Kp sb tb mb Bs (w.setRow b cs) g fb := fun bo hbo => (h bo hbo).otherRow (by have := hD bo hbo; omega) cs
theorem Way.mono {sb tb mb most : Nat} {K K' : World → Nat → FbT → Prop} {fn : FuncId} {args : Value → Array Value} {n n' t c : Nat} {h : Int} (hw : Way sb tb mb most K fn args n n' t h c) (hk : ∀ w g fb, K' w g fb → K w g fb) : Way sb tb mb most K' fn args n n' t h c :=
  fun w g N fb m h1 h2 k F cc dd h3 => hw w g N fb m h1 (hk w g fb h2) k F cc dd h3
theorem one_cell10 {w : World} {b : Nat} {v : Value} {t : TypeId} (h : w.heap[b]? = some (.cells #[v] t (0, 0))) : w.cell? ⟨b, 0, none⟩ = some v := by rw [Lib.cell_of_heap h]; rfl
set_option maxHeartbeats 2000000 in
theorem way_later (sb tb mb most : Nat) {n p c pa pb : Nat} (hn : n + 1 < 62) (HX : Nexts sb tb mb most n p c) :
    Way sb tb mb most (KeepL sb tb mb p pa pb) 155 (fun v => #[v, .pointer (some ⟨pa, 0, none⟩), .pointer (some ⟨pb, 0, none⟩)]) (n + 1) (n + 1) (2 ^ p) (2 ^ n) (1 + c) := by
  intro w g N fb m h hkeep k F cc dd hk
  have HM := Lib.hid h
  have HB := Lib.hid (bel1 w (.cells #[.int .u32 (k.1 : Int), .int .u32 (k.2.1 : Int), .int .u32 (k.2.2.1 : Int), .int .u32 (k.2.2.2 : Int)] 105))
  have HO : Hid (Oe (w.alloc (.cells #[.int .u32 (k.1 : Int), .int .u32 (k.2.1 : Int), .int .u32 (k.2.2.1 : Int), .int .u32 (k.2.2.2 : Int)] 105)) sb g tb mb fb w.heap.size (kO k)) := Oe.new h _ _
  have HKP := Lib.hid (hkeep.later HB.out)
  have HM1 := Lib.hid (h.later HB.out)
  have HK := Lib.hid hk
  have HNX := Lib.hid HX
  clear h hkeep hk HX
  unfold kV
  dsimp only
  go_enter Tryz.func155, Tryz.ntmps155
  go_upto_region 1 with fail
  generalize w.alloc (.cells #[.int .u32 (k.1 : Int), .int .u32 (k.2.1 : Int), .int .u32 (k.2.2.1 : Int), .int .u32 (k.2.2.2 : Int)] 105) = W0 at *
  have p0 := one_cell10 HKP.out.1.at_
  obtain ⟨c0, c1, c2, c3⟩ := k_cells HO.out.at_
  obtain ⟨sv0, cl0, hth, m0, m1, mv, m2, mt, m3⟩ := HM1.out.cells
  clear mv mt hth m1 m2 m3
  have HMK := Lib.hid (make10 HM1.out.drew (n := n + 1) (by omega) HK.out)
  refine region_sq 5 (fun W => W = W0.drew) [(0, 2), (1, 1), (2, 1), (3, 2), (4, 2), (5, 3), (6, 1), (7, 1), (8, 1), (9, 1), (10, 1)] (by kernel_rfl) (by kernel_rfl) rfl (by intro c a d v w h; cases d <;> exact h) (by kernel_rfl) rfl ?_
  refine ⟨_, ?_, rfl, by rfl, ?_, ?_⟩
  rotate_left
  · rintro W rfl
    skip
    go_simp; first | done | rfl
  conv => arg 6; simp only [Act.put, List.setIfInBounds_toArray, List.set_cons_zero, List.set_cons_succ]
  refine ⟨_, ?_, rfl, by rfl, ?_, ?_⟩
  rotate_left
  · intro W; go_simp; first | done | rfl
  conv => arg 6; simp only [Act.put, List.setIfInBounds_toArray, List.set_cons_zero, List.set_cons_succ]
  refine ⟨_, ?_, rfl, by rfl, ?_, ?_⟩
  rotate_left
  · intro W; go_simp; first | done | rfl
  conv => arg 6; simp only [Act.put, List.setIfInBounds_toArray, List.set_cons_zero, List.set_cons_succ]
  refine ⟨_, ?_, rfl, by rfl, ?_, ?_⟩
  rotate_left
  · rintro W rfl
    skip
    go_simp; first | done | rfl
  conv => arg 6; simp only [Act.put, List.setIfInBounds_toArray, List.set_cons_zero, List.set_cons_succ]
  refine ⟨_, ?_, rfl, by rfl, ?_, ?_⟩
  rotate_left
  · rintro W rfl
    skip
    go_simp; first | done | rfl
  conv => arg 6; simp only [Act.put, List.setIfInBounds_toArray, List.set_cons_zero, List.set_cons_succ]
  refine ⟨_, rfl, by rfl, fun K hK => ?_⟩
  go_simp
  unfold kV at HMK
  refine HMK.out.mono ?_
  rintro e w6 ⟨g6, N6, hnx, hres⟩
  have HR6 := Lib.hid hres
  obtain ⟨r, ev, rfl, hres2⟩ := two10 hres
  have HN6 := Lib.hid hnx
  clear hnx hres HMK
  refine hK _ _ ?_
  clear hK K
  conv => arg 6; simp only [Act.put, List.setIfInBounds_toArray, List.set_cons_zero, List.set_cons_succ]
  refine ⟨_, ?_, rfl, by rfl, ?_, ?_⟩
  rotate_left
  · intro W; go_simp; first | done | rfl
  conv => arg 6; simp only [Act.put, List.setIfInBounds_toArray, List.set_cons_zero, List.set_cons_succ]
  refine ⟨_, ?_, rfl, by rfl, ?_, ?_⟩
  rotate_left
  · intro W; go_simp; first | done | rfl
  conv => arg 6; simp only [Act.put, List.setIfInBounds_toArray, List.set_cons_zero, List.set_cons_succ]
  refine ⟨_, ?_, rfl, by rfl, ?_, ?_⟩
  rotate_left
  · intro W; go_simp; first | done | rfl
  conv => arg 6; simp only [Act.put, List.setIfInBounds_toArray, List.set_cons_zero, List.set_cons_succ]
  refine ⟨_, ?_, rfl, by rfl, ?_, ?_⟩
  rotate_left
  · intro W; go_simp; first | done | rfl
  conv => arg 6; simp only [Act.put, List.setIfInBounds_toArray, List.set_cons_zero, List.set_cons_succ]
  refine ⟨_, ?_, rfl, by rfl, ?_, ?_⟩
  rotate_left
  · intro W; go_simp; first | done | rfl
  conv => arg 6; simp only [Act.put, List.setIfInBounds_toArray, List.set_cons_zero, List.set_cons_succ]
  unfold wpSq
  have HN7 := Lib.hid (((Mx.of_below HM.out HB.out).trans HN6.out.undrew).mono (show 0 + 1 ≤ 1 + c by omega))
  rcases hres2 with ⟨rfl, hc⟩ | ⟨rfl, rfl, hfull⟩
  · have HC := Lib.hid hc
    have HKP6 := Lib.hid (HKP.out.mx HN6.out.undrew)
    have p0 := one_cell10 HKP6.out.1.at_
    have p1 := one_cell10 HKP6.out.2.at_
    have HNN := Lib.hid (HNX.out _ _ _ _ _ HN6.out.me _ hc.1)
    clear hc HR6
    go_wp2_with fail
    refine HNN.out.mono ?_
    rintro e w8 ⟨g8, N8, fb8, m8, hmx, hres⟩
    have HN8 := Lib.hid ((((Mx.of_below HM.out HB.out).trans HN6.out.undrew).trans hmx).mono (show 0 + 1 + c ≤ 1 + c by omega))
    have HC8 : Hid (Con N8 (n + 1 + 1) r (shF F cc dd)) := by
      obtain ⟨E, hE, _⟩ := hmx.ext
      rw [hE]; exact HC.out.app HN6.out.me.wf E
    clear hmx
    rcases hres with ⟨z, rfl, hsc, _⟩ | ⟨rfl, hfull⟩
    · have HZ : Hid (Con N8 (n + 1) z (shF (gens (2 ^ p) F) (cc + 2 ^ n) (dd + 2 ^ n))) := by
        have := hsc.out _ HC8.out
        rw [gens_sh, shF_shF] at this
        exact this
      clear hsc
      go_wp2_with fail
      go_ret2
      exact ⟨g8, N8, fb8, m8, HN8.out, Or.inl ⟨z, rfl, HZ.out⟩⟩
    · have HF := Lib.hid hfull
      clear hfull
      go_wp2_with fail
      go_ret2
      exact ⟨g8, N8, fb8, m8, HN8.out, Or.inr ⟨rfl, HF.out⟩⟩
  · have HF := Lib.hid hfull
    clear hfull HR6
    go_wp2_with fail
    go_ret2
    exact ⟨g6, N6, fb, m, HN7.out, Or.inr ⟨rfl, HF.out⟩⟩
end Go.Proofs.YtaapkngpnlnjeaaGreat
