-- P18
import Derived.Test.YtaapkngpnlnjeaaGreatDoorFd
section
namespace Go.Proofs.YtaapkngpnlnjeaaGreatDoor
open Go.RowKit Go.Maps
set_option maxRecDepth 100000

/-- What a way comes to: a square with these cells, or no room. -/
def Out10 (most : Nat) (e : Ending) (N' : List Nd) (n : Nat) (F : Plane) : Prop :=
  (∃ z : Nat, e = .returned (.tuple #[.int .u32 (z : Int), .nilIface]) ∧ Con N' n z F) ∨ (e = .returned (.tuple #[.int .u32 0, .iface 48 (.int .i64 7)]) ∧ most ≤ N'.length)
theorem two10 {e : Ending} {A : Nat → Prop} {B : Prop} (h : (∃ z : Nat, e = .returned (.tuple #[.int .u32 (z : Int), .nilIface]) ∧ A z) ∨ (e = .returned (.tuple #[.int .u32 0, .iface 48 (.int .i64 7)]) ∧ B)) :
    ∃ (r : Nat) (ev : Value), e = .returned (.tuple #[.int .u32 (r : Int), ev]) ∧ ((ev = .nilIface ∧ A r) ∨ (ev = .iface 48 (.int .i64 7) ∧ r = 0 ∧ B)) := by
  rcases h with ⟨r, rfl, h⟩ | ⟨rfl, h⟩
  · exact ⟨r, _, rfl, Or.inl ⟨rfl, h⟩⟩
  · exact ⟨0, _, rfl, Or.inr ⟨rfl, rfl, h⟩⟩
/-- Four squares of a plane, at a place. -/
def Four (N : List Nd) (n : Nat) (k : K4) (F : Plane) (c d : Int) : Prop := ∀ r b, Con N n (pick k r b) (shF F (c + off n r) (d + off n b))
theorem Four.fo {N : List Nd} {n : Nat} {k : K4} {F : Plane} {c d : Int} (h : Four N n k F c d) : Fo N n k := fun r b => (h r b).1
theorem Four.app {N : List Nd} (hw : Wf N) {n : Nat} {k : K4} {F : Plane} {c d : Int} (E : List Nd) (h : Four N n k F c d) : Four (N ++ E) n k F c d := fun r b => (h r b).app hw E
/-- A way: what a function does with four squares. -/
def Way (sb tb mb most : Nat) (Keep : World → Nat → FbT → Prop) (fn : FuncId) (args : Value → Array Value) (n n' t : Nat) (h : Int) (c : Nat) : Prop :=
  ∀ (w : World) (g : Nat) (N : List Nd) (fb : FbT) (m : Stp → Option Value), Me w sb g tb most N mb fb m → Keep w g fb → ∀ (k : K4) (F : Plane) (cc dd : Int), Four N n k F cc dd →
    Calls Tryz.prog fn (args (kV k)) w fun e w' => ∃ g' N' fb' m', Mx sb tb mb most w g N fb m c w' g' N' fb' m' ∧ Out10 most e N' n' (shF (gens t F) (cc + h) (dd + h))
theorem make10 {w : World} {sb g tb most mb : Nat} {N : List Nd} {fb : FbT} {m : Stp → Option Value} (h : Me w sb g tb most N mb fb m) {n : Nat} (hn : n < 62) {k : K4} {F : Plane} {cc dd : Int} (hk : Four N n k F cc dd) :
    Calls Tryz.prog 58 #[.pointer (some ⟨sb, 0, none⟩), kV k] w fun e w' => ∃ g' N', Mx sb tb mb most w g N fb m 1 w' g' N' fb m ∧ Out10 most e N' (n + 1) (shF F cc dd) := by
  obtain ⟨cap, hs⟩ := h.st
  refine (make_sq hs hn hk.fo).mono ?_
  rintro e w' ⟨g', N', hnx, hres⟩
  refine ⟨g', N', Mx.of_nx h hnx, hres.imp ?_ id⟩
  rintro ⟨r, rfl, hsq, hkid, _⟩
  refine ⟨r, rfl, ?_⟩
  obtain ⟨E, rfl, _⟩ := hnx.ext
  exact con_make2 hsq hkid (hk.app hs.wf E)
theorem way_make (sb tb mb most : Nat) (Keep : World → Nat → FbT → Prop) {n : Nat} (hn : n < 62) : Way sb tb mb most Keep 58 (fun v => #[.pointer (some ⟨sb, 0, none⟩), v]) n (n + 1) 0 0 1 := by
  intro w g N fb m h _ k F cc dd hk
  refine (make10 h hn hk).mono ?_
  rintro e w' ⟨g', N', h1, h2⟩
  refine ⟨g', N', fb, m, h1, ?_⟩
  rw [Int.add_zero, Int.add_zero]
  exact h2
set_option maxHeartbeats 2000000 in
theorem way_middle (sb tb mb most : Nat) (Keep : World → Nat → FbT → Prop) {n : Nat} (hn : n < 62) : Way sb tb mb most Keep 95 (fun v => #[.pointer (some ⟨mb, 0, none⟩), v]) (n + 1) (n + 1) 0 (2 ^ n) 1 := by
  intro w g N fb m h _ k F cc dd hk
  have HM := Lib.hid h
  have HB := Lib.hid (bel1 w (kO k))
  have HO : Hid (Oe (w.alloc (kO k)) sb g tb mb fb w.heap.size (kO k)) := Oe.new h _ _
  have HK := Lib.hid hk
  have HFO := Lib.hid (fo_iff.1 hk.fo)
  clear h hk
  unfold kV kO at *
  go_enter Tryz.func95, Tryz.ntmps95
  obtain ⟨c0, c1, c2, c3⟩ := k_cells HO.out.at_
  go_wp2_with fail
  clear c0 c1 c2 c3
  generalize w.alloc (.cells #[.int .u32 (k.1 : Int), .int .u32 (k.2.1 : Int), .int .u32 (k.2.2.1 : Int), .int .u32 (k.2.2.2 : Int)] 63) = W0 at *
  go_loopg [6, 7, 8, 9, 11] 4 (fun mm v6 v7 v8 v9 cnt wr => ∃ (j : Nat) (q : Nat → Nat), mm = 4 - j ∧ j ≤ 4 ∧ cnt = .int .i64 (j : Int) ∧ Below w.heap.size w wr ∧ Oe wr sb g tb mb fb w.heap.size (kO (mk4 q)) ∧ (∀ i, i < j → q i = midF N k i))
  case atStart => exact ⟨0, kAt k, rfl, Nat.zero_le _, rfl, HB.out, HO.out, fun i hi => by omega⟩
  case round =>
    clear HO HB
    obtain ⟨j, q, hm, hj, rfl, hb, hO, hq⟩ := hrel
    have HMM := Lib.hid hm
    have HB := Lib.hid hb
    have HO := Lib.hid hO
    have HQ := Lib.hid hq
    have HM1 := Lib.hid (HM.out.later hb)
    clear hm hb hO hq
    by_cases hlt : j < 4
    · have hgj : decide ((j : Int) < 4) = true := by simp; omega
      have hix := kix k hlt
      have hsq := HFO.out j hlt
      have HX := Lib.hid hsq
      obtain ⟨sv0, cl0, hth, m0, m1, mv, m2, mt, m3⟩ := HM1.out.cells
      clear mv mt hth m1 m2 m3 hsq
      obtain ⟨cap1, hs1⟩ := HM1.out.st
      have HS1 := Lib.hid hs1
      clear hs1
      go_wp2_with fail
      refine (of_sqk HS1.out HX.out).mono ?_
      rintro e w5 ⟨rfl, hb⟩
      have HKD : Hid (kAt (kidZ N (kAt k j)) (3 - j) = midF N k j) := rfl
      generalize kidZ N (kAt k j) = k1 at *
      have HB5 := Lib.hid (HB.out.trans (hb.mono HB.out.size))
      have HO5 := Lib.hid (HO.out.later hb)
      have HM5 := Lib.hid (HM1.out.later hb)
      have HB6 := Lib.hid (HB5.out.trans ((bel1 w5 (.cells #[.int .u32 (k1.1 : Int), .int .u32 (k1.2.1 : Int), .int .u32 (k1.2.2.1 : Int), .int .u32 (k1.2.2.2 : Int)] 63)).mono HB5.out.size))
      have HO6 := Lib.hid (HO5.out.later (bel1 w5 (.cells #[.int .u32 (k1.1 : Int), .int .u32 (k1.2.1 : Int), .int .u32 (k1.2.2.1 : Int), .int .u32 (k1.2.2.2 : Int)] 63)))
      have HN6 : Hid (Oe (w5.alloc (.cells #[.int .u32 (k1.1 : Int), .int .u32 (k1.2.1 : Int), .int .u32 (k1.2.2.1 : Int), .int .u32 (k1.2.2.2 : Int)] 63)) sb g tb mb fb w5.heap.size (kO k1)) := Oe.new HM5.out _ _
      have hne : w5.heap.size ≠ w.heap.size := by have := HO5.out.lt; omega
      clear hb HB5 HO5 HB HO
      have i1 : (3 - (j : Int)) = ((3 - j : Nat) : Int) := by omega
      have w1 : IntKind.i64.wrap (3 - (j : Int)) = ((3 - j : Nat) : Int) := by rw [i1]; exact IntWalk.i64_in _ (by omega)
      have i2 : ((3 - j : Nat) : Int) < 4 := by omega
      have i3 : (0 : Int) ≤ ((3 - j : Nat) : Int) := by omega
      have i4 : (j : Int) < 4 := by omega
      have i5 : (0 : Int) ≤ (j : Int) := by omega
      obtain ⟨e0, e1⟩ := k_cell HN6.out.at_ (show 3 - j < 4 by omega)
      obtain ⟨o0, o1⟩ := k_cell HO6.out.at_ hlt
      go_upto_region 5 with fail
      have HGG : Hid (∃ jj : Nat, jj = 3 - j) := ⟨_, rfl⟩
      generalize w5.alloc (.cells #[.int .u32 (k1.1 : Int), .int .u32 (k1.2.1 : Int), .int .u32 (k1.2.2.1 : Int), .int .u32 (k1.2.2.2 : Int)] 63) = W6 at *
      generalize 3 - j = jj at *
      go_wp2_with fail
      go_roundg (4 - (j + 1))
      case measure => rw [HMM.out]; omega
      case rel =>
        refine ⟨j + 1, fun i => if i = j then midF N k j else q i, rfl, by omega, by go_num, HB6.out.setCell (p := ⟨w.heap.size, j, none⟩) (Nat.le_refl _) _, ?_, fun i hi => ?_⟩
        · have := HO6.out.set hlt (kAt k1 jj)
          rw [HKD.out] at this ⊢
          rw [show (mk4 fun i => if i = j then midF N k j else kAt (mk4 q) i) = mk4 (fun i => if i = j then midF N k j else q i) from mk4_ext fun i hi => by show (if i = j then midF N k j else kAt (mk4 q) i) = _; rw [kAt_mk4 _ hi]] at this
          exact this
        · show (if i = j then midF N k j else q i) = _
          by_cases e : i = j
          · subst e; rw [if_pos rfl]
          · rw [if_neg e]; exact HQ.out i (by omega)
    · obtain rfl : j = 4 := by omega
      have hgj : decide (((4 : Nat) : Int) < 4) = false := by simp
      have HE : Hid (mk4 q = midK N k) := mk4_ext HQ.out
      rw [HE.out] at HO
      obtain ⟨c0, c1, c2, c3⟩ := k_cells HO.out.at_
      obtain ⟨sv0, cl0, hth, m0, m1, mv, m2, mt, m3⟩ := HM1.out.cells
      clear mv mt hth m1 m2 m3
      have HMK := Lib.hid (make10 HM1.out.drew (n := n) (by omega) (k := midK N k) (F := F) (cc := cc + 2 ^ n) (dd := dd + 2 ^ n) (fun r b => con_mid HM1.out.wf HK.out r b))
      generalize midK N k = k2 at *
      go_upto_region 7 with fail
      refine region_sq 5 (fun W => W = wr.drew) [(0, 1), (1, 1), (2, 1), (3, 2), (4, 2), (5, 3), (6, 1), (7, 1), (8, 1), (9, 1)] (by kernel_rfl) (by kernel_rfl) rfl (by intro c a d v w h; cases d <;> exact h) (by kernel_rfl) rfl ?_
      refine ⟨_, ?_, rfl, by rfl, ?_, ?_⟩
      rotate_left
      · intro W; go_simp; first | done | rfl
      conv => arg 6; simp only [Act.put, List.setIfInBounds_toArray, List.set_cons_zero, List.set_cons_succ]
      refine ⟨_, ?_, rfl, by rfl, ?_, ?_⟩
      rotate_left
      · intro W; go_simp; first | done | rfl
      conv => arg 6; simp only [Act.put, List.setIfInBounds_toArray, List.set_cons_zero, List.set_cons_succ]
      refine ⟨_, ?_, rfl, by rfl, ?_, ?_⟩
      rotate_left
      · intro W; go_simp; first | done | rfl
      conv => arg 6; simp only [Act.put, List.setIfInBounds_toArray, List.set_cons_zero, List.set_cons_succ]
      refine ⟨_, ?_, rfl, by rfl, ?_, ?_⟩
      rotate_left
      · rintro W rfl
        skip
        go_simp; first | done | rfl
      conv => arg 6; simp only [Act.put, List.setIfInBounds_toArray, List.set_cons_zero, List.set_cons_succ]
      refine ⟨_, ?_, rfl, by rfl, ?_, ?_⟩
      rotate_left
      · rintro W rfl
        skip
        go_simp; first | done | rfl
      conv => arg 6; simp only [Act.put, List.setIfInBounds_toArray, List.set_cons_zero, List.set_cons_succ]
      refine ⟨_, rfl, by rfl, fun K hK => ?_⟩
      go_simp
      unfold kV at HMK
      refine HMK.out.mono ?_
      rintro e w6 ⟨g6, N6, hnx, hres⟩
      have HR6 := Lib.hid hres
      obtain ⟨r, ev, rfl, hres2⟩ := two10 hres
      have HN6 := Lib.hid hnx
      clear hnx hres hres2 HMK
      refine hK _ _ ?_
      clear hK K
      conv => arg 6; simp only [Act.put, List.setIfInBounds_toArray, List.set_cons_zero, List.set_cons_succ]
      refine ⟨_, ?_, rfl, by rfl, ?_, ?_⟩
      rotate_left
      · intro W; go_simp; first | done | rfl
      conv => arg 6; simp only [Act.put, List.setIfInBounds_toArray, List.set_cons_zero, List.set_cons_succ]
      refine ⟨_, ?_, rfl, by rfl, ?_, ?_⟩
      rotate_left
      · intro W; go_simp; first | done | rfl
      conv => arg 6; simp only [Act.put, List.setIfInBounds_toArray, List.set_cons_zero, List.set_cons_succ]
      refine ⟨_, ?_, rfl, by rfl, ?_, ?_⟩
      rotate_left
      · intro W; go_simp; first | done | rfl
      conv => arg 6; simp only [Act.put, List.setIfInBounds_toArray, List.set_cons_zero, List.set_cons_succ]
      refine ⟨_, ?_, rfl, by rfl, ?_, ?_⟩
      rotate_left
      · intro W; go_simp; first | done | rfl
      conv => arg 6; simp only [Act.put, List.setIfInBounds_toArray, List.set_cons_zero, List.set_cons_succ]
      unfold wpSq
      go_wp2_with fail
      go_ret2
      refine ⟨g6, N6, fb, m, ((Mx.of_below HM.out HB.out).trans HN6.out.undrew).mono (by omega), HR6.out⟩
/-- What a memo's next comes to. -/
def Res10 (most : Nat) (e : Ending) (N' : List Nd) (m' : Stp → Option Value) (n x p : Nat) : Prop :=
  (∃ z : Nat, e = .returned (.tuple #[.int .u32 (z : Int), .nilIface]) ∧ Sc N' n x p z ∧ m' ⟨x, p⟩ = some (.int .u32 (z : Int))) ∨ (e = .returned (.tuple #[.int .u32 0, .iface 48 (.int .i64 7)]) ∧ most ≤ N'.length)
/-- The contract of next, at a level and a power. -/
def Nexts (sb tb mb most n p c : Nat) : Prop := ∀ (w : World) (g : Nat) (N : List Nd) (fb : FbT) (m : Stp → Option Value), Me w sb g tb most N mb fb m → ∀ (x : Nat), Sq N (n + 2) x →
    Calls Tryz.prog 79 #[.pointer (some ⟨mb, 0, none⟩), .agg #[.int .u32 (x : Int), .int .i64 (p : Int)]] w fun e w' => ∃ g' N' fb' m', Mx sb tb mb most w g N fb m c w' g' N' fb' m' ∧ Res10 most e N' m' n x p
end Go.Proofs.YtaapkngpnlnjeaaGreatDoor
end

section
namespace Go.Proofs.YtaapkngpnlnjeaaGreatDoor
open Go.RowKit Go.Maps
set_option maxRecDepth 100000

/-- What later's way keeps: its memo, its power. -/
def KeepL (sb tb mb p pa pb : Nat) (w : World) (g : Nat) (fb : FbT) : Prop :=
  Oe w sb g tb mb fb pa (.cells #[.pointer (some ⟨mb, 0, none⟩)] 42 (0, 0)) ∧ Oe w sb g tb mb fb pb (.cells #[.int .i64 (p : Int)] 3 (0, 0))
theorem KeepL.mx {sb tb mb most p pa pb : Nat} {w w' : World} {g g' c : Nat} {N N' : List Nd} {fb fb' : FbT} {m m' : Stp → Option Value} (h : KeepL sb tb mb p pa pb w g fb) (hn : Mx sb tb mb most w g N fb m c w' g' N' fb' m') : KeepL sb tb mb p pa pb w' g' fb' := ⟨h.1.mx hn, h.2.mx hn⟩
theorem KeepL.later {sb tb mb p pa pb : Nat} {w w' : World} {g : Nat} {fb : FbT} (h : KeepL sb tb mb p pa pb w g fb) (hb : Below w.heap.size w w') : KeepL sb tb mb p pa pb w' g fb := ⟨h.1.later hb, h.2.later hb⟩
/-- These blocks stand beside a memo. -/
def Kp (sb tb mb : Nat) (Bs : List (Nat × Obj)) (w : World) (g : Nat) (fb : FbT) : Prop := ∀ bo ∈ Bs, Oe w sb g tb mb fb bo.1 bo.2
theorem Kp.mx {sb tb mb most : Nat} {Bs : List (Nat × Obj)} {w w' : World} {g g' c : Nat} {N N' : List Nd} {fb fb' : FbT} {m m' : Stp → Option Value} (h : Kp sb tb mb Bs w g fb) (hn : Mx sb tb mb most w g N fb m c w' g' N' fb' m') : Kp sb tb mb Bs w' g' fb' := fun bo hb => (h bo hb).mx hn
theorem Kp.later {sb tb mb : Nat} {Bs : List (Nat × Obj)} {w w' : World} {g : Nat} {fb : FbT} (h : Kp sb tb mb Bs w g fb) (hb : Below w.heap.size w w') : Kp sb tb mb Bs w' g fb := fun bo hbo => (h bo hbo).later hb
theorem Kp.set {sb tb mb : Nat} {Bs : List (Nat × Obj)} {w : World} {g D b i : Nat} {fb : FbT} (h : Kp sb tb mb Bs w g fb) (hD : ∀ bo ∈ Bs, bo.1 < D) (hb : D ≤ b) (v : Value) : Kp sb tb mb Bs (w.setCell ⟨b, i, none⟩ v) g fb := fun bo hbo => (h bo hbo).other (by have := hD bo hbo; show b ≠ bo.1; omega) v
theorem Kp.setRow {sb tb mb : Nat} {Bs : List (Nat × Obj)} {w : World} {g D b : Nat} {fb : FbT} (h : Kp sb tb mb Bs w g fb) (hD : ∀ bo ∈ Bs, bo.1 < D) (hb : D ≤ b) (cs : Array Value) : Kp sb tb mb Bs (w.setRow b cs) g fb := fun bo hbo => (h bo hbo).otherRow (by have := hD bo hbo; omega) cs
theorem Way.mono {sb tb mb most : Nat} {K K' : World → Nat → FbT → Prop} {fn : FuncId} {args : Value → Array Value} {n n' t c : Nat} {h : Int} (hw : Way sb tb mb most K fn args n n' t h c) (hk : ∀ w g fb, K' w g fb → K w g fb) : Way sb tb mb most K' fn args n n' t h c :=
  fun w g N fb m h1 h2 k F cc dd h3 => hw w g N fb m h1 (hk w g fb h2) k F cc dd h3
theorem one_cell10 {w : World} {b : Nat} {v : Value} {t : TypeId} (h : w.heap[b]? = some (.cells #[v] t (0, 0))) : w.cell? ⟨b, 0, none⟩ = some v := by rw [Lib.cell_of_heap h]; rfl
set_option maxHeartbeats 2000000 in
theorem way_later (sb tb mb most : Nat) {n p c pa pb : Nat} (hn : n + 1 < 62) (HX : Nexts sb tb mb most n p c) :
    Way sb tb mb most (KeepL sb tb mb p pa pb) 101 (fun v => #[v, .pointer (some ⟨pa, 0, none⟩), .pointer (some ⟨pb, 0, none⟩)]) (n + 1) (n + 1) (2 ^ p) (2 ^ n) (1 + c) := by
  intro w g N fb m h hkeep k F cc dd hk
  have HM := Lib.hid h
  have HB := Lib.hid (bel1 w (.cells #[.int .u32 (k.1 : Int), .int .u32 (k.2.1 : Int), .int .u32 (k.2.2.1 : Int), .int .u32 (k.2.2.2 : Int)] 63))
  have HO : Hid (Oe (w.alloc (.cells #[.int .u32 (k.1 : Int), .int .u32 (k.2.1 : Int), .int .u32 (k.2.2.1 : Int), .int .u32 (k.2.2.2 : Int)] 63)) sb g tb mb fb w.heap.size (kO k)) := Oe.new h _ _
  have HKP := Lib.hid (hkeep.later HB.out)
  have HM1 := Lib.hid (h.later HB.out)
  have HK := Lib.hid hk
  have HNX := Lib.hid HX
  clear h hkeep hk HX
  unfold kV
  dsimp only
  go_enter Tryz.func101, Tryz.ntmps101
  go_upto_region 1 with fail
  generalize w.alloc (.cells #[.int .u32 (k.1 : Int), .int .u32 (k.2.1 : Int), .int .u32 (k.2.2.1 : Int), .int .u32 (k.2.2.2 : Int)] 63) = W0 at *
  have p0 := one_cell10 HKP.out.1.at_
  obtain ⟨c0, c1, c2, c3⟩ := k_cells HO.out.at_
  obtain ⟨sv0, cl0, hth, m0, m1, mv, m2, mt, m3⟩ := HM1.out.cells
  clear mv mt hth m1 m2 m3
  have HMK := Lib.hid (make10 HM1.out.drew (n := n + 1) (by omega) HK.out)
  refine region_sq 5 (fun W => W = W0.drew) [(0, 2), (1, 1), (2, 1), (3, 2), (4, 2), (5, 3), (6, 1), (7, 1), (8, 1), (9, 1), (10, 1)] (by kernel_rfl) (by kernel_rfl) rfl (by intro c a d v w h; cases d <;> exact h) (by kernel_rfl) rfl ?_
  refine ⟨_, ?_, rfl, by rfl, ?_, ?_⟩
  rotate_left
  · rintro W rfl
    skip
    go_simp; first | done | rfl
  conv => arg 6; simp only [Act.put, List.setIfInBounds_toArray, List.set_cons_zero, List.set_cons_succ]
  refine ⟨_, ?_, rfl, by rfl, ?_, ?_⟩
  rotate_left
  · intro W; go_simp; first | done | rfl
  conv => arg 6; simp only [Act.put, List.setIfInBounds_toArray, List.set_cons_zero, List.set_cons_succ]
  refine ⟨_, ?_, rfl, by rfl, ?_, ?_⟩
  rotate_left
  · intro W; go_simp; first | done | rfl
  conv => arg 6; simp only [Act.put, List.setIfInBounds_toArray, List.set_cons_zero, List.set_cons_succ]
  refine ⟨_, ?_, rfl, by rfl, ?_, ?_⟩
  rotate_left
  · rintro W rfl
    skip
    go_simp; first | done | rfl
  conv => arg 6; simp only [Act.put, List.setIfInBounds_toArray, List.set_cons_zero, List.set_cons_succ]
  refine ⟨_, ?_, rfl, by rfl, ?_, ?_⟩
  rotate_left
  · rintro W rfl
    skip
    go_simp; first | done | rfl
  conv => arg 6; simp only [Act.put, List.setIfInBounds_toArray, List.set_cons_zero, List.set_cons_succ]
  refine ⟨_, rfl, by rfl, fun K hK => ?_⟩
  go_simp
  unfold kV at HMK
  refine HMK.out.mono ?_
  rintro e w6 ⟨g6, N6, hnx, hres⟩
  have HR6 := Lib.hid hres
  obtain ⟨r, ev, rfl, hres2⟩ := two10 hres
  have HN6 := Lib.hid hnx
  clear hnx hres HMK
  refine hK _ _ ?_
  clear hK K
  conv => arg 6; simp only [Act.put, List.setIfInBounds_toArray, List.set_cons_zero, List.set_cons_succ]
  refine ⟨_, ?_, rfl, by rfl, ?_, ?_⟩
  rotate_left
  · intro W; go_simp; first | done | rfl
  conv => arg 6; simp only [Act.put, List.setIfInBounds_toArray, List.set_cons_zero, List.set_cons_succ]
  refine ⟨_, ?_, rfl, by rfl, ?_, ?_⟩
  rotate_left
  · intro W; go_simp; first | done | rfl
  conv => arg 6; simp only [Act.put, List.setIfInBounds_toArray, List.set_cons_zero, List.set_cons_succ]
  refine ⟨_, ?_, rfl, by rfl, ?_, ?_⟩
  rotate_left
  · intro W; go_simp; first | done | rfl
  conv => arg 6; simp only [Act.put, List.setIfInBounds_toArray, List.set_cons_zero, List.set_cons_succ]
  refine ⟨_, ?_, rfl, by rfl, ?_, ?_⟩
  rotate_left
  · intro W; go_simp; first | done | rfl
  conv => arg 6; simp only [Act.put, List.setIfInBounds_toArray, List.set_cons_zero, List.set_cons_succ]
  refine ⟨_, ?_, rfl, by rfl, ?_, ?_⟩
  rotate_left
  · intro W; go_simp; first | done | rfl
  conv => arg 6; simp only [Act.put, List.setIfInBounds_toArray, List.set_cons_zero, List.set_cons_succ]
  unfold wpSq
  have HN7 := Lib.hid (((Mx.of_below HM.out HB.out).trans HN6.out.undrew).mono (show 0 + 1 ≤ 1 + c by omega))
  rcases hres2 with ⟨rfl, hc⟩ | ⟨rfl, rfl, hfull⟩
  · have HC := Lib.hid hc
    have HKP6 := Lib.hid (HKP.out.mx HN6.out.undrew)
    have p0 := one_cell10 HKP6.out.1.at_
    have p1 := one_cell10 HKP6.out.2.at_
    have HNN := Lib.hid (HNX.out _ _ _ _ _ HN6.out.me _ hc.1)
    clear hc HR6
    go_wp2_with fail
    refine HNN.out.mono ?_
    rintro e w8 ⟨g8, N8, fb8, m8, hmx, hres⟩
    have HN8 := Lib.hid ((((Mx.of_below HM.out HB.out).trans HN6.out.undrew).trans hmx).mono (show 0 + 1 + c ≤ 1 + c by omega))
    have HC8 : Hid (Con N8 (n + 1 + 1) r (shF F cc dd)) := by
      obtain ⟨E, hE, _⟩ := hmx.ext
      rw [hE]; exact HC.out.app HN6.out.me.wf E
    clear hmx
    rcases hres with ⟨z, rfl, hsc, _⟩ | ⟨rfl, hfull⟩
    · have HZ : Hid (Con N8 (n + 1) z (shF (gens (2 ^ p) F) (cc + 2 ^ n) (dd + 2 ^ n))) := by
        have := hsc.out _ HC8.out
        rw [gens_sh, shF_shF] at this
        exact this
      clear hsc
      go_wp2_with fail
      go_ret2
      exact ⟨g8, N8, fb8, m8, HN8.out, Or.inl ⟨z, rfl, HZ.out⟩⟩
    · have HF := Lib.hid hfull
      clear hfull
      go_wp2_with fail
      go_ret2
      exact ⟨g8, N8, fb8, m8, HN8.out, Or.inr ⟨rfl, HF.out⟩⟩
  · have HF := Lib.hid hfull
    clear hfull HR6
    go_wp2_with fail
    go_ret2
    exact ⟨g6, N6, fb, m, HN7.out, Or.inr ⟨rfl, HF.out⟩⟩
end Go.Proofs.YtaapkngpnlnjeaaGreatDoor
end
