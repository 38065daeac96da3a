/- Package collect: rows of bools and of squares' numbers; mark, Reverse: contracts. -/
import Derived.Test.YtgciceogggldhaaS13
import Derived.Test.YtgciceogggldhaaQm
import Derived.Test.YtgciceogggldhaaSq
import Derived.Maps.AppendAt
import Derived.Deep.DeepCutAuto
import Derived.Deep.CutBlock
import Derived.Deep.CutRange
import Derived.Laws.MakeOwn
import Derived.BigQuiet
import Derived.BigRegion
namespace Go.Proofs.Ytgciceogggldhaa
open Go.RowKit Go.Maps
set_option maxRecDepth 100000

/-- A row of squares' numbers of the call's own. -/
def IdRow (w : World) (B : Nat) (v : Value) (xs : List Nat) : Prop := w.ownsRow B 34 1 v xs.length (xs.map fun (x : Nat) => Value.int .u32 (x : Int))
theorem IdRow.blk {w : World} {B : Nat} {v : Value} {xs : List Nat} (h : IdRow w B v xs) {b : Nat} (hb : v.ownBlock = some b) : B ≤ b ∧ b < w.heap.size ∧ ∃ cur, w.heap[b]? = some (.cells cur 34 (0, 0)) := by
  rcases h.2 with ⟨hv, _⟩ | ⟨g', cp, cur, hv, h0, hg, _⟩
  · rw [hv] at hb; simp [Value.ownBlock] at hb
  · rw [hv] at hb
    simp [Value.ownBlock] at hb
    subst hb
    exact ⟨h0, (Array.getElem?_eq_some_iff.1 hg).1, cur, hg⟩
theorem IdRow.of_block {w w' : World} {B : Nat} {v : Value} {xs : List Nat} (h : IdRow w B v xs) (hb : ∀ b, v.ownBlock = some b → w'.heap[b]? = w.heap[b]?) : IdRow w' B v xs := by
  refine ⟨h.1, ?_⟩
  rcases h.2 with hn | ⟨g', cp, cur, hv, h0, hg, hr⟩
  · exact Or.inl hn
  · exact Or.inr ⟨g', cp, cur, hv, h0, by rw [hb g' (by rw [hv]; rfl)]; exact hg, hr⟩
theorem IdRow.later {w w' : World} {B : Nat} {v : Value} {xs : List Nat} (h : IdRow w B v xs) (hb : Below w.heap.size w w') : IdRow w' B v xs :=
  h.of_block fun b hb' => hb.block b (h.blk hb').2.1
theorem IdRow.at {w : World} {B b : Nat} {n cap : Nat} {xs : List Nat} (h : IdRow w B (.slice (some ⟨b, 0, none⟩) n cap) xs) (hn : n = xs.length) {i x : Nat} (hx : xs[i]? = some x) : w.cell? ⟨b, i, none⟩ = some (.int .u32 (x : Int)) ∧ w.frozen? ⟨b, i, none⟩ = false := by
  subst hn
  have hi : i < xs.length := (List.getElem?_eq_some_iff.1 hx).1
  have := World.ownsRow.cellAt h i (by omega)
  refine ⟨?_, World.ownsRow.frozenAt h i⟩
  rw [this, List.getElem?_map, hx]; rfl
theorem IdRow.slice {w : World} {B : Nat} {v : Value} {xs : List Nat} (h : IdRow w B v xs) (hl : 0 < xs.length) : ∃ b cap, v = .slice (some ⟨b, 0, none⟩) xs.length cap := by
  obtain ⟨b, cap, hv, _⟩ := World.ownsRow.form h hl
  exact ⟨b, cap, hv⟩
theorem IdRow.nil (w : World) (B : Nat) : IdRow w B (.slice none 0 0) [] := World.ownsRow_nil _ _ _ _
theorem IdRow.set {w : World} {B b n cap : Nat} {xs : List Nat} (h : IdRow w B (.slice (some ⟨b, 0, none⟩) n cap) xs) (hn : n = xs.length) (j y : Nat) : IdRow (w.setCell ⟨b, j, none⟩ (.int .u32 (y : Int))) B (.slice (some ⟨b, 0, none⟩) n cap) (xs.set j y) := by
  subst hn
  have := (World.ownsRow.stored h j (.int .u32 (y : Int))).1
  unfold IdRow
  rw [List.length_set, List.map_set]
  exact this
/-- A block of bools. -/
def BAt (w : World) (b : Nat) (F : List Bool) : Prop := w.heap[b]? = some (.cells (F.map Value.bool).toArray 4 (0, 0))
theorem BAt.lt {w : World} {b : Nat} {F : List Bool} (h : BAt w b F) : b < w.heap.size := (Array.getElem?_eq_some_iff.1 h).1
theorem BAt.cell {w : World} {b : Nat} {F : List Bool} (h : BAt w b F) {j : Nat} (hj : j < F.length) : w.cell? ⟨b, j, none⟩ = some (.bool (nd13 F j)) ∧ w.frozen? ⟨b, j, none⟩ = false := by
  refine ⟨by rw [Lib.cell_of_heap h]; simp [nd13, hj], Lib.frozen_of_heap h j⟩
theorem BAt.set {w : World} {b : Nat} {F : List Bool} (h : BAt w b F) (j : Nat) (v : Bool) : BAt (w.setCell ⟨b, j, none⟩ (.bool v)) b (F.set j v) := by
  unfold BAt at h ⊢
  simp only [World.setCell, Array.getElem?_modify, h]
  simp [List.map_set]
theorem BAt.later {w w' : World} {b : Nat} {F : List Bool} (h : BAt w b F) (hb : Below w.heap.size w w') : BAt w' b F := by
  unfold BAt; rw [hb.block b h.lt]; exact h
theorem BAt.grown {w w' : World} {b : Nat} {F : List Bool} {r : Option Nat} (h : BAt w b F) (hg : w.grownBy w' r) (hr : some b ≠ r) : BAt w' b F := by
  unfold BAt; rw [hg.block b h.lt hr]; exact h
theorem IdRow.grown {w w' : World} {B : Nat} {v : Value} {xs : List Nat} {r : Option Nat} (h : IdRow w B v xs) (hg : w.grownBy w' r) (hr : ∀ b, v.ownBlock = some b → some b ≠ r) : IdRow w' B v xs :=
  h.of_block fun b hb' => hg.block b (h.blk hb').2.1 (hr b hb')
theorem IdRow.apartB {w : World} {B b : Nat} {v : Value} {xs : List Nat} {F : List Bool} (h : IdRow w B v xs) (hF : BAt w b F) : v.ownBlock ≠ some b := fun e => by
  obtain ⟨_, _, cur, hc⟩ := h.blk e
  rw [hF] at hc; cases hc
theorem grown_bel {w w' : World} (h : Below w.heap.size w w') (r : Option Nat) : w.grownBy w' r := ⟨h.os, h.tape, h.output, h.size, fun k hk _ => h.block k hk⟩
theorem bel_grown {w w' : World} {B b : Nat} (h : w.grownBy w' (some b)) (hB : B ≤ b) (hw : B ≤ w.heap.size) : Below B w w' := ⟨h.os, h.tape, h.output, h.size, fun k hk => h.block k (by omega) (by simp; omega)⟩
theorem grown_set {w : World} (b i : Nat) (v : Value) : w.grownBy (w.setCell ⟨b, i, none⟩ v) (some b) := ⟨rfl, rfl, rfl, by simp, fun k _ hk => Below.heap_setCell _ _ _ _ (fun e => hk (by simpa using e))⟩
theorem St.grown {w w' : World} {sb g tb cap most : Nat} {N : List Nd} (h : St w sb g tb cap most N) {b : Nat} (hg : w.grownBy w' (some b)) (hb : b ≠ sb ∧ b ≠ g ∧ b ≠ tb) : St w' sb g tb cap most N := by
  obtain ⟨l1, l2, l3⟩ := h.lt
  exact h.keep (hg.block _ l1 (by simp; exact Ne.symm hb.1)) (hg.block _ l2 (by simp; exact Ne.symm hb.2.1)) (hg.block _ l3 (by simp; exact Ne.symm hb.2.2))
/-- A block of bools is none of a store's. -/
theorem BAt.apart {w : World} {b : Nat} {F : List Bool} (hF : BAt w b F) {sb g tb cap most : Nat} {N : List Nd} (hS : St w sb g tb cap most N) (ht : 4 ≠ 66) (ht2 : 4 ≠ 76) : b ≠ sb ∧ b ≠ g ∧ b ≠ tb := by
  refine ⟨fun e => ?_, fun e => ?_, fun e => ?_⟩
  · rw [e] at hF
    unfold BAt at hF
    rw [hS.blk] at hF
    simp only [Option.some.injEq, Obj.cells.injEq] at hF
    exact ht hF.2.1.symm
  · rcases hS.row.2 with ⟨hv, _⟩ | ⟨g2, cp, cur2, hv, _, hgg, _⟩
    · cases hv
    · cases hv
      rw [e] at hF
      unfold BAt at hF
      rw [hgg] at hF
      simp only [Option.some.injEq, Obj.cells.injEq] at hF
      exact ht2 hF.2.1.symm
  · obtain ⟨D, ⟨es, cl, t1, _⟩, _⟩ := hS.tab
    rw [e] at hF
    unfold BAt at hF
    rw [t1] at hF; cases hF
/-- The first so many of four are marked. -/
def mkJ (b : List Bool) (k : K4) : Nat → List Bool
  | 0 => b
  | j + 1 => (mkJ b k j).set (kAt k j) true
theorem mkJ_len (b : List Bool) (k : K4) : ∀ j, (mkJ b k j).length = b.length
  | 0 => rfl
  | j + 1 => by show ((mkJ b k j).set _ _).length = _; rw [List.length_set]; exact mkJ_len b k j
theorem mkJ_all (b : List Bool) (k : K4) : mkJ b k 4 = mk4L b k := rfl
/-- What mark makes of which are needed. -/
def mkB (N : List Nd) (x : Nat) (b : List Bool) : List Bool := match N[x]? with | some n => if 1 ≤ n.lv then mk4L b n.k else b | none => b
theorem st_mkB (N : List Nd) (i : Nat) (b : List Bool) : stN N i b = if nd13 b i then mkB N i b else b := rfl
theorem mkB_len (N : List Nd) (i : Nat) (b : List Bool) : (mkB N i b).length = b.length := by
  unfold mkB; split
  · split
    · exact mk4_len _ _
    · rfl
  · rfl
set_option maxHeartbeats 2000000 in
theorem mark_any {w : World} {sb g tb cap most : Nat} {N : List Nd} (h : St w sb g tb cap most N) {nb n x : Nat} {F : List Bool} (hF : BAt w nb F) (hn : n = F.length) (hl : F.length = N.length) (hx : x < N.length) :
    Calls Try.prog 36 #[.slice (some ⟨nb, 0, none⟩) n n, .pointer (some ⟨sb, 0, none⟩), .int .u32 (x : Int)] w fun e w' => e = .returned (.tuple #[]) ∧ BAt w' nb (mkB N x F) ∧ w.grownBy w' (some nb) := by
  have hxu : x < 4294967296 := by have := h.room; have := h.most_le; omega
  have hN := List.getElem?_eq_getElem hx
  by_cases hlv : 1 ≤ N[x].lv
  · have hmk : mkB N x F = mk4L F N[x].k := by unfold mkB; rw [hN]; simp [hlv]
    have hk := h.wf.k_lt hN
    have HOF := Lib.hid (of_good h x hxu hN (by omega))
    have hkk : ∀ i, i < 4 → kAt N[x].k i < n := fun i hi => by
      have : i = 0 ∨ i = 1 ∨ i = 2 ∨ i = 3 := by omega
      rw [hn, hl]
      rcases this with rfl | rfl | rfl | rfl
      · exact hk.1
      · exact hk.2.1
      · exact hk.2.2.1
      · exact hk.2.2.2
    have HKK := Lib.hid hkk
    have HF := Lib.hid hF
    have HMK := Lib.hid hmk
    have HNL := Lib.hid hn
    rw [hmk]
    generalize N[x].k = k at *
    clear h hF hmk hkk hk hn hl hN hlv
    go_enter Try.func36, Try.ntmps36
    go_wp2_with fail
    refine HOF.out.mono ?_
    rintro e W1 ⟨rfl, hb⟩
    have HB1 := Lib.hid (hb.trans ((bel1 W1 (.cells #[.int .u32 (k.1 : Int), .int .u32 (k.2.1 : Int), .int .u32 (k.2.2.1 : Int), .int .u32 (k.2.2.2 : Int)] 68)).mono hb.size))
    have HO : Hid ((W1.alloc (.cells #[.int .u32 (k.1 : Int), .int .u32 (k.2.1 : Int), .int .u32 (k.2.2.1 : Int), .int .u32 (k.2.2.2 : Int)] 68)).heap[W1.heap.size]? = some (kO k)) := heap_alloc_new W1 _
    clear hb
    obtain ⟨c0, c1, c2, c3⟩ := k_cells HO.out
    unfold kv
    go_wp2_with fail
    clear c0 c1 c2 c3 HO
    have HF1 := Lib.hid (HF.out.later HB1.out)
    have HG1 := Lib.hid (grown_bel HB1.out (some nb))
    generalize W1.alloc (.cells #[.int .u32 (k.1 : Int), .int .u32 (k.2.1 : Int), .int .u32 (k.2.2.1 : Int), .int .u32 (k.2.2.2 : Int)] 68) = W2 at *
    clear HB1 HOF
    go_loopg [9, 19] 4 (fun mm v9 cnt wr => ∃ j : Nat, mm = 4 - j ∧ j ≤ 4 ∧ cnt = .int .i64 (j : Int) ∧ BAt wr nb (mkJ F k j) ∧ w.grownBy wr (some nb))
    case atStart => exact ⟨0, rfl, Nat.zero_le _, rfl, HF1.out, HG1.out⟩
    case round =>
      clear HF1 HG1
      obtain ⟨j, hm, hj, rfl, hB, hG⟩ := hrel
      have HMM := Lib.hid hm
      have HB := Lib.hid hB
      have HG := Lib.hid hG
      clear hm hB hG
      by_cases hlt : j < 4
      · have hgj : decide ((j : Int) < 4) = true := by simp; omega
        have hix := kix k hlt
        have hkj := HKK.out j hlt
        obtain ⟨b0, f0⟩ := HB.out.cell (j := kAt k j) (by rw [mkJ_len, ← HNL.out]; exact hkj)
        have i1 : ((kAt k j : Nat) : Int) < (n : Int) := by omega
        have i0 : (0 : Int) ≤ ((kAt k j : Nat) : Int) := by omega
        have HK : Hid ((mkJ F k (j + 1)) = (mkJ F k j).set (kAt k j) true) := rfl
        generalize kAt k j = y at *
        go_wp2_with fail
        go_roundg (4 - (j + 1))
        case measure => rw [HMM.out]; omega
        case rel =>
          refine ⟨j + 1, rfl, by omega, by go_num, ?_, HG.out.trans (grown_set _ _ _)⟩
          rw [HK.out]
          exact HB.out.set y true
      · obtain rfl : j = 4 := by omega
        have hgj : decide (((4 : Nat) : Int) < 4) = false := by simp
        go_wp2_with fail
        refine bodyPost_end (results_none rfl _ _ _) rfl ?_
        exact ⟨rfl, HB.out, HG.out⟩
  · have hmk : mkB N x F = F := by unfold mkB; rw [hN]; simp [hlv]
    have HOF := Lib.hid (of_bad h x hxu (by unfold lvZ; rw [hN]; simp only; omega))
    have HF := Lib.hid hF
    rw [hmk]
    clear h hF hmk hn hl hN hlv
    go_enter Try.func36, Try.ntmps36
    go_wp2_with fail
    refine HOF.out.mono ?_
    rintro e W1 ⟨rfl, hb⟩
    have HB1 := Lib.hid hb
    clear hb
    unfold kv
    go_wp2_with fail
    refine bodyPost_ret (results_none rfl _ _ _) rfl ?_
    have hbb := HB1.out.trans ((bel1 W1 (.cells #[.int .u32 ((0 : Nat) : Int), .int .u32 ((0 : Nat) : Int), .int .u32 ((0 : Nat) : Int), .int .u32 ((0 : Nat) : Int)] 68)).mono HB1.out.size)
    exact ⟨rfl, HF.out.later hbb, grown_bel hbb _⟩
/-- A row behind so many exchanges. -/
def SwR (xs ys : List Nat) (r : Nat) : Prop := ys.length = xs.length ∧ ∀ k, k < xs.length → ys[k]? = if k < r ∨ xs.length - r ≤ k then xs[xs.length - 1 - k]? else xs[k]?
theorem sw_start (xs : List Nat) : SwR xs xs 0 := ⟨rfl, fun k hk => by rw [if_neg (by omega)]⟩
theorem sw_end {xs ys : List Nat} {r : Nat} (h : SwR xs ys r) (hr : xs.length ≤ 2 * r + 1) : ys = xs.reverse := by
  refine List.ext_getElem? fun k => ?_
  rcases Nat.lt_or_ge k xs.length with hk | hk
  · rw [List.getElem?_reverse hk, h.2 k hk]
    by_cases c : k < r ∨ xs.length - r ≤ k
    · rw [if_pos c]
    · rw [if_neg c, show xs.length - 1 - k = k by omega]
  · rw [List.getElem?_eq_none (by rw [h.1]; exact hk), List.getElem?_eq_none (by simpa using hk)]
theorem sw_next {xs ys : List Nat} {r a b : Nat} (h : SwR xs ys r) (hr : 2 * r + 1 < xs.length) (ha : ys[r]? = some a) (hb : ys[xs.length - 1 - r]? = some b) : SwR xs ((ys.set r b).set (xs.length - 1 - r) a) (r + 1) := by
  refine ⟨by simp [h.1], fun k hk => ?_⟩
  have h1 := h.2 r (by omega)
  have h2 := h.2 (xs.length - 1 - r) (by omega)
  rw [if_neg (by omega), ha] at h1
  rw [if_neg (by omega), hb] at h2
  rw [List.getElem?_set, List.length_set]
  by_cases e1 : xs.length - 1 - r = k
  · rw [if_pos e1, if_pos (by rw [h.1]; omega), if_pos (by omega), show xs.length - 1 - k = r by omega]
    exact h1
  · rw [if_neg e1, List.getElem?_set]
    by_cases e2 : r = k
    · rw [if_pos e2, if_pos (by rw [h.1]; omega), if_pos (by omega), show xs.length - 1 - k = xs.length - 1 - r by omega]
      exact h2
    · rw [if_neg e2, h.2 k hk]
      by_cases c : k < r ∨ xs.length - r ≤ k
      · rw [if_pos c, if_pos (by omega)]
      · rw [if_neg c, if_neg (by omega)]
set_option maxHeartbeats 2000000 in
theorem reverse_any {w : World} {B b cap n : Nat} {xs : List Nat} (h : IdRow w B (.slice (some ⟨b, 0, none⟩) n cap) xs) (hn : n = xs.length) (hl : n ≤ 2000000) :
    Calls Try.prog 37 #[.slice (some ⟨b, 0, none⟩) n cap] w fun e w' => e = .returned (.tuple #[]) ∧ IdRow w' B (.slice (some ⟨b, 0, none⟩) n cap) xs.reverse ∧ w.grownBy w' (some b) := by
  have HI := Lib.hid h
  have HN := Lib.hid hn
  have w1 : IntKind.i64.wrap ((n : Int) - 1) = (n : Int) - 1 := IntWalk.i64_in _ (by omega)
  clear h hn
  go_enter Try.func37, Try.ntmps37
  go_wp2_with fail
  clear w1
  go_loopg [2, 3] n (fun mm vi vj wr => ∃ (r : Nat) (ys : List Nat) (z : Int), mm = n - r ∧ r ≤ n ∧ vi = .int .i64 (r : Int) ∧ vj = .int .i64 z ∧ z = (n : Int) - 1 - (r : Int) ∧ SwR xs ys r ∧ IdRow wr B (.slice (some ⟨b, 0, none⟩) n cap) ys ∧ w.grownBy wr (some b))
  case atStart => exact ⟨0, xs, _, by omega, Nat.zero_le _, rfl, rfl, by omega, sw_start xs, HI.out, World.grownBy.refl _ _⟩
  case round =>
    clear HI
    obtain ⟨r, ys, z, hm, hr, rfl, rfl, hz, hs, hI, hG⟩ := hrel
    have HMM := Lib.hid hm
    have HS := Lib.hid hs
    have HI := Lib.hid hI
    have HG := Lib.hid hG
    clear hm hs hI hG
    by_cases hlt : 2 * r + 1 < n
    · have hyl : ys.length = n := by rw [HS.out.1, HN.out]
      obtain ⟨a, ha⟩ : ∃ a, ys[r]? = some a := ⟨_, List.getElem?_eq_getElem (by omega)⟩
      obtain ⟨c, hc⟩ : ∃ c, ys[xs.length - 1 - r]? = some c := ⟨_, List.getElem?_eq_getElem (by rw [← HN.out]; omega)⟩
      have HA := Lib.hid ha
      have HC := Lib.hid hc
      obtain ⟨a0, af⟩ := HI.out.at hyl.symm ha
      obtain ⟨q0, qf⟩ := HI.out.at hyl.symm hc
      have HX : Hid (xs.length - 1 - r = n - 1 - r) := by rw [HN.out]; rfl
      have HYL := Lib.hid hyl
      rw [HX.out] at q0 qf
      obtain ⟨q, hq⟩ : ∃ q, n - 1 - r = q := ⟨_, rfl⟩
      rw [hq] at q0 qf
      obtain rfl : z = (q : Int) := by omega
      have hgj : decide (r < q) = true := by simp; omega
      have i1 : (r : Int) < (n : Int) := by omega
      have i2 : (0 : Int) ≤ (r : Int) := by omega
      have i3 : (q : Int) < (n : Int) := by omega
      have i4 : (0 : Int) ≤ (q : Int) := by omega
      have hne : q ≠ r := by omega
      have w2 : IntKind.i64.wrap ((r : Int) + 1) = ((r + 1 : Nat) : Int) := by rw [IntWalk.i64_in _ (by omega)]; omega
      have w3 : IntKind.i64.wrap ((q : Int) - 1) = (q : Int) - 1 := by rw [IntWalk.i64_in _ (by omega)]
      have HZ := Lib.hid hz
      have HLT := Lib.hid hlt
      have HQ := Lib.hid hq
      clear ha hc hyl hlt hz hq
      have HA1 := Lib.hid a0
      have HA2 := Lib.hid af
      have HQ1 := Lib.hid q0
      have HQ2 := Lib.hid qf
      clear a0 af q0 qf
      go_wp2_with fail
      refine region_sq 13 (fun W => W = wr.drew) [(0, 1), (1, 1), (2, 1), (3, 1), (4, 1), (5, 1), (6, 1), (7, 2), (8, 1), (9, 1), (10, 1), (11, 2), (12, 1), (13, 3), (14, 1), (15, 3)] (by kernel_rfl) (by kernel_rfl) rfl (by intro c a d v w h; cases d <;> exact h) (by kernel_rfl) rfl ?_
      refine ⟨_, ?_, rfl, by rfl, ?_, ?_⟩
      rotate_left
      · intro W; go_simp; first | done | rfl
      conv => arg 6; simp only [Act.put, List.setIfInBounds_toArray, List.set_cons_zero, List.set_cons_succ]
      refine ⟨_, ?_, rfl, by rfl, ?_, ?_⟩
      rotate_left
      · intro W; go_simp; first | done | rfl
      conv => arg 6; simp only [Act.put, List.setIfInBounds_toArray, List.set_cons_zero, List.set_cons_succ]
      refine ⟨_, ?_, rfl, by rfl, ?_, ?_⟩
      rotate_left
      · intro W; go_simp; first | done | rfl
      conv => arg 6; simp only [Act.put, List.setIfInBounds_toArray, List.set_cons_zero, List.set_cons_succ]
      refine ⟨_, ?_, rfl, by rfl, ?_, ?_⟩
      rotate_left
      · intro W; go_simp; first | done | rfl
      conv => arg 6; simp only [Act.put, List.setIfInBounds_toArray, List.set_cons_zero, List.set_cons_succ]
      refine ⟨_, ?_, rfl, by rfl, ?_, ?_⟩
      rotate_left
      · intro W; go_simp; first | done | rfl
      conv => arg 6; simp only [Act.put, List.setIfInBounds_toArray, List.set_cons_zero, List.set_cons_succ]
      refine ⟨_, ?_, rfl, by rfl, ?_, ?_⟩
      rotate_left
      · intro W; go_simp; first | done | rfl
      conv => arg 6; simp only [Act.put, List.setIfInBounds_toArray, List.set_cons_zero, List.set_cons_succ]
      refine ⟨_, ?_, rfl, by rfl, ?_, ?_⟩
      rotate_left
      · intro W; go_simp; first | done | rfl
      conv => arg 6; simp only [Act.put, List.setIfInBounds_toArray, List.set_cons_zero, List.set_cons_succ]
      refine ⟨_, ?_, rfl, by rfl, ?_, ?_⟩
      rotate_left
      · rintro W rfl
        have d1 : wr.drew.cell? ⟨b, r, none⟩ = some (.int .u32 (a : Int)) := HA1.out
        have d2 : wr.drew.cell? ⟨b, q, none⟩ = some (.int .u32 (c : Int)) := HQ1.out
        go_simp; first | done | rfl
      conv => arg 6; simp only [Act.put, List.setIfInBounds_toArray, List.set_cons_zero, List.set_cons_succ]
      refine ⟨_, ?_, rfl, by rfl, ?_, ?_⟩
      rotate_left
      · intro W; go_simp; first | done | rfl
      conv => arg 6; simp only [Act.put, List.setIfInBounds_toArray, List.set_cons_zero, List.set_cons_succ]
      refine ⟨_, ?_, rfl, by rfl, ?_, ?_⟩
      rotate_left
      · intro W; go_simp; first | done | rfl
      conv => arg 6; simp only [Act.put, List.setIfInBounds_toArray, List.set_cons_zero, List.set_cons_succ]
      refine ⟨_, ?_, rfl, by rfl, ?_, ?_⟩
      rotate_left
      · intro W; go_simp; first | done | rfl
      conv => arg 6; simp only [Act.put, List.setIfInBounds_toArray, List.set_cons_zero, List.set_cons_succ]
      refine ⟨_, ?_, rfl, by rfl, ?_, ?_⟩
      rotate_left
      · rintro W rfl
        have d1 : wr.drew.cell? ⟨b, r, none⟩ = some (.int .u32 (a : Int)) := HA1.out
        have d2 : wr.drew.cell? ⟨b, q, none⟩ = some (.int .u32 (c : Int)) := HQ1.out
        go_simp; first | done | rfl
      conv => arg 6; simp only [Act.put, List.setIfInBounds_toArray, List.set_cons_zero, List.set_cons_succ]
      refine ⟨_, ?_, rfl, by rfl, ?_, ?_⟩
      rotate_left
      · intro W; go_simp; first | done | rfl
      conv => arg 6; simp only [Act.put, List.setIfInBounds_toArray, List.set_cons_zero, List.set_cons_succ]
      refine ⟨_, rfl, by rfl, fun K hK => ?_⟩
      have d1 : wr.drew.cell? ⟨b, r, none⟩ = some (.int .u32 (a : Int)) := HA1.out
      have d2 : wr.drew.frozen? ⟨b, r, none⟩ = false := HA2.out
      go_simp
      refine hK _ _ ?_
      clear hK K d1 d2
      conv => arg 6; simp only [Act.put, List.setIfInBounds_toArray, List.set_cons_zero, List.set_cons_succ]
      refine ⟨_, ?_, rfl, by rfl, ?_, ?_⟩
      rotate_left
      · intro W; go_simp; first | done | rfl
      conv => arg 6; simp only [Act.put, List.setIfInBounds_toArray, List.set_cons_zero, List.set_cons_succ]
      refine ⟨_, rfl, by rfl, fun K hK => ?_⟩
      have d1 : wr.cell? ⟨b, q, none⟩ = some (.int .u32 (c : Int)) := HQ1.out
      have d2 : wr.frozen? ⟨b, q, none⟩ = false := HQ2.out
      go_simp
      refine hK _ _ ?_
      clear hK K d1 d2
      conv => arg 6; simp only [Act.put, List.setIfInBounds_toArray, List.set_cons_zero, List.set_cons_succ]
      unfold wpSq
      go_wp2_with fail
      go_roundg (n - (r + 1))
      case measure => rw [HMM.out]; have := HLT.out; omega
      case rel =>
        refine ⟨r + 1, (ys.set r c).set q a, _, rfl, by have := HLT.out; omega, by go_num, rfl, by have := HZ.out; omega, ?_, ?_, ?_⟩
        · have := sw_next HS.out (by rw [← HN.out]; exact HLT.out) HA.out HC.out
          rw [HX.out, HQ.out] at this
          exact this
        · exact (HI.out.set HYL.out.symm r c).set (by rw [List.length_set]; exact HYL.out.symm) q a
        · have hg := (HG.out.trans (grown_set b r (.int .u32 (c : Int)))).trans (grown_set b q (.int .u32 (a : Int)))
          exact ⟨hg.os, hg.tape, hg.output, hg.size, hg.block⟩
    · have hgj : decide ((r : Int) < z) = false := by simp; omega
      have HE := Lib.hid (sw_end HS.out (by rw [← HN.out]; omega))
      go_wp2_with fail
      refine bodyPost_end (results_none rfl _ _ _) rfl ?_
      rw [← HE.out]
      exact ⟨rfl, HI.out, HG.out⟩
end Go.Proofs.Ytgciceogggldhaa
