/- The law's kids: contract. -/
import Derived.Test.YtjndfdhjipfijaaDoorRe6
namespace Go.Proofs.YtjndfdhjipfijaaDoor
open Go.RowKit Go.Maps
set_option maxRecDepth 100000

def kSet (k : K4) (j v : Nat) : K4 := match j with
  | 0 => (v, k.2.1, k.2.2.1, k.2.2.2)
  | 1 => (k.1, v, k.2.2.1, k.2.2.2)
  | 2 => (k.1, k.2.1, v, k.2.2.2)
  | _ => (k.1, k.2.1, k.2.2.1, v)
theorem kSet_at {k : K4} {j v q : Nat} (hj : j < 4) (hq : q < 4) : kAt (kSet k j v) q = if q = j then v else kAt k q := by
  match j, hj, q, hq with
  | 0, _, 0, _ => rfl
  | 0, _, 1, _ => rfl
  | 0, _, 2, _ => rfl
  | 0, _, 3, _ => rfl
  | 1, _, 0, _ => rfl
  | 1, _, 1, _ => rfl
  | 1, _, 2, _ => rfl
  | 1, _, 3, _ => rfl
  | 2, _, 0, _ => rfl
  | 2, _, 1, _ => rfl
  | 2, _, 2, _ => rfl
  | 2, _, 3, _ => rfl
  | 3, _, 0, _ => rfl
  | 3, _, 1, _ => rfl
  | 3, _, 2, _ => rfl
  | 3, _, 3, _ => rfl
theorem inK_set {k : K4} {j v : Nat} (hj : j < 4) (h : InK k) (hv : v < 4294967296) : InK (kSet k j v) := by
  obtain ⟨h0, h1, h2, h3⟩ := h
  match j, hj with
  | 0, _ => exact ⟨hv, h1, h2, h3⟩
  | 1, _ => exact ⟨h0, hv, h2, h3⟩
  | 2, _ => exact ⟨h0, h1, hv, h3⟩
  | 3, _ => exact ⟨h0, h1, h2, hv⟩
theorem RKAt.set {w : World} {b : Nat} {k : K4} (h : RKAt w b k) {j : Nat} (hj : j < 4) (v : Nat) : RKAt (w.setCell ⟨b, j, none⟩ (.int .u32 (v : Int))) b (kSet k j v) := by
  unfold RKAt at h ⊢
  simp only [World.setCell, Array.getElem?_modify, h]
  match j, hj with
  | 0, _ => simp [kSet]
  | 1, _ => simp [kSet]
  | 2, _ => simp [kSet]
  | 3, _ => simp [kSet]
theorem RKAt.frz {w : World} {b : Nat} {k : K4} (h : RKAt w b k) (j : Nat) : w.frozen? ⟨b, j, none⟩ = false := Lib.frozen_of_heap h j
/-- The state of kids. -/
structure Ks (w : World) (mb g cap most : Nat) (N : List Nd) (kd a0 a1 a2 a3 : Nat) (na : Int) (k : K4) (W : World) : Prop where
  st : RSt W mb g cap most N
  act : W.heap[w.heap.size]? = some (.cells #[.int .u8 (kd : Int), .int .u8 (a0 : Int), .int .u8 (a1 : Int), .int .u8 (a2 : Int), .int .u8 (a3 : Int), .int .i64 na] 34 (0, 0))
  res : RKAt W (w.heap.size + 1) (0, 0, 0, 0)
  ks : RKAt W (w.heap.size + 1 + 1) k
  bel : Below w.heap.size w W
  lt : mb < w.heap.size ∧ g < w.heap.size
theorem Ks.put {w W : World} {mb g cap most : Nat} {N : List Nd} {kd a0 a1 a2 a3 : Nat} {na : Int} {k : K4} (h : Ks w mb g cap most N kd a0 a1 a2 a3 na k W) {j : Nat} (hj : j < 4) (v : Nat) : Ks w mb g cap most N kd a0 a1 a2 a3 na (kSet k j v) (W.setCell ⟨w.heap.size + 1 + 1, j, none⟩ (.int .u32 (v : Int))) := by
  obtain ⟨l1, l2⟩ := h.lt
  refine ⟨h.st.of_blocks (Below.heap_setCell _ _ _ _ (by simp; omega)) (Below.heap_setCell _ _ _ _ (by simp; omega)), ?_, ?_, h.ks.set hj v, h.bel.setCell (p := ⟨w.heap.size + 1 + 1, j, none⟩) (by simp; omega) _, h.lt⟩
  · rw [Below.heap_setCell _ _ _ _ (by simp; omega)]; exact h.act
  · unfold RKAt; rw [Below.heap_setCell _ _ _ _ (by simp)]; exact h.res
theorem Ks.drewN {w W : World} {mb g cap most : Nat} {N : List Nd} {kd a0 a1 a2 a3 : Nat} {na : Int} {k : K4} (h : Ks w mb g cap most N kd a0 a1 a2 a3 na k W) (q : Nat) : Ks w mb g cap most N kd a0 a1 a2 a3 na k (W.drewN q) := ⟨h.st.drewN q, h.act, h.res, h.ks, ⟨h.bel.os, h.bel.tape, h.bel.output, h.bel.size, h.bel.block⟩, h.lt⟩
def aAt (a0 a1 a2 a3 : Nat) : Nat → Nat
  | 0 => a0
  | 1 => a1
  | 2 => a2
  | _ => a3
theorem aix (a0 a1 a2 a3 : Nat) {j : Nat} (hj : j < 4) (w : World) : (Instr.index 32 (.agg #[.int .u8 (a0 : Int), .int .u8 (a1 : Int), .int .u8 (a2 : Int), .int .u8 (a3 : Int)]) (.int .i64 (j : Int))).run Tryd.prog w = .ok (.int .u8 (aAt a0 a1 a2 a3 j : Int)) w := by
  rcases (by omega : j = 0 ∨ j = 1 ∨ j = 2 ∨ j = 3) with rfl | rfl | rfl | rfl <;> kernel_rfl
theorem ks_start {w : World} {mb g cap most : Nat} {N : List Nd} (h : RSt w mb g cap most N) (kd a0 a1 a2 a3 : Nat) (na : Int) : Ks w mb g cap most N kd a0 a1 a2 a3 na (0, 0, 0, 0) (((w.alloc (.cells #[.int .u8 (kd : Int), .int .u8 (a0 : Int), .int .u8 (a1 : Int), .int .u8 (a2 : Int), .int .u8 (a3 : Int), .int .i64 na] 34)).alloc (.cells #[.int .u32 0, .int .u32 0, .int .u32 0, .int .u32 0] 48)).alloc (.cells #[.int .u32 0, .int .u32 0, .int .u32 0, .int .u32 0] 48)) := by
  generalize ho : (.cells #[.int .u8 (kd : Int), .int .u8 (a0 : Int), .int .u8 (a1 : Int), .int .u8 (a2 : Int), .int .u8 (a3 : Int), .int .i64 na] 34 : Obj) = o1
  have e1 : (w.alloc o1).heap.size = w.heap.size + 1 := by simp
  have e2 : ((w.alloc o1).alloc (.cells #[.int .u32 0, .int .u32 0, .int .u32 0, .int .u32 0] 48)).heap.size = w.heap.size + 1 + 1 := by simp
  have b1 := bel1 w o1
  have b2 := bel1 (w.alloc o1) (.cells #[.int .u32 0, .int .u32 0, .int .u32 0, .int .u32 0] 48)
  have b3 := bel1 ((w.alloc o1).alloc (.cells #[.int .u32 0, .int .u32 0, .int .u32 0, .int .u32 0] 48)) (.cells #[.int .u32 0, .int .u32 0, .int .u32 0, .int .u32 0] 48)
  have hb := (b1.trans (b2.mono (by omega))).trans (b3.mono (by omega))
  have r1 := rk_new (w.alloc o1) (0, 0, 0, 0)
  have r2 := rk_new ((w.alloc o1).alloc (.cells #[.int .u32 0, .int .u32 0, .int .u32 0, .int .u32 0] 48)) (0, 0, 0, 0)
  rw [e1] at r1
  rw [e2] at r2
  refine ⟨h.later hb, ?_, r1.later b3, r2, hb, h.lt⟩
  rw [b3.block w.heap.size (by omega), b2.block w.heap.size (by omega), heap_alloc_new, ← ho]

/-- How far it is on to y from x, around L. -/
def far (L x y : Nat) : Nat := if x ≤ y then y - x else y + L - x
theorem far_next {L x y : Nat} (hx : x < L) (hy : y < L) (hne : x ≠ y) : far L ((x + 1) % L) y < far L x y := by
  unfold far
  rcases Nat.lt_or_ge (x + 1) L with h | h
  · rw [Nat.mod_eq_of_lt h]
    split <;> split <;> omega
  · obtain rfl : L = x + 1 := by omega
    rw [Nat.mod_self]
    split <;> split <;> omega

set_option maxHeartbeats 4000000 in
theorem kids_any {w : World} {mb g cap most : Nat} {N : List Nd} (h : RSt w mb g cap most N) (kd a0 a1 a2 a3 : Nat) (na : Int) (h0 : kd < 256) (h1 : a0 < 256) (h2 : a1 < 256) (h3 : a2 < 256) (h4 : a3 < 256) :
    Calls Tryd.prog 11 #[.pointer (some ⟨mb, 0, none⟩), .agg #[.int .u8 (kd : Int), .int .u8 (a0 : Int), .int .u8 (a1 : Int), .int .u8 (a2 : Int), .int .u8 (a3 : Int), .int .i64 na]] w fun e w' => ∃ k : K4, InK k ∧ e = .returned (.agg #[.int .u32 (k.1 : Int), .int .u32 (k.2.1 : Int), .int .u32 (k.2.2.1 : Int), .int .u32 (k.2.2.2 : Int)]) ∧ Below w.heap.size w w' := by
  have HS := Lib.hid (ks_start h kd a0 a1 a2 a3 na)
  have HA : Hid (∀ j, j < 4 → aAt a0 a1 a2 a3 j < 256) := fun j hj => by
    match j, hj with
    | 0, _ => exact h1
    | 1, _ => exact h2
    | 2, _ => exact h3
    | 3, _ => exact h4
  clear h
  go_enter Tryd.func11, Tryd.ntmps11
  go_wp2_with fail
  generalize ((w.alloc (.cells #[.int .u8 (kd : Int), .int .u8 (a0 : Int), .int .u8 (a1 : Int), .int .u8 (a2 : Int), .int .u8 (a3 : Int), .int .i64 na] 34)).alloc (.cells #[.int .u32 0, .int .u32 0, .int .u32 0, .int .u32 0] 48)).alloc (.cells #[.int .u32 0, .int .u32 0, .int .u32 0, .int .u32 0] 48) = W0 at *
  go_loopg [6, 7, 10] 4 (fun m iv nv i wr => ∃ (j : Nat) (k : K4), m = 4 - j ∧ j ≤ 4 ∧ i = .int .i64 (j : Int) ∧ Ks w mb g cap most N kd a0 a1 a2 a3 na k wr ∧ InK k ∧ (kd % 4 = 3 → ∀ q, q < j → kAt k q < N.length))
  case atStart => exact ⟨0, (0, 0, 0, 0), rfl, by omega, rfl, HS.out, ⟨by decide, by decide, by decide, by decide⟩, fun _ q hq => by omega⟩
  case round =>
    obtain ⟨j, k, hm, hj, rfl, hks, hik, hlt4⟩ := hrel
    have HM := Lib.hid hm
    have HK := Lib.hid hks
    have HIK := Lib.hid hik
    have HL4 := Lib.hid hlt4
    clear hm hks hik hlt4 HS
    by_cases hlt : j < 4
    · have hgj : decide ((j : Int) < 4) = true := by simp; omega
      have hix := aix a0 a1 a2 a3 hlt
      have ha := HA.out j hlt
      generalize aAt a0 a1 a2 a3 j = a at *
      have hwa : IntKind.u32.wrap (a : Int) = (a : Int) := IntWalk.u32_in _ (by omega)
      have i0 : (0 : Int) ≤ (j : Int) := by omega
      have i1 : (j : Int) < 4 := by omega
      have c0 : wr.cell? ⟨w.heap.size, 0, none⟩ = some (.int .u8 (kd : Int)) := by rw [Lib.cell_of_heap HK.out.act]; rfl
      have u1 := HK.out.ks.at hlt
      have u2 := HK.out.ks.frz j
      by_cases h3 : kd % 4 = 3
      · have hgk : ((kd : Int) % 4 == 3) = true := by rw [beq_iff_eq]; omega
        go_upto_if 21 with fail
        have HK1 := Lib.hid (HK.out.put hlt a)
        have HI1 := Lib.hid (inK_set hlt HIK.out (show a < 4294967296 by omega))
        have HL1 : Hid (∀ q, q < j → kAt (kSet k j a) q < N.length) := fun q hq => by
          rw [kSet_at hlt (by omega), if_neg (by omega)]; exact HL4.out h3 q hq
        clear HK HIK HL4 c0 u1 u2 hix hwa
        generalize wr.setCell ⟨w.heap.size + 1 + 1, j, none⟩ (.int .u32 (a : Int)) = W1 at *
        generalize kSet k j a = k1 at *
        obtain ⟨c0, c1, c2⟩ := HK1.out.st.cells
        have u1 := HK1.out.ks.at hlt
        have u2 := HK1.out.ks.frz j
        have hn0 : ¬ ((N.length : Int) = 0) := by have := HK1.out.st.wf.two; omega
        have hn1 : ((N.length : Int) == 0) = false := by rw [beq_eq_false_iff_ne]; exact hn0
        have hrm : IntKind.u32.wrap ((a : Int) % (N.length : Int)) = ((a % N.length : Nat) : Int) := by
          have h5 := HK1.out.st.room
          have h6 := HK1.out.st.most_le
          have h7 := HK1.out.st.wf.two
          have : a % N.length < N.length := Nat.mod_lt _ (by omega)
          rw [← Int.natCast_emod, IntWalk.u32_in _ (by omega)]
        go_wp2_with fail
        rw [← Int.natCast_emod]
        have hmod : a % N.length < N.length := Nat.mod_lt _ (by have := HK1.out.st.wf.two; omega)
        have HK2 := Lib.hid (HK1.out.put hlt (a % N.length))
        have HI2 := Lib.hid (inK_set hlt HI1.out (show a % N.length < 4294967296 by have h5 := HK1.out.st.room; have h6 := HK1.out.st.most_le; omega))
        have HL2 : Hid (∀ q, q ≤ j → kAt (kSet k1 j (a % N.length)) q < N.length) := fun q hq => by
          rw [kSet_at hlt (by omega)]
          split
          · exact hmod
          · exact HL1.out q (by omega)
        clear HK1 HI1 HL1 c0 c1 c2 u1 u2 hn0 hn1 hrm hmod
        generalize W1.setCell ⟨w.heap.size + 1 + 1, j, none⟩ (.int .u32 ((a % N.length : Nat) : Int)) = W2 at *
        generalize kSet k1 j (a % N.length) = k2 at *
        go_loopg [] (far N.length (kAt k2 j) (kAt k2 0)) (fun m wr => ∃ k : K4, m = far N.length (kAt k j) (kAt k 0) ∧ Ks w mb g cap most N kd a0 a1 a2 a3 na k wr ∧ InK k ∧ ∀ q, q ≤ j → kAt k q < N.length)
        case atStart => exact ⟨k2, rfl, HK2.out, HI2.out, HL2.out⟩
        case round =>
          obtain ⟨k, hm, hks, hik, hkl⟩ := hrel
          have HM2 := Lib.hid hm
          have HK := Lib.hid hks
          have HIK := Lib.hid hik
          have HKL := Lib.hid hkl
          clear hm hks hik hkl HK2 HI2 HL2
          obtain ⟨c0, c1, c2⟩ := HK.out.st.cells
          by_cases hj0 : j = 0
          · have hg0 : decide (0 < j) = false := by simp; omega
            have HJ0 := Lib.hid hj0
            clear hj0
            go_wp2_with fail
            go_quiet (fail)
            go_wp2_with fail
            go_roundg (4 - (j + 1))
            case measure => rw [HM.out]; omega
            case rel => exact ⟨j + 1, k, rfl, hlt, by go_num, HK.out.drewN _, HIK.out, fun _ q hq => HKL.out q (by omega)⟩
          · have hg0 : decide (0 < j) = true := by simp; omega
            have hxl := HKL.out j (Nat.le_refl _)
            have hyl := HKL.out 0 (by omega)
            have s4 := (HK.out.st.sq (List.getElem?_eq_getElem hxl)).2.2.2.2.1
            have s5 := (HK.out.st.sq (List.getElem?_eq_getElem hyl)).2.2.2.2.1
            have u1 := HK.out.ks.at hlt
            have u0 := HK.out.ks.at (j := 0) (by omega)
            have i2 : ((kAt k j : Nat) : Int) < (N.length : Int) := by omega
            have i3 : (0 : Int) ≤ ((kAt k j : Nat) : Int) := by omega
            have i4 : ((kAt k 0 : Nat) : Int) < (N.length : Int) := by omega
            have i5 : (0 : Int) ≤ ((kAt k 0 : Nat) : Int) := by omega
            by_cases hlv : N[kAt k j].lv = N[kAt k 0].lv
            · have hq : (N[kAt k j].lv != N[kAt k 0].lv) = false := by simp [hlv]
              have hq2 : ((N[kAt k j].lv : Int) != (N[kAt k 0].lv : Int)) = false := by simp [hlv]
              clear hlv
              generalize N[kAt k j].lv = l1 at *
              generalize N[kAt k 0].lv = l0 at *
              generalize kAt k j = x at *
              generalize kAt k 0 = y at *
              go_wp2_with fail
              go_quiet (fail)
              go_wp2_with fail
              go_roundg (4 - (j + 1))
              case measure => rw [HM.out]; omega
              case rel => exact ⟨j + 1, k, rfl, hlt, by go_num, HK.out.drewN _, HIK.out, fun _ q hq => HKL.out q (by omega)⟩
            · have hq : (N[kAt k j].lv != N[kAt k 0].lv) = true := by simpa using hlv
              have hq2 : ((N[kAt k j].lv : Int) != (N[kAt k 0].lv : Int)) = true := by simp only [bne_iff_ne, ne_eq]; omega
              have HNE : Hid (kAt k j ≠ kAt k 0) := fun e => hlv (by simp only [e])
              clear hlv
              generalize N[kAt k j].lv = l1 at *
              generalize N[kAt k 0].lv = l0 at *
              have HXL := Lib.hid hxl
              have HYL := Lib.hid hyl
              clear hxl hyl
              generalize hx : kAt k j = x at *
              generalize hy : kAt k 0 = y at *
              have HXX := Lib.hid hx
              have HYY := Lib.hid hy
              clear hx hy
              go_wp2_with fail
              go_quiet (fail)
              have HKQ := Lib.hid (HK.out.drewN nq)
              clear HK c0 c1 c2 s4 s5 u1 u0 i4 i5 hq hq2 hg0
              generalize wr.drewN nq = wq at *
              have HC0 := Lib.hid HKQ.out.st.cells.1
              have HU1 : Hid (wq.cell? ⟨w.heap.size + 1 + 1, j, none⟩ = some (.int .u32 (x : Int))) := by show _ = _; rw [← HXX.out]; exact HKQ.out.ks.at hlt
              have HU2 := Lib.hid (HKQ.out.ks.frz j)
              have hb1 := HKQ.out.st.room
              have hb2 := HKQ.out.st.most_le
              have hb3 := HKQ.out.st.wf.two
              have hb4 := HXL.out
              have w1 : IntKind.u32.wrap ((x : Int) + 1) = (x : Int) + 1 := IntWalk.u32_in _ (by omega)
              have w2 : IntKind.u32.wrap (N.length : Int) = (N.length : Int) := IntWalk.u32_in _ (by omega)
              have n1 : ((N.length : Int) == 0) = false := by rw [beq_eq_false_iff_ne]; omega
              have n0 : ¬ ((N.length : Int) = 0) := by omega
              obtain ⟨x', hx'⟩ : ∃ x', (x + 1) % N.length = x' := ⟨_, rfl⟩
              have w5 : ((x : Int) + 1).tmod (N.length : Int) = (x' : Int) := by
                rw [Int.tmod_eq_emod_of_nonneg (by omega), ← hx']; push_cast; rfl
              have HX' := Lib.hid hx'
              clear hx'
              have n2 : ¬ (N = []) := fun e => by rw [e] at hb3; simp at hb3
              have i0 : (0 : Int) ≤ (j : Int) := by omega
              have i1 : (j : Int) < 4 := by omega
              go_wp2_with fail
              refine region_sq 13 (fun W => W = wq.drew) [(0, 1), (1, 1), (2, 1), (5, 1), (6, 1), (7, 1), (3, 2), (8, 2), (4, 1), (9, 1), (10, 1), (11, 1), (12, 1), (13, 3)] (by kernel_rfl) (by kernel_rfl) rfl (by intro c a d v w h; cases d <;> exact h) (by kernel_rfl) rfl ?_
              refine ⟨_, ?_, rfl, by rfl, ?_, ?_⟩
              rotate_left
              · intro W; go_simp; first | done | rfl
              conv => arg 6; simp only [Act.put, List.setIfInBounds_toArray, List.set_cons_zero, List.set_cons_succ]
              refine ⟨_, ?_, rfl, by rfl, ?_, ?_⟩
              rotate_left
              · intro W; go_simp; first | done | rfl
              conv => arg 6; simp only [Act.put, List.setIfInBounds_toArray, List.set_cons_zero, List.set_cons_succ]
              refine ⟨_, ?_, rfl, by rfl, ?_, ?_⟩
              rotate_left
              · intro W; go_simp; first | done | rfl
              conv => arg 6; simp only [Act.put, List.setIfInBounds_toArray, List.set_cons_zero, List.set_cons_succ]
              refine ⟨_, ?_, rfl, by rfl, ?_, ?_⟩
              rotate_left
              · intro W; go_simp; first | done | rfl
              conv => arg 6; simp only [Act.put, List.setIfInBounds_toArray, List.set_cons_zero, List.set_cons_succ]
              refine ⟨_, ?_, rfl, by rfl, ?_, ?_⟩
              rotate_left
              · intro W; go_simp; first | done | rfl
              conv => arg 6; simp only [Act.put, List.setIfInBounds_toArray, List.set_cons_zero, List.set_cons_succ]
              refine ⟨_, ?_, rfl, by rfl, ?_, ?_⟩
              rotate_left
              · intro W; go_simp; first | done | rfl
              conv => arg 6; simp only [Act.put, List.setIfInBounds_toArray, List.set_cons_zero, List.set_cons_succ]
              refine ⟨_, ?_, rfl, by rfl, ?_, ?_⟩
              rotate_left
              · rintro W rfl
                have d0 : wq.drew.cell? ⟨mb, 0, none⟩ = some (.slice (some ⟨g, 0, none⟩) N.length cap) := HC0.out
                have d1 : wq.drew.cell? ⟨w.heap.size + 1 + 1, j, none⟩ = some (.int .u32 (x : Int)) := HU1.out
                go_simp; first | done | rfl
              conv => arg 6; simp only [Act.put, List.setIfInBounds_toArray, List.set_cons_zero, List.set_cons_succ]
              refine ⟨_, ?_, rfl, by rfl, ?_, ?_⟩
              rotate_left
              · rintro W rfl
                have d0 : wq.drew.cell? ⟨mb, 0, none⟩ = some (.slice (some ⟨g, 0, none⟩) N.length cap) := HC0.out
                have d1 : wq.drew.cell? ⟨w.heap.size + 1 + 1, j, none⟩ = some (.int .u32 (x : Int)) := HU1.out
                go_simp; first | done | rfl
              conv => arg 6; simp only [Act.put, List.setIfInBounds_toArray, List.set_cons_zero, List.set_cons_succ]
              refine ⟨_, ?_, rfl, by rfl, ?_, ?_⟩
              rotate_left
              · intro W; go_simp; first | done | rfl
              conv => arg 6; simp only [Act.put, List.setIfInBounds_toArray, List.set_cons_zero, List.set_cons_succ]
              refine ⟨_, ?_, rfl, by rfl, ?_, ?_⟩
              rotate_left
              · intro W; go_simp; first | done | rfl
              conv => arg 6; simp only [Act.put, List.setIfInBounds_toArray, List.set_cons_zero, List.set_cons_succ]
              refine ⟨_, ?_, rfl, by rfl, ?_, ?_⟩
              rotate_left
              · intro W; go_simp; first | done | rfl
              conv => arg 6; simp only [Act.put, List.setIfInBounds_toArray, List.set_cons_zero, List.set_cons_succ]
              refine ⟨_, ?_, rfl, by rfl, ?_, ?_⟩
              rotate_left
              · intro W; go_simp; first | done | rfl
              conv => arg 6; simp only [Act.put, List.setIfInBounds_toArray, List.set_cons_zero, List.set_cons_succ]
              refine ⟨_, ?_, rfl, by rfl, ?_, ?_⟩
              rotate_left
              · intro W; go_simp; first | done | rfl
              conv => arg 6; simp only [Act.put, List.setIfInBounds_toArray, List.set_cons_zero, List.set_cons_succ]
              refine ⟨_, rfl, by rfl, fun K hK => ?_⟩
              have d1 : wq.drew.cell? ⟨w.heap.size + 1 + 1, j, none⟩ = some (.int .u32 (x : Int)) := HU1.out
              have d2 : wq.drew.frozen? ⟨w.heap.size + 1 + 1, j, none⟩ = false := HU2.out
              go_simp
              refine hK _ _ ?_
              clear hK K d1 d2
              conv => arg 6; simp only [Act.put, List.setIfInBounds_toArray, List.set_cons_zero, List.set_cons_succ]
              unfold wpSq
              go_wp2_with fail
              go_roundg (far N.length x' y)
              case measure => rw [HM2.out, ← HX'.out]; exact far_next HXL.out HYL.out HNE.out
              case rel =>
                have hmod : x' < N.length := by rw [← HX'.out]; exact Nat.mod_lt _ (by omega)
                refine ⟨kSet k j x', ?_, Ks.put (W := wq.drew) (HKQ.out.drewN 1) hlt _, inK_set hlt HIK.out (by omega), fun q hq => ?_⟩
                · rw [kSet_at hlt hlt, if_pos rfl, kSet_at hlt (by omega), if_neg (by omega), HYY.out]
                · rw [kSet_at hlt (by omega)]
                  split
                  · exact hmod
                  · exact HKL.out q hq
      · have hgk : ((kd : Int) % 4 == 3) = false := by rw [beq_eq_false_iff_ne]; omega
        go_wp2_with fail
        go_roundg (4 - (j + 1))
        case measure => rw [HM.out]; omega
        case rel => exact ⟨j + 1, kSet k j a, rfl, hlt, by go_num, HK.out.put hlt a, inK_set hlt HIK.out (by omega), fun e => absurd e h3⟩
    · obtain rfl : j = 4 := by omega
      have hgj : decide (((4 : Nat) : Int) < 4) = false := by decide
      obtain ⟨v0, v1, v2, v3⟩ := HK.out.ks.cells
      obtain ⟨r0, r1, r2, r3⟩ := HK.out.res.cells
      have f0 := HK.out.res.frz 0
      have f1 := HK.out.res.frz 1
      have f2 := HK.out.res.frz 2
      have f3 := HK.out.res.frz 3
      go_wp2_with fail
      have HRES : Hid (RKAt ((((wr.setCell ⟨w.heap.size + 1, 0, none⟩ (.int .u32 (k.1 : Int))).setCell ⟨w.heap.size + 1, 1, none⟩ (.int .u32 (k.2.1 : Int))).setCell ⟨w.heap.size + 1, 2, none⟩ (.int .u32 (k.2.2.1 : Int))).setCell ⟨w.heap.size + 1, 3, none⟩ (.int .u32 (k.2.2.2 : Int))) (w.heap.size + 1) k) := by
        have h := HK.out.res
        show RKAt _ _ _
        unfold RKAt at h ⊢
        simp only [World.setCell, Array.getElem?_modify, h]
        simp
      have HBL : Hid (Below w.heap.size w ((((wr.setCell ⟨w.heap.size + 1, 0, none⟩ (.int .u32 (k.1 : Int))).setCell ⟨w.heap.size + 1, 1, none⟩ (.int .u32 (k.2.1 : Int))).setCell ⟨w.heap.size + 1, 2, none⟩ (.int .u32 (k.2.2.1 : Int))).setCell ⟨w.heap.size + 1, 3, none⟩ (.int .u32 (k.2.2.2 : Int)))) :=
        (((HK.out.bel.setCell (p := ⟨w.heap.size + 1, 0, none⟩) (by simp) _).setCell (p := ⟨w.heap.size + 1, 1, none⟩) (by simp) _).setCell (p := ⟨w.heap.size + 1, 2, none⟩) (by simp) _).setCell (p := ⟨w.heap.size + 1, 3, none⟩) (by simp) _
      generalize (((wr.setCell ⟨w.heap.size + 1, 0, none⟩ (.int .u32 (k.1 : Int))).setCell ⟨w.heap.size + 1, 1, none⟩ (.int .u32 (k.2.1 : Int))).setCell ⟨w.heap.size + 1, 2, none⟩ (.int .u32 (k.2.2.1 : Int))).setCell ⟨w.heap.size + 1, 3, none⟩ (.int .u32 (k.2.2.2 : Int)) = W9 at *
      obtain ⟨q0, q1, q2, q3⟩ := HRES.out.cells
      refine bodyPost_ret (v := _) (by simp [results, Tryd.results11, go_sem, q0, q1, q2, q3]; rfl) rfl ?_
      exact ⟨k.1, k.2.1, k.2.2.1, k.2.2.2, HIK.out, rfl, HBL.out⟩
end Go.Proofs.YtjndfdhjipfijaaDoor
