/- The law's build (a square of level 3 of 64 cells): contract. -/
import Derived.Test.YtjndfdhjipfijaaLv6
import Derived.Test.YtjndfdhjipfijaaS6b
import Derived.Deep.DeepCutAuto
import Derived.Deep.CutBlock
import Derived.Deep.CutRange
import Derived.Laws.MakeOwn
import Derived.BigQuiet
import Derived.Laws.BitsAllLaws
namespace Go.Proofs.Ytjndfdhjipfijaa
open Go.RowKit Go.Maps
set_option maxRecDepth 100000

/-- A row of squares' numbers of the call's own. -/
def IdRow (w : World) (B : Nat) (v : Value) (xs : List Nat) : Prop := w.ownsRow B 33 1 v xs.length (xs.map fun (x : Nat) => Value.int .u32 (x : Int))
theorem IdRow.blk {w : World} {B : Nat} {v : Value} {xs : List Nat} (h : IdRow w B v xs) {b : Nat} (hb : v.ownBlock = some b) : B ≤ b ∧ b < w.heap.size ∧ ∃ cur, w.heap[b]? = some (.cells cur 33 (0, 0)) := by
  rcases h.2 with ⟨hv, _⟩ | ⟨g', cp, cur, hv, h0, hg, _⟩
  · rw [hv] at hb; simp [Value.ownBlock] at hb
  · rw [hv] at hb
    simp [Value.ownBlock] at hb
    subst hb
    exact ⟨h0, (Array.getElem?_eq_some_iff.1 hg).1, cur, hg⟩
theorem IdRow.apart {w : World} {B : Nat} {v : Value} {xs : List Nat} (h : IdRow w B v xs) {sb g tb cap most : Nat} {N : List Nd} (hS : St w sb g tb cap most N) {b : Nat} (hb : v.ownBlock = some b) : b ∉ [sb, g, tb] := by
  obtain ⟨_, _, cur, hc⟩ := h.blk hb
  intro hm
  simp only [List.mem_cons, List.not_mem_nil, or_false] at hm
  rcases hm with e | e | e
  · rw [e, hS.blk] at hc; cases hc
  · rcases hS.row.2 with ⟨hv, _⟩ | ⟨g2, cp, cur2, hv, _, hgg, _⟩
    · cases hv
    · cases hv; rw [e, hgg] at hc; cases hc
  · obtain ⟨D, ⟨es, cl, t1, _⟩, _⟩ := hS.tab
    rw [e, t1] at hc; cases hc
theorem IdRow.of_block {w w' : World} {B : Nat} {v : Value} {xs : List Nat} (h : IdRow w B v xs) (hb : ∀ b, v.ownBlock = some b → w'.heap[b]? = w.heap[b]?) : IdRow w' B v xs := by
  refine ⟨h.1, ?_⟩
  rcases h.2 with hn | ⟨g', cp, cur, hv, h0, hg, hr⟩
  · exact Or.inl hn
  · exact Or.inr ⟨g', cp, cur, hv, h0, by rw [hb g' (by rw [hv]; rfl)]; exact hg, hr⟩
theorem IdRow.frm {w w' : World} {B : Nat} {v : Value} {xs : List Nat} (h : IdRow w B v xs) {sb g tb cap most : Nat} {N : List Nd} (hS : St w sb g tb cap most N) (hf : Frm [sb, g, tb] w w') : IdRow w' B v xs :=
  h.of_block fun b hb => hf.block b (h.blk hb).2.1 (h.apart hS hb)
theorem IdRow.later {w w' : World} {B : Nat} {v : Value} {xs : List Nat} (h : IdRow w B v xs) (hb : Below w.heap.size w w') : IdRow w' B v xs :=
  h.of_block fun b hb' => hb.block b (h.blk hb').2.1
/-- Where all but one block, which is none of a store's, is as it was, the store is as it was. -/
theorem St.grown {w w' : World} {sb g tb cap most : Nat} {N : List Nd} (h : St w sb g tb cap most N) {r : Option Nat} (hg : w.grownBy w' r) (hr : ∀ b, r = some b → b ∉ [sb, g, tb]) : St w' sb g tb cap most N := by
  obtain ⟨l1, l2, l3⟩ := h.lt
  have n1 : some sb ≠ r := fun e => hr sb e.symm (by simp)
  have n2 : some g ≠ r := fun e => hr g e.symm (by simp)
  have n3 : some tb ≠ r := fun e => hr tb e.symm (by simp)
  refine ⟨by rw [hg.block sb l1 n1]; exact h.blk, ⟨h.row.1, ?_⟩, h.tab.blk (hg.block tb l3 n3), h.wf, h.room, h.most_le, h.ne⟩
  rcases h.row.2 with ⟨hv, _⟩ | ⟨g', cp, cur, hv, h0, hgg, hr⟩
  · cases hv
  · cases hv; exact Or.inr ⟨g, cap, cur, rfl, h0, by rw [hg.block g l2 n2]; exact hgg, hr⟩
theorem IdRow.at {w : World} {B b : Nat} {cap : Nat} {xs : List Nat} (h : IdRow w B (.slice (some ⟨b, 0, none⟩) xs.length cap) xs) {i x : Nat} (hx : xs[i]? = some x) : w.cell? ⟨b, i, none⟩ = some (.int .u32 (x : Int)) := by
  have hi : i < xs.length := (List.getElem?_eq_some_iff.1 hx).1
  have := World.ownsRow.cellAt h i (by omega)
  rw [this, List.getElem?_map, hx]; rfl
theorem IdRow.slice {w : World} {B : Nat} {v : Value} {xs : List Nat} (h : IdRow w B v xs) (hl : 0 < xs.length) : ∃ b cap, v = .slice (some ⟨b, 0, none⟩) xs.length cap := by
  obtain ⟨b, cap, hv, _⟩ := World.ownsRow.form h hl
  exact ⟨b, cap, hv⟩

theorem Try.infoID : (Try.prog.info? 33).map (fun i => (i.zero, i.size, i.bytes)) = some (some (.int .u32 0), 1, 4) := by kernel_rfl
theorem infoID : ∃ i, Try.prog.info? 33 = some i ∧ i.zero = some (.int .u32 0) ∧ i.size = 1 ∧ i.bytes = 4 := by
  obtain ⟨i, hi, h⟩ := Option.map_eq_some_iff.1 Try.infoID
  simp only [Prod.mk.injEq] at h
  exact ⟨i, hi, h.1, h.2.1, h.2.2⟩
/-- These numbers in a block, whole. -/
def IdsAt (w : World) (b : Nat) (xs : List Nat) : Prop := w.heap[b]? = some (.cells (xs.map fun (x : Nat) => Value.int .u32 (x : Int)).toArray 33 (0, 0))
theorem made64 : ∃ MC : Array Value, MC = ((List.replicate 64 0).map fun (x : Nat) => Value.int .u32 (x : Int)).toArray ∧ ∀ W : World, (Instr.makeSlice 62 (.int .i64 64) (.int .i64 64)).run Try.prog W = .ok (.slice (some ⟨W.heap.size, 0, none⟩) 64 64) (W.alloc (.cells MC 33)) := by
  obtain ⟨i0, hi, hz0, hz1, hz2⟩ := infoID
  refine ⟨madeCells (Value.int .u32 0).cells 64, ?_, fun W => ?_⟩
  · apply Array.toList_inj.1
    rw [show (Value.int .u32 0).cells = #[Value.int .u32 0] from rfl, toList_madeCells_one]
    simp
  · have := run_make (P := Try.prog) W 62 33 i0 (.int .u32 0) Try.underlying62 hi hz0 .i64 .i64 64 64 (by omega) (by omega) (by rw [hz2]; omega) (by omega)
    rw [hz1, Nat.mul_one] at this
    exact this
theorem IdsAt.lt {w : World} {b : Nat} {xs : List Nat} (h : IdsAt w b xs) : b < w.heap.size := (Array.getElem?_eq_some_iff.1 h).1
theorem IdsAt.row {w : World} {b B : Nat} {xs : List Nat} (h : IdsAt w b xs) (hB : B ≤ b) (hl : xs.length ≤ 1000) : IdRow w B (.slice (some ⟨b, 0, none⟩) xs.length xs.length) xs :=
  ⟨by simp, Or.inr ⟨b, xs.length, _, rfl, hB, h, Nat.le_refl _, by unfold maxLen; omega, by simp, by simp [List.take_of_length_le]⟩⟩
theorem IdsAt.set {w : World} {b : Nat} {xs : List Nat} (h : IdsAt w b xs) (j : Nat) (y : Nat) : IdsAt (w.setCell ⟨b, j, none⟩ (.int .u32 (y : Int))) b (xs.set j y) := by
  unfold IdsAt at h ⊢
  simp only [World.setCell, Array.getElem?_modify, h]
  simp [List.map_set]
theorem IdsAt.cell {w : World} {b : Nat} {xs : List Nat} (h : IdsAt w b xs) {j : Nat} (hj : j < xs.length) : ∃ v, w.cell? ⟨b, j, none⟩ = some v ∧ w.frozen? ⟨b, j, none⟩ = false := by
  refine ⟨_, by rw [Lib.cell_of_heap h]; simp [hj]; rfl, Lib.frozen_of_heap h j⟩
def upTo (c j : Nat) : List Nat := (List.range 64).map fun i => if i < j then idOf (c.testBit i) else 0
theorem upTo_zero (c : Nat) : upTo c 0 = List.replicate 64 0 := by
  unfold upTo; simp [List.map_const']
theorem upTo_all (c : Nat) : upTo c 64 = (bits c).map idOf := by
  unfold upTo bits
  rw [List.map_map]
  exact List.map_congr_left fun i hi => by rw [if_pos (List.mem_range.1 hi)]; rfl
theorem upTo_len (c j : Nat) : (upTo c j).length = 64 := by simp [upTo]
theorem upTo_next (c j : Nat) (hj : j < 64) : (upTo c j).set j (idOf (c.testBit j)) = upTo c (j + 1) := by
  apply List.ext_getElem?
  intro i
  rcases Nat.lt_or_ge i 64 with hi | hi
  · by_cases e : j = i
    · subst e
      rw [List.getElem?_set_self (by rw [upTo_len]; exact hj)]
      simp [upTo, hj]
    · rw [List.getElem?_set_ne e]
      simp only [upTo, List.getElem?_map, List.getElem?_range hi, Option.map_some]
      by_cases h1 : i < j
      · rw [if_pos h1, if_pos (by omega)]
      · rw [if_neg h1, if_neg (by omega)]
  · rw [List.getElem?_eq_none (by rw [List.length_set, upTo_len]; exact hi), List.getElem?_eq_none (by rw [upTo_len]; exact hi)]
theorem IdsAt.later {w w' : World} {b : Nat} {xs : List Nat} (h : IdsAt w b xs) (hb : Below w.heap.size w w') : IdsAt w' b xs := by
  unfold IdsAt; rw [hb.block b h.lt]; exact h

theorem and_one6 (n : Int) (h0 : 0 ≤ n) (h1 : n ≤ 18446744073709551615) : Go.bits .and .u64 n 1 = n % 2 := by
  rw [u64_and n 1 h0 (by omega) (by decide) (by decide)]
  rw [show (1 : Int).toNat = 1 from rfl, Nat.and_one_is_mod]
  omega
theorem bit_id (c j : Nat) (hc : c < 18446744073709551616) : Go.bits .and .u64 ((c : Int) / 2 ^ j) 1 % 4294967296 = ((idOf (c.testBit j) : Nat) : Int) := by
  have e : ((c : Int) / 2 ^ j) = ((c / 2 ^ j : Nat) : Int) := by push_cast; rfl
  have hle : c / 2 ^ j ≤ c := Nat.div_le_self _ _
  rw [e]
  rw [Nat.testBit_eq_decide_div_mod_eq]
  generalize c / 2 ^ j = d at *
  rw [and_one6 _ (by omega) (by omega)]
  unfold idOf
  by_cases h : d % 2 = 1
  · rw [if_pos (by simpa using h)]; omega
  · rw [if_neg (by simpa using h)]; omega
theorem Frm.grown_new {F : List Nat} {w W1 W2 : World} {r : Option Nat} (h : Frm F w W1) (hg : W1.grownBy W2 r) (hr : ∀ b, r = some b → w.heap.size ≤ b) : Frm F w W2 :=
  ⟨hg.os.trans h.os, hg.tape.trans h.tape, hg.output.trans h.output, Nat.le_trans h.size hg.size, fun b hb hn => (hg.block b (Nat.lt_of_lt_of_le hb h.size) (fun e => by have := hr b e.symm; omega)).trans (h.block b hb hn)⟩
/-- The state of the outer loop: n levels are done. -/
structure Ob (w : World) (sb g tb most : Nat) (N : List Nd) (c n : Nat) (v : Value) (W : World) : Prop where
  st : ∃ (gg cc : Nat) (E : List Nd) (xs : List Nat) (bs : List (List Bool)), St W sb gg tb cc most (N ++ E) ∧ IdRow W w.heap.size v xs ∧ HasL (N ++ E) n xs bs ∧ bs.flatten = bits c ∧ xs.length = 4 ^ (3 - n) ∧ E.length + (4 ^ (3 - n) - 1) / 3 ≤ 21 ∧ Frm [sb, g, tb] w W ∧ (gg = g ∨ w.heap.size ≤ gg)
/-- The state of the inner loop: j squares of the next level are made. -/
structure Ib (w : World) (sb g tb most : Nat) (N E : List Nd) (n : Nat) (xs : List Nat) (bs : List (List Bool)) (v : Value) (j : Nat) (u : Value) (W : World) : Prop where
  st : ∃ (gg cc : Nat) (F : List Nd) (ys : List Nat) (cs : List (List Bool)), St W sb gg tb cc most (N ++ (E ++ F)) ∧ IdRow W w.heap.size v xs ∧ HasL (N ++ (E ++ F)) n xs bs ∧ IdRow W w.heap.size u ys ∧ HasL (N ++ (E ++ F)) (n + 1) ys cs ∧ cs.flatten = (bs.take (4 * j)).flatten ∧ ys.length = j ∧ F.length ≤ j ∧ (∀ b, v.ownBlock = some b → u.ownBlock ≠ some b) ∧ Frm [sb, g, tb] w W ∧ (gg = g ∨ w.heap.size ≤ gg)
set_option maxHeartbeats 4000000 in
theorem build_any {w : World} {sb g tb cap most : Nat} {N : List Nd} (h : St w sb g tb cap most N) (c : Nat) (hc : c < 18446744073709551616) (hl : N.length + 21 ≤ most) :
    Calls Try.prog 18 #[.pointer (some ⟨sb, 0, none⟩), .int .u64 (c : Int)] w fun e w' => ∃ (g' cap' : Nat) (E : List Nd) (x : Nat), e = .returned (.tuple #[.int .u32 (x : Int), .nilIface]) ∧ St w' sb g' tb cap' most (N ++ E) ∧ E.length ≤ 21 ∧ Has (N ++ E) 3 x (bits c) ∧ Frm [sb, g, tb] w w' ∧ (g' = g ∨ w.heap.size ≤ g') := by
  have HS := Lib.hid h
  have HC := Lib.hid hc
  have HL := Lib.hid hl
  clear h hc hl
  go_enter Try.func18, Try.ntmps18
  obtain ⟨ti, hi, hz0, hz1, hz2⟩ := infoID
  have HI := Lib.hid hi
  have HZ0 := Lib.hid hz0
  have HZ1 := Lib.hid hz1
  have HZ2 := Lib.hid hz2
  clear hi hz0 hz1 hz2
  obtain ⟨MC, hMC, hmk⟩ := made64
  have HMC := Lib.hid hMC
  clear hMC
  go_wp2_with fail
  have HI0 : Hid (IdsAt (w.alloc (.cells MC 33)) w.heap.size (upTo c 0)) := by
    show IdsAt _ _ _
    unfold IdsAt
    rw [upTo_zero, ← HMC.out]
    exact heap_alloc_new w _
  have HB0 := Lib.hid (bel1 w (.cells MC 33))
  clear hmk HMC
  generalize w.alloc (.cells MC 33) = W0 at *
  go_loopg [7, 15] 64 (fun m x i wr => ∃ j : Nat, m = 64 - j ∧ j ≤ 64 ∧ i = .int .i64 (j : Int) ∧ IdsAt wr w.heap.size (upTo c j) ∧ Below w.heap.size w wr)
  case atStart => exact ⟨0, rfl, by omega, rfl, HI0.out, HB0.out⟩
  case round =>
    obtain ⟨j, hm, hj, rfl, hi, hb⟩ := hrel
    have HM := Lib.hid hm
    have HIDS := Lib.hid hi
    have HB := Lib.hid hb
    clear hm hi hb HI0 HB0
    by_cases hlt : j < 64
    · have hg : decide ((j : Int) < 64) = true := by simp; omega
      have hi1 : (j : Int) < 64 := by omega
      have hi0 : (0 : Int) ≤ (j : Int) := by omega
      obtain ⟨v, c0, c1⟩ := HIDS.out.cell (j := j) (by rw [upTo_len]; exact hlt)
      have HBI := Lib.hid (bit_id c j HC.out)
      go_wp2_with fail
      rw [HBI.out]
      go_roundg (64 - (j + 1))
      case measure => rw [HM.out]; omega
      case rel => exact ⟨j + 1, rfl, hlt, by go_num, by rw [← upTo_next c j hlt]; exact HIDS.out.set j _, HB.out.setCell (p := ⟨w.heap.size, j, none⟩) (by simp) _⟩
    · obtain rfl : j = 64 := by omega
      have hg : decide (((64 : Nat) : Int) < 64) = false := by decide
      rw [upTo_all] at HIDS
      go_wp2_with fail
      have HOB : Hid (Ob w sb g tb most N c 0 (.slice (some ⟨w.heap.size, 0, none⟩) 64 64) wr) := by
        have hl64 : ((bits c).map idOf).length = 64 := by simp [bits]
        have hr := HIDS.out.row (B := w.heap.size) (Nat.le_refl _) (by rw [hl64]; omega)
        rw [hl64] at hr
        exact ⟨g, cap, [], _, _, by simpa using HS.out.later HB.out, hr, by simpa using has_bits N c, flat_bits c, hl64, by decide, Frm.of_below HB.out, Or.inl rfl⟩
      clear HIDS HM hlt hj hg
      go_loopg [6, 8, 9, 10, 11] 3 (fun m l nx i x e wr => ∃ n, m = 3 - n ∧ n ≤ 3 ∧ Ob w sb g tb most N c n l wr)
      case atStart => exact ⟨0, rfl, by omega, HOB.out⟩
      case round =>
        obtain ⟨n, hm, hn, ⟨gg, cc, E, xs, bs, hS, hR, hL, hF, hX, hE, hFr, hgg⟩⟩ := hrel
        obtain ⟨lb, lc, rfl⟩ := hR.slice (by rw [hX]; exact Nat.pow_pos (by omega))
        have HM := Lib.hid hm
        have HS1 := Lib.hid hS
        have HR1 := Lib.hid hR
        have HL1 := Lib.hid hL
        have HF1 := Lib.hid hF
        have HX1 := Lib.hid hX
        have HE1 := Lib.hid hE
        have HFR := Lib.hid hFr
        have HGG := Lib.hid hgg
        clear hm hS hR hL hF hX hE hFr hgg HOB HB
        by_cases h3 : n = 3
        · subst h3
          have hx1 : xs.length = 1 := HX1.out
          obtain ⟨x, hx⟩ : ∃ x, xs[0]? = some x := ⟨xs[0]'(by omega), List.getElem?_eq_getElem _⟩
          have hcell := HR1.out.at hx
          obtain ⟨b, hb, hhas⟩ := HL1.out.at hx
          have HHAS : Hid (Has (N ++ E) 3 x (bits c)) := by
            show Has _ _ _ _
            have hbl : bs.length = 1 := by rw [← HL1.out.1]; exact hx1
            have : bs = [b] := by
              match bs, hbl, hb with
              | [y], _, hb => simp at hb; rw [hb]
            have hf := HF1.out
            rw [this] at hf
            simp at hf
            rw [← hf]; exact hhas
          rw [hx1] at *
          clear hx hb hhas
          go_wp2_with fail
          go_ret2
          exact ⟨gg, cc, E, x, rfl, HS1.out, by have := HE1.out; omega, HHAS.out, HFR.out, HGG.out⟩
        · have hxl : 4 ≤ xs.length ∧ xs.length ≤ 64 ∧ xs.length % 4 = 0 := by
            rw [HX1.out]
            have : n = 0 ∨ n = 1 ∨ n = 2 := by omega
            rcases this with rfl | rfl | rfl <;> decide
          have hg1 : decide ((1 : Int) < (xs.length : Int)) = true := by simp; omega
          go_wp2_with fail
          have HXL := Lib.hid hxl
          have HIB : Hid (Ib w sb g tb most N E n xs bs (.slice (some ⟨lb, 0, none⟩) xs.length lc) 0 (.slice none 0 0) wr) :=
            ⟨gg, cc, [], [], [], by simpa using HS1.out, HR1.out, by simpa using HL1.out, World.ownsRow_nil _ _ _ _, HasL.nil _ _, rfl, rfl, Nat.le_refl _, fun b _ => by simp [Value.ownBlock], HFR.out, HGG.out⟩
          clear hg1 hxl HS1 HR1 HL1 HFR HGG
          go_loopg [8, 9, 10, 11] (xs.length / 4) (fun m nx i x e wr => ∃ j p, m = xs.length / 4 - j ∧ p = 4 * j ∧ p ≤ xs.length ∧ i = .int .i64 (p : Int) ∧ Ib w sb g tb most N E n xs bs (.slice (some ⟨lb, 0, none⟩) xs.length lc) j nx wr)
          case atStart => exact ⟨0, 0, rfl, rfl, Nat.zero_le _, rfl, HIB.out⟩
          case round =>
            obtain ⟨j, p, hm, hp, hpl, rfl, ⟨g2, c2, F, ys, cs, hS, hR, hL, hU, hLU, hF, hY, hE, hne, hFr, hgg⟩⟩ := hrel
            have HM2 := Lib.hid hm
            have HP := Lib.hid hp
            have HS2 := Lib.hid hS
            have HR2 := Lib.hid hR
            have HL2 := Lib.hid hL
            have HU2 := Lib.hid hU
            have HLU := Lib.hid hLU
            have HF2 := Lib.hid hF
            have HY2 := Lib.hid hY
            have HE2 := Lib.hid hE
            have HNE := Lib.hid hne
            have HFR := Lib.hid hFr
            have HGG := Lib.hid hgg
            clear hm hp hS hR hL hU hLU hF hY hE hne hFr hgg HIB
            by_cases hlt : p < xs.length
            · have hq : p + 3 < xs.length := by have := HXL.out; have := HP.out; omega
              have hg2 : decide ((p : Int) < (xs.length : Int)) = true := by simp; omega
              obtain ⟨x0, hx0⟩ : ∃ x, xs[p]? = some x := ⟨xs[p]'(by omega), List.getElem?_eq_getElem _⟩
              obtain ⟨x1, hx1⟩ : ∃ x, xs[p + 1]? = some x := ⟨xs[p + 1]'(by omega), List.getElem?_eq_getElem _⟩
              obtain ⟨x2, hx2⟩ : ∃ x, xs[p + 2]? = some x := ⟨xs[p + 2]'(by omega), List.getElem?_eq_getElem _⟩
              obtain ⟨x3, hx3⟩ : ∃ x, xs[p + 3]? = some x := ⟨xs[p + 3]'(by omega), List.getElem?_eq_getElem _⟩
              have d0 := HR2.out.at hx0
              have d1 := HR2.out.at hx1
              have d2 := HR2.out.at hx2
              have d3 := HR2.out.at hx3
              have i0 : (p : Int) < (xs.length : Int) := by omega
              have i1 : (p : Int) + 1 < (xs.length : Int) := by omega
              have i2 : (p : Int) + 2 < (xs.length : Int) := by omega
              have i3 : (p : Int) + 3 < (xs.length : Int) := by omega
              have z0 : (0 : Int) ≤ (p : Int) := by omega
              have z1 : (0 : Int) ≤ (p : Int) + 1 := by omega
              have z2 : (0 : Int) ≤ (p : Int) + 2 := by omega
              have z3 : (0 : Int) ≤ (p : Int) + 3 := by omega
              have w1 : IntKind.i64.wrap ((p : Int) + 1) = (p : Int) + 1 := IntWalk.i64_in _ (by have := HXL.out; omega)
              have w2 : IntKind.i64.wrap ((p : Int) + 2) = (p : Int) + 2 := IntWalk.i64_in _ (by have := HXL.out; omega)
              have w3 : IntKind.i64.wrap ((p : Int) + 3) = (p : Int) + 3 := IntWalk.i64_in _ (by have := HXL.out; omega)
              have t2 : ((p : Int) + 2).toNat = p + 2 := by omega
              have t3 : ((p : Int) + 3).toNat = p + 3 := by omega
              obtain ⟨b0, hb0, hh0⟩ := HL2.out.at hx0
              obtain ⟨b1, hb1, hh1⟩ := HL2.out.at hx1
              obtain ⟨b2, hb2, hh2⟩ := HL2.out.at hx2
              obtain ⟨b3, hb3, hh3⟩ := HL2.out.at hx3
              have HT4 : Hid ((bs.take (4 * (j + 1))).flatten = (bs.take (4 * j)).flatten ++ (b0 ++ (b1 ++ (b2 ++ b3)))) := by
                show _ = _
                rw [← HP.out, show 4 * (j + 1) = p + 4 by have := HP.out; omega]
                exact take_four hb0 hb1 hb2 hb3
              have HLT2 : Hid ((N ++ (E ++ F)).length < most) := by
                show _ < _
                have h1 := HL.out
                have h2 := HE2.out
                have h3 := HE1.out
                have h4 := HP.out
                have h5 := HX1.out
                have h6 : 4 ^ (3 - n) / 4 ≤ (4 ^ (3 - n) - 1) / 3 := by
                  have : n = 0 ∨ n = 1 ∨ n = 2 := by omega
                  rcases this with rfl | rfl | rfl <;> decide
                rw [← h5] at h6 h3
                simp only [List.length_append]
                omega
              have HMK := Lib.hid (mk_has (k := (x0, x1, x2, x3)) HS2.out.wf (by omega) HLT2.out hh0 hh1 hh2 hh3)
              have HIK : Hid (InK (x0, x1, x2, x3)) := by
                have hle := HS2.out.room
                have hm2 := HS2.out.most_le
                have l0 := lv_lt (x := x0) (by rw [hh0.lv HS2.out.wf]; omega)
                have l1 := lv_lt (x := x1) (by rw [hh1.lv HS2.out.wf]; omega)
                have l2 := lv_lt (x := x2) (by rw [hh2.lv HS2.out.wf]; omega)
                have l3 := lv_lt (x := x3) (by rw [hh3.lv HS2.out.wf]; omega)
                exact ⟨by show x0 < _; omega, by show x1 < _; omega, by show x2 < _; omega, by show x3 < _; omega⟩
              clear hx0 hx1 hx2 hx3 hb0 hb1 hb2 hb3 hh0 hh1 hh2 hh3
              go_wp2_with fail
              have HD0 := Lib.hid d0
              have HD1 := Lib.hid d1
              have HD2 := Lib.hid d2
              have HD3 := Lib.hid d3
              clear d0 d1 d2 d3
              refine region_sq 21 (fun W => W = wr.drew) [(0, 1), (1, 1), (2, 1), (3, 1), (5, 1), (6, 1), (7, 1), (8, 1), (10, 1), (11, 1), (12, 1), (13, 1), (15, 1), (16, 1), (17, 1), (18, 1), (4, 2), (9, 2), (14, 2), (19, 2), (20, 1), (21, 3), (22, 1), (23, 1), (24, 1), (25, 1), (26, 1)] (by kernel_rfl) (by kernel_rfl) rfl (by intro c a d v w h; cases d <;> exact h) (by kernel_rfl) rfl ?_
              refine ⟨_, ?_, rfl, by rfl, ?_, ?_⟩
              rotate_left
              · intro W; go_simp; first | done | rfl
              conv => arg 6; simp only [Act.put, List.setIfInBounds_toArray, List.set_cons_zero, List.set_cons_succ]
              refine ⟨_, ?_, rfl, by rfl, ?_, ?_⟩
              rotate_left
              · intro W; go_simp; first | done | rfl
              conv => arg 6; simp only [Act.put, List.setIfInBounds_toArray, List.set_cons_zero, List.set_cons_succ]
              refine ⟨_, ?_, rfl, by rfl, ?_, ?_⟩
              rotate_left
              · intro W; go_simp; first | done | rfl
              conv => arg 6; simp only [Act.put, List.setIfInBounds_toArray, List.set_cons_zero, List.set_cons_succ]
              refine ⟨_, ?_, rfl, by rfl, ?_, ?_⟩
              rotate_left
              · intro W; go_simp; first | done | rfl
              conv => arg 6; simp only [Act.put, List.setIfInBounds_toArray, List.set_cons_zero, List.set_cons_succ]
              refine ⟨_, ?_, rfl, by rfl, ?_, ?_⟩
              rotate_left
              · intro W; go_simp; first | done | rfl
              conv => arg 6; simp only [Act.put, List.setIfInBounds_toArray, List.set_cons_zero, List.set_cons_succ]
              refine ⟨_, ?_, rfl, by rfl, ?_, ?_⟩
              rotate_left
              · intro W; go_simp; first | done | rfl
              conv => arg 6; simp only [Act.put, List.setIfInBounds_toArray, List.set_cons_zero, List.set_cons_succ]
              refine ⟨_, ?_, rfl, by rfl, ?_, ?_⟩
              rotate_left
              · intro W; go_simp; first | done | rfl
              conv => arg 6; simp only [Act.put, List.setIfInBounds_toArray, List.set_cons_zero, List.set_cons_succ]
              refine ⟨_, ?_, rfl, by rfl, ?_, ?_⟩
              rotate_left
              · intro W; go_simp; first | done | rfl
              conv => arg 6; simp only [Act.put, List.setIfInBounds_toArray, List.set_cons_zero, List.set_cons_succ]
              refine ⟨_, ?_, rfl, by rfl, ?_, ?_⟩
              rotate_left
              · intro W; go_simp; first | done | rfl
              conv => arg 6; simp only [Act.put, List.setIfInBounds_toArray, List.set_cons_zero, List.set_cons_succ]
              refine ⟨_, ?_, rfl, by rfl, ?_, ?_⟩
              rotate_left
              · intro W; go_simp; first | done | rfl
              conv => arg 6; simp only [Act.put, List.setIfInBounds_toArray, List.set_cons_zero, List.set_cons_succ]
              refine ⟨_, ?_, rfl, by rfl, ?_, ?_⟩
              rotate_left
              · intro W; go_simp; first | done | rfl
              conv => arg 6; simp only [Act.put, List.setIfInBounds_toArray, List.set_cons_zero, List.set_cons_succ]
              refine ⟨_, ?_, rfl, by rfl, ?_, ?_⟩
              rotate_left
              · intro W; go_simp; first | done | rfl
              conv => arg 6; simp only [Act.put, List.setIfInBounds_toArray, List.set_cons_zero, List.set_cons_succ]
              refine ⟨_, ?_, rfl, by rfl, ?_, ?_⟩
              rotate_left
              · intro W; go_simp; first | done | rfl
              conv => arg 6; simp only [Act.put, List.setIfInBounds_toArray, List.set_cons_zero, List.set_cons_succ]
              refine ⟨_, ?_, rfl, by rfl, ?_, ?_⟩
              rotate_left
              · intro W; go_simp; first | done | rfl
              conv => arg 6; simp only [Act.put, List.setIfInBounds_toArray, List.set_cons_zero, List.set_cons_succ]
              refine ⟨_, ?_, rfl, by rfl, ?_, ?_⟩
              rotate_left
              · intro W; go_simp; first | done | rfl
              conv => arg 6; simp only [Act.put, List.setIfInBounds_toArray, List.set_cons_zero, List.set_cons_succ]
              refine ⟨_, ?_, rfl, by rfl, ?_, ?_⟩
              rotate_left
              · intro W; go_simp; first | done | rfl
              conv => arg 6; simp only [Act.put, List.setIfInBounds_toArray, List.set_cons_zero, List.set_cons_succ]
              refine ⟨_, ?_, rfl, by rfl, ?_, ?_⟩
              rotate_left
              · rintro W rfl
                have d0 : wr.drew.cell? ⟨lb, p, none⟩ = some (.int .u32 (x0 : Int)) := HD0.out
                have d1 : wr.drew.cell? ⟨lb, p + 1, none⟩ = some (.int .u32 (x1 : Int)) := HD1.out
                have d2 : wr.drew.cell? ⟨lb, p + 2, none⟩ = some (.int .u32 (x2 : Int)) := HD2.out
                have d3 : wr.drew.cell? ⟨lb, p + 3, none⟩ = some (.int .u32 (x3 : Int)) := HD3.out
                go_simp; first | done | rfl
              conv => arg 6; simp only [Act.put, List.setIfInBounds_toArray, List.set_cons_zero, List.set_cons_succ]
              refine ⟨_, ?_, rfl, by rfl, ?_, ?_⟩
              rotate_left
              · rintro W rfl
                have d0 : wr.drew.cell? ⟨lb, p, none⟩ = some (.int .u32 (x0 : Int)) := HD0.out
                have d1 : wr.drew.cell? ⟨lb, p + 1, none⟩ = some (.int .u32 (x1 : Int)) := HD1.out
                have d2 : wr.drew.cell? ⟨lb, p + 2, none⟩ = some (.int .u32 (x2 : Int)) := HD2.out
                have d3 : wr.drew.cell? ⟨lb, p + 3, none⟩ = some (.int .u32 (x3 : Int)) := HD3.out
                go_simp; first | done | rfl
              conv => arg 6; simp only [Act.put, List.setIfInBounds_toArray, List.set_cons_zero, List.set_cons_succ]
              refine ⟨_, ?_, rfl, by rfl, ?_, ?_⟩
              rotate_left
              · rintro W rfl
                have d0 : wr.drew.cell? ⟨lb, p, none⟩ = some (.int .u32 (x0 : Int)) := HD0.out
                have d1 : wr.drew.cell? ⟨lb, p + 1, none⟩ = some (.int .u32 (x1 : Int)) := HD1.out
                have d2 : wr.drew.cell? ⟨lb, p + 2, none⟩ = some (.int .u32 (x2 : Int)) := HD2.out
                have d3 : wr.drew.cell? ⟨lb, p + 3, none⟩ = some (.int .u32 (x3 : Int)) := HD3.out
                go_simp; first | done | rfl
              conv => arg 6; simp only [Act.put, List.setIfInBounds_toArray, List.set_cons_zero, List.set_cons_succ]
              refine ⟨_, ?_, rfl, by rfl, ?_, ?_⟩
              rotate_left
              · rintro W rfl
                have d0 : wr.drew.cell? ⟨lb, p, none⟩ = some (.int .u32 (x0 : Int)) := HD0.out
                have d1 : wr.drew.cell? ⟨lb, p + 1, none⟩ = some (.int .u32 (x1 : Int)) := HD1.out
                have d2 : wr.drew.cell? ⟨lb, p + 2, none⟩ = some (.int .u32 (x2 : Int)) := HD2.out
                have d3 : wr.drew.cell? ⟨lb, p + 3, none⟩ = some (.int .u32 (x3 : Int)) := HD3.out
                go_simp; first | done | rfl
              conv => arg 6; simp only [Act.put, List.setIfInBounds_toArray, List.set_cons_zero, List.set_cons_succ]
              refine ⟨_, ?_, rfl, by rfl, ?_, ?_⟩
              rotate_left
              · intro W; go_simp; first | done | rfl
              conv => arg 6; simp only [Act.put, List.setIfInBounds_toArray, List.set_cons_zero, List.set_cons_succ]
              refine ⟨_, rfl, by rfl, fun K hK => ?_⟩
              go_simp
              refine (make_any HS2.out.drew (x0, x1, x2, x3) HIK.out).mono ?_
              rintro e W1 ⟨g3, c3, rfl, hS, hF, hg⟩
              obtain ⟨hm0, hm1, X, hmX, hXl⟩ := HMK.out
              rw [hm0] 
              rw [hmX] at hS hm1
              generalize (mkZ (N ++ (E ++ F)) most (x0, x1, x2, x3)).2.1 = nx at *
              have HS3 := Lib.hid hS
              have HR3 := Lib.hid (IdRow.frm (w := wr.drew) HR2.out HS2.out.drew hF)
              have HU3 := Lib.hid (IdRow.frm (w := wr.drew) HU2.out HS2.out.drew hF)
              have HL3 := Lib.hid (HL2.out.app X HS2.out.wf.two)
              have HLU3 := Lib.hid ((HLU.out.app X HS2.out.wf.two).snoc hm1)
              have HXL2 := Lib.hid hXl
              have HG3 : Hid (g3 = g2 ∨ wr.heap.size ≤ g3) := hg
              have HFR3 : Hid (Frm [sb, g, tb] w W1) := by
                have hF' : Frm [sb, g2, tb] wr W1 := ⟨hF.os, hF.tape, hF.output, hF.size, hF.block⟩
                refine HFR.out.trans hF' (fun b hb => ?_)
                simp only [List.mem_cons, List.not_mem_nil, or_false] at hb
                rcases hb with e | e | e
                · exact Or.inl (by simp [e])
                · rcases HGG.out with e' | e'
                  · exact Or.inl (by simp [e, e'])
                  · exact Or.inr (by omega)
                · exact Or.inl (by simp [e])
              refine hK _ _ ?_
              clear hK K hS hF hg hm0 hm1 hmX hXl HMK
              conv => arg 6; simp only [Act.put, List.setIfInBounds_toArray, List.set_cons_zero, List.set_cons_succ]
              refine ⟨_, ?_, rfl, by rfl, ?_, ?_⟩
              rotate_left
              · intro W; go_simp; first | done | rfl
              conv => arg 6; simp only [Act.put, List.setIfInBounds_toArray, List.set_cons_zero, List.set_cons_succ]
              refine ⟨_, ?_, rfl, by rfl, ?_, ?_⟩
              rotate_left
              · intro W; go_simp; first | done | rfl
              conv => arg 6; simp only [Act.put, List.setIfInBounds_toArray, List.set_cons_zero, List.set_cons_succ]
              refine ⟨_, ?_, rfl, by rfl, ?_, ?_⟩
              rotate_left
              · intro W; go_simp; first | done | rfl
              conv => arg 6; simp only [Act.put, List.setIfInBounds_toArray, List.set_cons_zero, List.set_cons_succ]
              refine ⟨_, ?_, rfl, by rfl, ?_, ?_⟩
              rotate_left
              · intro W; go_simp; first | done | rfl
              conv => arg 6; simp only [Act.put, List.setIfInBounds_toArray, List.set_cons_zero, List.set_cons_succ]
              refine ⟨_, ?_, rfl, by rfl, ?_, ?_⟩
              rotate_left
              · intro W; go_simp; first | done | rfl
              conv => arg 6; simp only [Act.put, List.setIfInBounds_toArray, List.set_cons_zero, List.set_cons_succ]
              unfold wpSq
              unfold errV
              have HSA := Lib.hid (HS3.out.later (bel1 W1 (.cells #[.int .u32 (nx : Int)] 33)))
              have HRA := Lib.hid (HR3.out.later (bel1 W1 (.cells #[.int .u32 (nx : Int)] 33)))
              have HUA := Lib.hid (HU3.out.later (bel1 W1 (.cells #[.int .u32 (nx : Int)] 33)))
              have w4 : IntKind.i64.wrap ((p : Int) + 4) = (p : Int) + 4 := IntWalk.i64_in _ (by have := HXL.out; omega)
              clear i0 i1 i2 i3 z0 z1 z2 z3 w1 w2 w3 t2 t3
              go_wp2_with (at_builtin; refine wpList_append_lies _ rfl _ _ 62 rfl w.heap.size 33 ti (.int .u32 0) 1 4 Try.underlying62 HI.out HZ0.out HZ1.out HZ2.out rfl (by decide) _ _ _ rfl HUA.out ⟨W1.heap.size, 0, none⟩ 1 1 [.int .u32 (nx : Int)] rfl rfl (World.news_of_block (heap_alloc_new W1 _)) (by intro u hu; simp at hu; subst hu; rfl) (by decide) (by have := HY2.out; have := HP.out; have := HXL.out; unfold maxLen; omega) (by have := HY2.out; have := HP.out; have := HXL.out; omega) (by have := HFR3.out.size; simp; omega) _ rfl ?_; intro g4 c4 W2 hown hgrow hat hlt4; have HOW := Lib.hid hown; have HGR := Lib.hid hgrow; have HAT := Lib.hid hat; clear hown hgrow hat hlt4)
              go_roundg (xs.length / 4 - (j + 1))
              case measure => rw [HM2.out]; have := HP.out; have := HXL.out; omega
              case rel =>
                have hSB := HSA.out.grown HGR.out (fun b hb => HUA.out.apart HSA.out hb)
                have hne : ∀ b, (Value.slice (some ⟨lb, 0, none⟩) xs.length lc).ownBlock = some b → some b ≠ u8.ownBlock := fun b hb e => HNE.out b hb e.symm
                have hRB : IdRow W2 w.heap.size (.slice (some ⟨lb, 0, none⟩) xs.length lc) xs := HRA.out.of_block fun b hb => HGR.out.block b (HRA.out.blk hb).2.1 (hne b hb)
                refine ⟨j + 1, p + 4, rfl, by have := HP.out; omega, by omega, by go_num, ⟨g3, c3, F ++ X, ys ++ [nx], cs ++ [b0 ++ (b1 ++ (b2 ++ b3))], ?_, hRB, ?_, ?_, ?_, ?_, by simp [HY2.out], ?_, ?_, ?_, ?_⟩⟩
                · simpa [List.append_assoc] using hSB
                · simpa [List.append_assoc] using HL3.out
                · have := HOW.out
                  unfold IdRow
                  simpa using this
                · simpa [List.append_assoc] using HLU3.out
                · rw [List.flatten_append, HF2.out, HT4.out]; simp
                · have := HE2.out; have := HXL2.out; simp; omega
                · intro b hb e
                  simp [Value.ownBlock] at e
                  subst e
                  rcases HAT.out with h | h
                  · exact HNE.out _ hb h
                  · have := (HR3.out.blk hb).2.1
                    simp at h
                    omega
                · have hgr : (W1.alloc (.cells #[.int .u32 (nx : Int)] 33)).grownBy W2 u8.ownBlock := HGR.out
                  exact (HFR3.out.trans (Frm.of_below (F := [sb, g, tb]) (bel1 W1 (.cells #[.int .u32 (nx : Int)] 33))) (fun b hb => Or.inl hb)).grown_new hgr (fun b hb => (HUA.out.blk hb).1)
                · rcases HG3.out with e | e
                  · rcases HGG.out with e' | e'
                    · exact Or.inl (by omega)
                    · exact Or.inr (by omega)
                  · exact Or.inr (Nat.le_trans HFR.out.size e)
            · have hg2 : decide ((p : Int) < (xs.length : Int)) = false := by simp; omega
              go_wp2_with fail
              have hpx : p = xs.length := by omega
              go_roundg (3 - (n + 1))
              case measure => rw [HM.out]; omega
              case rel =>
                have h4 := HP.out
                have h5 := HX1.out
                have hn3 : n = 0 ∨ n = 1 ∨ n = 2 := by omega
                have hbl : bs.length = xs.length := HL2.out.1.symm
                refine ⟨n + 1, rfl, by omega, ⟨g2, c2, E ++ F, ys, cs, HS2.out, HU2.out, HLU.out, ?_, ?_, ?_, HFR.out, HGG.out⟩⟩
                · rw [HF2.out, ← HP.out, hpx, ← hbl, List.take_length]; exact HF1.out
                · rw [HY2.out]
                  rcases hn3 with rfl | rfl | rfl
                  · have : xs.length = 64 := h5
                    show j = 16
                    omega
                  · have : xs.length = 16 := h5
                    show j = 4
                    omega
                  · have : xs.length = 4 := h5
                    show j = 1
                    omega
                · have h6 := HE2.out
                  have h7 := HE1.out
                  rw [List.length_append]
                  rcases hn3 with rfl | rfl | rfl
                  · have e1 : xs.length = 64 := h5
                    have e2 : E.length + 21 ≤ 21 := h7
                    show E.length + F.length + 5 ≤ 21
                    omega
                  · have e1 : xs.length = 16 := h5
                    have e2 : E.length + 5 ≤ 21 := h7
                    show E.length + F.length + 1 ≤ 21
                    omega
                  · have e1 : xs.length = 4 := h5
                    have e2 : E.length + 1 ≤ 21 := h7
                    show E.length + F.length + 0 ≤ 21
                    omega
end Go.Proofs.Ytjndfdhjipfijaa
