-- P10
import Derived.Test.YtaapkngpnlnjeaaGreatDoorP03
import Derived.Test.YtaapkngpnlnjeaaGreatDoorBe9
import Derived.Test.YtaapkngpnlnjeaaGreatDoorMe
import Derived.Maps.OwnSet
import Derived.Test.YtaapkngpnlnjeaaGreatDoorProg
import Derived.Laws.AppendOwnNone
import Derived.Laws.OwnMore
import Derived.Deep.AppendLies
import Derived.OwnWalk
import Derived.RowKit
import Derived.IntWalk
section
namespace Go.Proofs.YtaapkngpnlnjeaaGreatDoor
open Go.RowKit

/-- A list's plane. -/
def plL (l : List (Int × Int)) : Plane := fun X Y => if (X, Y) ∈ l then 1 else 0
def hit (c : Int × Int) (X Y : Int) : Nat := if X = c.1 ∧ Y = c.2 then 1 else 0
theorem plL_cons {c : Int × Int} {l : List (Int × Int)} (h : c ∉ l) (X Y : Int) : plL (c :: l) X Y = plL l X Y + hit c X Y := by
  unfold plL hit
  obtain ⟨a, b⟩ := c
  simp only [List.mem_cons, Prod.mk.injEq]
  by_cases e : X = a ∧ Y = b
  · obtain ⟨rfl, rfl⟩ := e
    simp [h]
  · simp [e]
theorem hit_near (c : Int × Int) (a b : Int) : nbF (hit c) a b = if adjB (a, b) c then 1 else 0 := by
  obtain ⟨x, y⟩ := c
  unfold nbF hit adjB
  simp only [Prod.mk.injEq, Bool.and_eq_true, Bool.not_eq_true', decide_eq_false_iff_not, decide_eq_true_eq]
  by_cases hx : x = a - 1 ∨ x = a ∨ x = a + 1
  · by_cases hy : y = b - 1 ∨ y = b ∨ y = b + 1
    · rcases hx with rfl | rfl | rfl <;> rcases hy with rfl | rfl | rfl <;> grind
    · grind
  · grind
theorem nbF_add (F G : Plane) (a b : Int) : nbF (fun X Y => F X Y + G X Y) a b = nbF F a b + nbF G a b := by unfold nbF; dsimp only; omega
theorem near_plL : ∀ {l : List (Int × Int)}, l.Nodup → ∀ a b, nbF (plL l) a b = nearL l (a, b)
  | [], _, a, b => by simp [nbF, plL, nearL]
  | c :: r, h, a, b => by
    obtain ⟨h1, h2⟩ := List.nodup_cons.1 h
    have e : plL (c :: r) = fun X Y => plL r X Y + hit c X Y := by funext X Y; exact plL_cons h1 X Y
    rw [e, nbF_add, near_plL h2, hit_near]
    unfold nearL
    rw [List.countP_cons]
/-- The rule on a list is the rule on its plane. -/
theorem life_plL {l : List (Int × Int)} (h : l.Nodup) (a b : Int) : lf (plL l) a b = if lifeL l (a, b) then 1 else 0 := by
  unfold lf lifeL
  rw [near_plL h]
  congr 2
  congr 1
  rw [Bool.eq_iff_iff, decide_eq_true_eq, decide_eq_true_eq]
  unfold plL
  split <;> simp_all
theorem plL_next {l L : List (Int × Int)} (h : l.Nodup) (hL : ∀ p, p ∈ L ↔ lifeL l p = true) : plL L = lf (plL l) := by
  funext X Y
  rw [life_plL h]
  unfold plL
  simp only [hL]
end Go.Proofs.YtaapkngpnlnjeaaGreatDoor
end

section
namespace Go.Proofs.YtaapkngpnlnjeaaGreatDoor
open Go.RowKit

theorem get16_k {N : List Nd} {x : Nat} (a b : Int) : getZ N 2 x a b = kAt (kidZ N (kAt (kidZ N x) (pl (qb 1 a) (qb 1 b)))) (pl (qb 0 a) (qb 0 b)) := by
  rw [← pick_kAt, ← pick_kAt]; rfl
theorem get16_c {N : List Nd} (hw : Wf N) {x f : Nat} (hx : Sq N 2 x) (hf : Rd N x f) {i j : Nat} (hi : i < 4) (hj : j < 4) : kAt (kidZ N (kAt (kidZ N x) i)) j = plL (cells16 f) ((2 * (i % 2) + j % 2 : Nat) : Int) ((2 * (i / 2) + j / 2 : Nat) : Int) := by
  have h1 := hf.2 i j hi hj
  have hm := mem16 (f := f) (i := inQ i j) (by unfold inQ; omega)
  rw [show inQ i j % 4 = 2 * (i % 2) + j % 2 by unfold inQ; omega, show inQ i j / 4 = 2 * (i / 2) + j / 2 by unfold inQ; omega, h1] at hm
  unfold c2 at hm
  have hz := (fo_iff.1 ((fo_iff.1 (hx.kid hw) i hi).kid hw) j hj).zero hw
  unfold plL
  rw [decide_eq_true_eq] at hm
  by_cases e : kAt (kidZ N (kAt (kidZ N x) i)) j = 1
  · rw [if_pos (hm.2 e), e]
  · rw [if_neg (fun h => e (hm.1 h))]
    exact hz.resolve_right e
theorem get16 {N : List Nd} (hw : Wf N) {x f : Nat} (hx : Sq N 2 x) (hf : Rd N x f) {a b : Int} (ha : 0 ≤ a ∧ a < 4) (hb : 0 ≤ b ∧ b < 4) : getZ N 2 x a b = plL (cells16 f) a b := by
  rw [get16_k]
  have ha' : a = 0 ∨ a = 1 ∨ a = 2 ∨ a = 3 := by omega
  have hb' : b = 0 ∨ b = 1 ∨ b = 2 ∨ b = 3 := by omega
  rw [get16_c hw hx hf (pl_lt _ _) (pl_lt _ _)]
  rcases ha' with rfl | rfl | rfl | rfl <;> rcases hb' with rfl | rfl | rfl | rfl <;> rfl
theorem sc_zero {N E : List Nd} (hw : Wf N) {x f r : Nat} (hx : Sq N 2 x) (hf : Rd N x f) (hr : Sq (N ++ E) 1 r) (hk : kidZ (N ++ E) r = nK f) (hw' : Wf (N ++ E)) : Sc (N ++ E) 0 x 0 r := by
  refine Sc.of (Nat.le_refl _) ((Con.self hx).app hw E) (con_make hr fun c d => ?_)
  have hq := (hr.kid hw') c d
  refine ⟨hq, fun X Y hX hY => ?_⟩
  have e0 : (2 : Int) ^ 0 = 1 := rfl
  rw [e0] at hX hY
  obtain rfl : X = 0 := by omega
  obtain rfl : Y = 0 := by omega
  show pick (kidZ (N ++ E) r) c d = lf (getZ N 2 x) (0 + off 0 c + 2 ^ 0) (0 + off 0 d + 2 ^ 0)
  rw [hk, pick_kAt]
  unfold nK
  rw [kAt_mk4 _ (pl_lt c d), ← inn16 f (pl_lt c d)]
  rw [show (((1 + pl c d % 2 : Nat)) : Int) = 0 + off 0 c + 2 ^ 0 by cases c <;> cases d <;> rfl, show (((1 + pl c d / 2 : Nat)) : Int) = 0 + off 0 d + 2 ^ 0 by cases c <;> cases d <;> rfl]
  rw [← life_plL (nodup16 f)]
  refine (lf_loc fun a b ha hb => ?_).symm
  have o1 : 0 ≤ off 0 c ∧ off 0 c ≤ 1 := by cases c <;> simp [off]
  have o2 : 0 ≤ off 0 d ∧ off 0 d ≤ 1 := by cases d <;> simp [off]
  exact get16 hw hx hf (by omega) (by omega)
end Go.Proofs.YtaapkngpnlnjeaaGreatDoor
end

section
namespace Go.Proofs.YtaapkngpnlnjeaaGreatDoor
open Go.RowKit Go.Maps
set_option maxRecDepth 100000

/-- A memo's first map. -/
theorem Me.first {w : World} {sb g tb most mb : Nat} {N : List Nd} {fb : FbT} {m : Stp → Option Value} (h : Me w sb g tb most N mb fb m) (hf : fb.f = none) :
    Mx sb tb mb most w g N fb m 0 ((w.alloc (.map #[] 0)).setCell ⟨mb, 1, none⟩ (.map (some w.heap.size))) g N ⟨some w.heap.size, fb.q⟩ m := by
  obtain ⟨cap, hst⟩ := h.st
  obtain ⟨l1, l2, l3⟩ := hst.lt
  obtain ⟨sv, cl, t1, t2⟩ := h.blk
  obtain ⟨a1, a2, a3⟩ := h.ap
  have hml := h.mlt
  have hb := bel1 w (.map #[] 0)
  have hne : ∀ q, q ≠ mb → q < w.heap.size → ((w.alloc (.map #[] 0)).setCell ⟨mb, 1, none⟩ (.map (some w.heap.size))).heap[q]? = w.heap[q]? := fun q h1 h2 => by
    rw [Below.heap_setCell _ _ _ _ (by show q ≠ mb; exact h1), hb.block q h2]
  have hmn : ∀ a, m a = none := by
    rcases h.mp with ⟨_, hn⟩ | ⟨b, e, _⟩
    · exact hn
    · rw [hf] at e; cases e
  refine ⟨⟨⟨cap, hst.keep (hne sb (Ne.symm a1) l1) (hne g (Ne.symm a2) l2) (hne tb (Ne.symm a3) l3)⟩, ⟨sv, cl, ?_, t2.blk fun b e => hne b (h.apf b (mem_bl.2 (Or.inr e))).2.2.2 (t2.lt e)⟩, Or.inr ⟨_, rfl, ?_⟩, h.tr, h.ap, fun b e => ?_⟩, ⟨rfl, rfl, rfl, by simp, fun b h1 h2 => ?_⟩, Or.inl rfl, fun b e => ?_, ⟨[], by simp, by simp⟩, fun _ _ h => h⟩
  · have : (w.alloc (.map #[] 0)).heap[mb]? = some (meO sb fb.f sv cl) := by rw [hb.block mb hml]; exact t1
    simp only [World.setCell, Array.getElem?_modify, this, meO]
    simp
  · have e : m = fun _ => none := funext hmn
    rw [e]
    refine (gmap_new mkE w).blk ?_
    rw [Below.heap_setCell _ _ _ _ (by show w.heap.size ≠ mb; omega)]
  · rcases mem_bl.1 e with e | e
    · cases e; omega
    · exact h.apf b (mem_bl.2 (Or.inr e))
  · exact hne b (fun e => h2 (by simp [e])) h1
  · rcases mem_bl.1 e with e | e
    · cases e; exact Or.inr (Nat.le_refl _)
    · exact Or.inl (mem_bl.2 (Or.inr e))
/-- A memo remembers. -/
theorem Me.put2 {w : World} {sb g tb most mb : Nat} {N : List Nd} {fb : FbT} {b : Nat} {m : Stp → Option Value} (h : Me w sb g tb most N mb fb m) (hf : fb.f = some b) {n x p y : Nat} (hs : Sc N n x p y) :
    ∃ w', (Instr.mapUpdate 74 (.map (some b)) (.agg #[.int .u32 (x : Int), .int .i64 (p : Int)]) (.int .u32 (y : Int))).run Tryz.prog w = .ok () w' ∧
      Mx sb tb mb most w g N fb m 0 w' g N fb (fun a => if a = ⟨x, p⟩ then some (.int .u32 (y : Int)) else m a) := by
  have ha := hs.ok h
  obtain ⟨cap, hst⟩ := h.st
  obtain ⟨l1, l2, l3⟩ := hst.lt
  obtain ⟨sv, cl, t1, t2⟩ := h.blk
  obtain ⟨q1, q2, q3, q4⟩ := h.apf b (mem_bl.2 (Or.inl hf))
  have hfq := h.fq hf
  rcases h.mp with ⟨e, _⟩ | ⟨b', e, h1⟩
  · rw [hf] at e; cases e
  rw [hf] at e; cases e
  obtain ⟨w', r1, r2, r3⟩ := h1.put ⟨x, p⟩ ha (.int .u32 (y : Int))
  have hne : ∀ q, q < w.heap.size → q ≠ b → w'.heap[q]? = w.heap[q]? := fun q hq hn => r3.block q hq (fun e => hn (Option.some.inj e))
  refine ⟨w', r1, ⟨⟨⟨cap, hst.keep (hne sb l1 (Ne.symm q1)) (hne g l2 (Ne.symm q2)) (hne tb l3 (Ne.symm q3))⟩, ⟨sv, cl, by rw [hne mb h.mlt (Ne.symm q4)]; exact t1, t2.blk fun c e => hne c (t2.lt e) (fun e' => hfq (e' ▸ e))⟩, Or.inr ⟨b, hf, r2⟩, fun a v hv => ?_, h.ap, h.apf⟩, Frm.of_grown r3 (fun c e => by cases e; simp [mem_bl, hf]), Or.inl rfl, fun _ h => Or.inl h, ⟨[], by simp, by simp⟩, fun a v hv => ?_⟩⟩
  · by_cases e : a = ⟨x, p⟩
    · subst e
      rw [if_pos rfl] at hv
      exact ⟨n, y, (Option.some.inj hv).symm, hs⟩
    · rw [if_neg e] at hv
      exact h.tr a v hv
  · show (if a = ⟨x, p⟩ then _ else m a) = some v
    by_cases e : a = ⟨x, p⟩
    · subst e
      obtain ⟨n', z, rfl, hz⟩ := h.tr _ v hv
      rw [if_pos rfl, hz.uniq h.wf hs]
    · rw [if_neg e]
      exact hv
end Go.Proofs.YtaapkngpnlnjeaaGreatDoor
end

section
namespace Go.Proofs.YtaapkngpnlnjeaaGreatDoor
open Go.RowKit

/-- Zero elements, as cells. -/
def zeL (z : List Value) : Nat → List Value
  | 0 => []
  | n + 1 => zeL z n ++ z
theorem zeL_len (z : List Value) : ∀ n, (zeL z n).length = n * z.length
  | 0 => by simp [zeL]
  | n + 1 => by rw [zeL, List.length_append, zeL_len z n, Nat.succ_mul]
theorem zero_cells (z : Array Value) (hz : 0 < z.size) : ∀ n, (Builtin.zeroCells z n).toList = zeL z.toList n
  | 0 => by simp [Builtin.zeroCells, zeL]
  | n + 1 => by
    rw [zeL, ← zero_cells z hz n]
    apply List.ext_getElem
    · simp [Builtin.zeroCells, Nat.succ_mul]
    · intro j h1 h2
      simp only [Builtin.zeroCells, Array.toList_map, Array.toList_range, List.getElem_map, List.getElem_range, List.getElem_append, List.length_map, List.length_range]
      split
      · rfl
      · rename_i hj
        simp only [Builtin.zeroCells, Array.toList_map, Array.toList_range, List.length_map, List.length_range, List.length_append, Array.length_toList, Nat.succ_mul] at h1 h2
        have hlt : j - n * z.size < z.size := by omega
        have e : j % z.size = j - n * z.size := by
          rw [show j = (j - n * z.size) + z.size * n by rw [Nat.mul_comm z.size n]; omega, Nat.add_mul_mod_self_left, Nat.mod_eq_of_lt hlt, Nat.mul_comm z.size n]
          omega
        rw [e, getElem!_pos z _ hlt]
        simp
/-- append of zeros, run: in place, or in a new row. -/
theorem run_append_zeros {P : Program} (w : World) (base : Nat) (t xt ty e : TypeId) (i : TypeInfo) (z : Value) (size bytes : Nat) (ht : P.underlying t = some (.slice e)) (hxt : P.underlying xt = some (.int .i64)) (hi : P.info? e = some i) (hz : i.zero = some z)
    (hsize : i.size = size) (hby : i.bytes = bytes) (hzs : z.cells.size = size) (hsz : 0 < size) (hz1 : ∀ u ∈ z.cells.toList, u.oneCell' = true)
    (v : Value) (n : Nat) (xs : List Value) (hown : w.ownsRow base e size v n xs) (m : Nat) (hm : 0 < m) (h63 : n + m ≤ maxLen) (hbytes : (n + m) * bytes ≤ 140737488355328) (hbase : base ≤ w.heap.size) :
    ∃ g cap w', (Builtin.append_ #[t, xt] ty #[v, .int .i64 (m : Int)]).run P w = .ok (.slice (some ⟨g, 0, none⟩) (n + m) cap) w' ∧ w'.ownsRow base e size (.slice (some ⟨g, 0, none⟩) (n + m) cap) (n + m) (xs ++ zeL z.cells.toList m) ∧ w.grownBy w' v.ownBlock ∧ (v.ownBlock = some g ∨ g = w.heap.size) := by
  subst hsize
  subst hby
  have hsmall : n + m ≤ 9223372036854775807 := by simp only [maxLen] at h63; omega
  have hzp : 0 < z.cells.size := by omega
  have hZ := zero_cells z.cells hzp m
  have hZl : (zeL z.cells.toList m).length = m * i.size := by rw [zeL_len, Array.length_toList, hzs]
  have hwl : IntKind.i64.wrap (m : Int) = (m : Int) := IntWalk.i64_in _ (by omega)
  have hm0 : ¬ ((m : Int) < 0) := by omega
  have hmb : ¬ (281474976710656 < (m : Int) * (i.bytes : Int)) := by
    have h1 : m * i.bytes ≤ (n + m) * i.bytes := Nat.mul_le_mul_right _ (by omega)
    have h2 : ((m * i.bytes : Nat) : Int) = (m : Int) * (i.bytes : Int) := Int.natCast_mul _ _
    omega
  have hmz : ¬ (m = 0 ∨ i.size = 0) := by omega
  have hasi : ∀ W, (asIntOf (Value.int .i64 (m : Int))).run P W = .ok (.i64, (m : Int)) W := fun _ => rfl
  have hlen : (xs ++ zeL z.cells.toList m).length = (n + m) * i.size := by rw [List.length_append, hown.1, hZl, Nat.add_mul]
  have hmi : ¬ (m * i.size = 0) := by rw [Nat.mul_eq_zero]; exact hmz
  have grown : ∀ (old : Nat), old < n + m → ∀ (row : Option Nat),
      (w.drew.alloc (.cells (xs.toArray ++ Builtin.zeroCells z.cells m ++ Builtin.zeroCells z.cells (grownCap w (n + m) old e - (n + m))) e)).ownsRow base e i.size
        (.slice (some ⟨w.heap.size, 0, none⟩) (n + m) (grownCap w (n + m) old e)) (n + m) (xs ++ zeL z.cells.toList m) ∧
      w.grownBy (w.drew.alloc (.cells (xs.toArray ++ Builtin.zeroCells z.cells m ++ Builtin.zeroCells z.cells (grownCap w (n + m) old e - (n + m))) e)) row := by
    intro old ho row
    have hge := grownCap_ge w (n + m) old e
    have hcm : grownCap w (n + m) old e ≤ maxLen := grownCap_le_maxLen w (n + m) old e h63
    refine ⟨⟨hlen, .inr ⟨w.heap.size, _, _, rfl, hbase, Go.heap_alloc_new w.drew _, hge, hcm, ?_, ?_⟩⟩, ⟨rfl, rfl, rfl, by simp, fun k hk _ => (World.grownBy_alloc w.drew _ none).block k hk (by simp)⟩⟩
    · simp only [Array.size_append, List.size_toArray, size_zeroCells, hzs, hown.1, ← Nat.add_mul]
      congr 1
      omega
    · simp only [Array.toList_append, hZ]
      rw [← hlen]
      exact List.take_left
  rcases hown.2 with ⟨rfl, rfl⟩ | ⟨g, cap, cur, rfl, hbg, hg, hnc, hcm, hcs, htake⟩
  · have hx : xs = [] := List.eq_nil_of_length_eq_zero (by simpa using hown.1)
    subst hx
    have hgr := grown 0 (by omega) (Value.ownBlock (.slice none 0 0))
    refine ⟨w.heap.size, grownCap w (0 + m) 0 e, _, ?_, hgr.1, hgr.2, Or.inr rfl⟩
    have hn0 : ¬ (m = 0) := by omega
    have h63' : ¬ (9223372036854775807 < (m : Int)) := by omega
    have h48' : ¬ (281474976710656 < Builtin.nextslicecap m 0 * i.bytes) := by rw [nextslicecap_zero hm]; simp only [Nat.zero_add] at hbytes; omega
    simp [Builtin.append_, run_underlying ht, run_underlying hxt, sizeOf, typeInfo, zeroValue, hi, hz, Builtin.firstCells, hwl, hm0, hmb, hn0, h63', h48', hmi, Question.forced, newRow, grownCap, asInt, hasi]
  · by_cases hroom : n + m ≤ cap
    · have hfit : n * i.size + (zeL z.cells.toList m).length ≤ cur.size := by rw [hZl, hcs, ← Nat.add_mul]; exact Nat.mul_le_mul_right _ hroom
      have hone : ∀ u ∈ zeL z.cells.toList m, u.oneCell' = true := by
        clear hZ hZl hlen hfit grown hmb hwl hm0 hm hbytes h63 hsmall hroom hmz hmi hasi
        intro u hu
        induction m with
        | zero => cases hu
        | succ k ih =>
          rw [zeL, List.mem_append] at hu
          rcases hu with hu | hu
          · exact ih hu
          · exact hz1 u hu
      have hst := run_storeCells_at P g (n * i.size) e (zeL z.cells.toList m) 0 cur w hg (by simpa using hfit) hone
      simp only [Nat.add_zero] at hst
      refine ⟨g, cap, w.setRow g (cur.toList.take (n * i.size) ++ zeL z.cells.toList m ++ cur.toList.drop (n * i.size + (zeL z.cells.toList m).length)).toArray, ?_, ⟨hlen, .inr ⟨g, cap, _, rfl, hbg, setRow_heap w g cur _ e _ hg, hroom, hcm, ?_, ?_⟩⟩, ⟨rfl, rfl, rfl, by simp, fun k _ hk => setRow_other w g k _ (fun e => hk (by simp [Value.ownBlock, e]))⟩, Or.inl rfl⟩
      · simp [Builtin.append_, run_underlying ht, run_underlying hxt, sizeOf, typeInfo, zeroValue, hi, hz, hwl, hm0, hmb, hroom, hmi, Addr.add_lit, hZ, hst, asInt, hasi]
      · simp only [List.size_toArray, List.length_append, List.length_take, List.length_drop, Array.length_toList]
        omega
      · rw [htake, ← hlen]
        exact List.take_left
    · have holds : ∀ j u, xs[j]? = some u → w.cell? ((⟨g, 0, none⟩ : Addr).add j) = some u := hown.cells (g := g) rfl
      have hgr := grown cap (by omega) (Value.ownBlock (.slice (some ⟨g, 0, none⟩) n cap))
      refine ⟨w.heap.size, grownCap w (n + m) cap e, _, ?_, hgr.1, hgr.2, Or.inr rfl⟩
      have h63' : ¬ (9223372036854775807 < ((n : Int) + (m : Int))) := by omega
      have h48' : ¬ (281474976710656 < Builtin.nextslicecap (n + m) cap * i.bytes) := by
        have := growslice_fits (old := cap) (by omega) hbytes
        omega
      have hfo := run_firstCells_some (P := P) w.drew i.size n ⟨g, 0, none⟩ n cap xs hown.1 (by simpa using holds)
      simp [Builtin.append_, run_underlying ht, run_underlying hxt, sizeOf, typeInfo, zeroValue, hi, hz, hwl, hm0, hmb, hroom, h63', h48', hmi, Question.forced, hfo, newRow, grownCap, asInt, hasi]
/-- An append whose run is known, as an operation. -/
theorem wp_append_run {P : Program} {w w' : World} {o : Oper} {a : Act} {K : Act → World → Prop} {Q : Exit → Act → World → Prop} (s x : Operand) (t xt : TypeId) (ho : o.op = .call { callee := .builtin .append, args := #[s, x], argTypes := #[t, xt] }) {v u v' : Value} (hs : a.eval s = v) (hx : a.eval x = u) (hr : (Builtin.append_ #[t, xt] o.type #[v, u]).run P w = .ok v' w') (h : K (a.put o.dst v') w') : o.wp P a w K Q := by
  unfold Oper.wp execOp
  simp only [ho, resolve, invoke, builtin, Sem.run_bind, Sem.run_pure, Result.andThen_ok, List.map_toArray, List.map_cons, List.map_nil, hs, hx, hr]
  exact h
end Go.Proofs.YtaapkngpnlnjeaaGreatDoor
end
