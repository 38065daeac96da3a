/- Package area: quarters of a change with cells: contract. -/
import Derived.Test.YtnfjmmkokhncoaaGreatM12
import Derived.Test.YtnfjmmkokhncoaaGreatM05
namespace Go.Proofs.YtnfjmmkokhncoaaGreat
open Go.RowKit Go.Maps
set_option maxRecDepth 100000

def qq (r : R4) (n : Nat) (i : Nat) : R4 := if i = 0 then qR r n false false else if i = 1 then qR r n true false else if i = 2 then qR r n false true else qR r n true true
def lq (L : List (Int × Int)) (n : Nat) (i : Nat) : List (Int × Int) := qL L n (decide (i % 2 = 1)) (decide (2 ≤ i))
theorem lq_pl (L : List (Int × Int)) (n : Nat) (a b : Bool) : lq L n (pl a b) = qL L n a b := by
  unfold lq
  rw [(show decide (pl a b % 2 = 1) = a from (by cases a <;> cases b <;> decide)), (show decide (2 ≤ pl a b) = b from (by cases a <;> cases b <;> decide))]
theorem lq_snoc (M : List (Int × Int)) (x : Int × Int) (n i : Nat) (hi : i < 4) : lq (M ++ [x]) n i = if i = pl (qb n x.1) (qb n x.2) then lq M n i ++ [(x.1 % 2 ^ n, x.2 % 2 ^ n)] else lq M n i := by
  obtain ⟨a, b, rfl⟩ := pl_of hi
  rw [lq_pl, lq_pl, qL_snoc]
  simp only [pl_inj]
  cases qb n x.1 <;> cases qb n x.2 <;> cases a <;> cases b <;> simp
theorem lq_len (M : List (Int × Int)) (n i : Nat) : (lq M n i).length ≤ M.length := by
  unfold lq qL
  rw [List.length_map]
  exact List.length_filter_le _ _
theorem cell_pair8 (w : World) (x y : Int) (t : TypeId) : ∀ j u, [Value.int .i64 x, Value.int .i64 y][j]? = some u → (w.alloc (.cells #[.int .i64 x, .int .i64 y] t)).cell? ((⟨w.heap.size, 0, none⟩ : Addr).add j) = some u := fun j u hu => by
  match j, hu with
  | 0, hu => simp at hu; subst hu; simp [Addr.add]
  | 1, hu => simp at hu; subst hu; simp [Addr.add]
  | j + 2, hu => simp at hu
theorem OwG.mono {w : World} {B B' : Nat} {v : Value} {l : List (Int × Int)} (h : OwG w B v l) (hB : B' ≤ B) : OwG w B' v l := by
  refine ⟨h.1, ?_⟩
  rcases h.2 with h1 | ⟨g, cp, cur, hv, h0, r⟩
  · exact Or.inl h1
  · exact Or.inr ⟨g, cp, cur, hv, Nat.le_trans hB h0, r⟩
theorem Q4.to {w : World} {B : Nat} {v : Nat → Value} {l l' : Nat → List (Int × Int)} (h : Q4 w B v l) (e : ∀ i, i < 4 → l' i = l i) : Q4 w B v l' := ⟨fun i hi => by rw [e i hi]; exact h.own i hi, h.apart⟩
theorem Q4.keep {w w' : World} {B : Nat} {v : Nat → Value} {l : Nat → List (Int × Int)} (h : Q4 w B v l) (hk : ∀ b, B ≤ b → w'.heap[b]? = w.heap[b]?) : Q4 w' B v l := ⟨fun i hi => (h.own i hi).keep fun b hb => hk b (owG_block (h.own i hi) hb).1, h.apart⟩
theorem OwG.one {w : World} {B : Nat} {v : Value} {l : List (Int × Int)} (h : OwG w B v l) : v.oneCell' = true := by
  rcases h.2 with ⟨hv, _⟩ | ⟨g, cp, cur, hv, _⟩ <;> rw [hv] <;> rfl
theorem fourC_all {f : Value → Bool} (q : Nat → R4) {v : Nat → Value} (hf : ∀ k z, f (.int k z) = true) (h : ∀ i, i < 4 → f (v i) = true) : (fourC q v).all f = true := by
  simp [fourC, hf, h 0 (by decide), h 1 (by decide), h 2 (by decide), h 3 (by decide)]
theorem fourC_one (q : Nat → R4) {v : Nat → Value} (h : ∀ i, i < 4 → (v i).oneCell' = true) : (fourC q v).all (·.oneCell') = true := fourC_all q (fun _ _ => rfl) h
set_option maxHeartbeats 8000000 in
theorem quarters_any (r : R4) (n : Nat) (hn : n < 62) (L : List (Int × Int)) (hl : L.length ≤ 100000) (hL : LIn (n + 1) L) (a : Option Addr) (cp : Nat) (w : World) (hR : Rk8 w a L) : Calls Tryz.prog 72 #[.agg #[.int .i64 r.x, .int .i64 r.y, .int .i64 r.X, .int .i64 r.Y, .slice a L.length cp], .int .i64 ((n : Int) + 1)] w fun e w' => ∃ v : Nat → Value, e = .returned (.agg (fourC (qq r n) v)) ∧ Q4 w' w.heap.size v (lq L n) ∧ Below w.heap.size w w' := by
  have h00 := fun W => quarter8_any r n hn false false W
  have h10 := fun W => quarter8_any r n hn true false W
  have h01 := fun W => quarter8_any r n hn false true W
  have h11 := fun W => quarter8_any r n hn true true W
  rw [show ((pl false false : Nat) : Int) = 0 from rfl] at h00
  rw [show ((pl true false : Nat) : Int) = 1 from rfl] at h10
  rw [show ((pl false true : Nat) : Int) = 2 from rfl] at h01
  rw [show ((pl true true : Nat) : Int) = 3 from rfl] at h11
  have H00 := Lib.hid h00
  have H10 := Lib.hid h10
  have H01 := Lib.hid h01
  have H11 := Lib.hid h11
  clear h00 h10 h01 h11
  have HQQ : Hid (qq r n = fun i => if i = 0 then qR r n false false else if i = 1 then qR r n true false else if i = 2 then qR r n false true else qR r n true true) := rfl
  generalize qq r n = Q at *
  generalize qR r n false false = q00 at *
  generalize qR r n true false = q10 at *
  generalize qR r n false true = q01 at *
  generalize qR r n true true = q11 at *
  have HR := Lib.hid hR
  have HLI := Lib.hid hL
  have HLL := Lib.hid hl
  clear hR hL hl
  have HSD := Lib.hid (side8_any n (by omega))
  have hp := pow_pos2 n
  have hp2 := pow_62 (show n ≤ 62 by omega)
  have HCH : Hid (∀ o1 o2, (((w.alloc (.cells #[.int .i64 r.x, .int .i64 r.y, .int .i64 r.X, .int .i64 r.Y, .slice a L.length cp] 92)).alloc o1).alloc o2).heap[w.heap.size]? = some (chO r (.slice a L.length cp))) := fun o1 o2 => keep8 (keep8 (heap_alloc_new w _) (bel1 _ _)) (bel1 _ _)
  go_enter Tryz.func72, Tryz.ntmps72
  go_wp2_with fail
  go_loopg [6, 12] 4 (fun m v6 cnt wr => ∃ j : Nat, m = 4 - j ∧ j ≤ 4 ∧ cnt = .int .i64 (j : Int) ∧ Below w.heap.size w wr ∧ wr.heap[w.heap.size]? = some (chO r (.slice a L.length cp)) ∧ F20 wr (w.heap.size + 1) r0 r0 r0 r0 ∧ F20 wr (w.heap.size + 1 + 1) (if 0 < j then q00 else r0) (if 1 < j then q10 else r0) (if 2 < j then q01 else r0) (if 3 < j then q11 else r0))
  case atStart =>
    refine ⟨0, rfl, by omega, rfl, by go_grown, HCH.out _ _, ?_, ?_⟩
    · have := (F20.new (w.alloc (.cells #[.int .i64 r.x, .int .i64 r.y, .int .i64 r.X, .int .i64 r.Y, .slice a L.length cp] 92))).later (bel1 _ (.cells #[.int .i64 0, .int .i64 0, .int .i64 0, .int .i64 0, .slice none 0 0, .int .i64 0, .int .i64 0, .int .i64 0, .int .i64 0, .slice none 0 0, .int .i64 0, .int .i64 0, .int .i64 0, .int .i64 0, .slice none 0 0, .int .i64 0, .int .i64 0, .int .i64 0, .int .i64 0, .slice none 0 0] 138))
      simpa using this
    · have := F20.new ((w.alloc (.cells #[.int .i64 r.x, .int .i64 r.y, .int .i64 r.X, .int .i64 r.Y, .slice a L.length cp] 92)).alloc (.cells #[.int .i64 0, .int .i64 0, .int .i64 0, .int .i64 0, .slice none 0 0, .int .i64 0, .int .i64 0, .int .i64 0, .int .i64 0, .slice none 0 0, .int .i64 0, .int .i64 0, .int .i64 0, .int .i64 0, .slice none 0 0, .int .i64 0, .int .i64 0, .int .i64 0, .int .i64 0, .slice none 0 0] 138))
      simpa using this
  case round =>
    obtain ⟨j, hm, hj, rfl, hb, hc, h4, h5⟩ := hrel
    have HM := Lib.hid hm
    have HB := Lib.hid hb
    have HC := Lib.hid hc
    have H4 := Lib.hid h4
    obtain ⟨c0, c1, c2, c3, c4⟩ := ch_cells hc
    clear hm hb hc h4
    have hcases : j = 0 ∨ j = 1 ∨ j = 2 ∨ j = 3 ∨ j = 4 := by omega
    rcases hcases with rfl | rfl | rfl | rfl | rfl
    · have H5 : Hid (F20 wr (w.heap.size + 1 + 1) r0 r0 r0 r0) := h5
      clear h5
      go_wp2_with fail
      refine (H00.out _).mono ?_
      rintro e w1 ⟨rfl, hb⟩
      have H6 := Lib.hid (H5.out.later hb)
      have HB6 := Lib.hid (HB.out.trans (hb.mono HB.out.size))
      have HC6 := Lib.hid (keep8 HC.out hb)
      have H46 := Lib.hid (H4.out.later hb)
      clear hb c0 c1 c2 c3 c4
      have e0 := H6.out.c 0
      have e1 := H6.out.c 1
      have e2 := H6.out.c 2
      have e3 := H6.out.c 3
      simp only [List.getElem?_toArray, List.getElem?_cons_zero, List.getElem?_cons_succ] at e0 e1 e2 e3
      have f0 := H6.out.f 0
      have f1 := H6.out.f 1
      have f2 := H6.out.f 2
      have f3 := H6.out.f 3
      go_wp2_with fail
      go_roundg (4 - (0 + 1))
      case measure => rw [HM.out]; omega
      case rel =>
        refine ⟨1, rfl, by omega, by go_num, (((HB6.out.setCell (p := ⟨w.heap.size + 1 + 1, 0, none⟩) (by show _ ≤ w.heap.size + 1 + 1; omega) _).setCell (p := ⟨w.heap.size + 1 + 1, 1, none⟩) (by show _ ≤ w.heap.size + 1 + 1; omega) _).setCell (p := ⟨w.heap.size + 1 + 1, 2, none⟩) (by show _ ≤ w.heap.size + 1 + 1; omega) _).setCell (p := ⟨w.heap.size + 1 + 1, 3, none⟩) (by show _ ≤ w.heap.size + 1 + 1; omega) _, ?_, ⟨?_⟩, H6.out.put0 q00⟩
        · rw [Below.heap_setCell _ _ _ _ (by show w.heap.size ≠ w.heap.size + 1 + 1; omega), Below.heap_setCell _ _ _ _ (by show w.heap.size ≠ w.heap.size + 1 + 1; omega), Below.heap_setCell _ _ _ _ (by show w.heap.size ≠ w.heap.size + 1 + 1; omega), Below.heap_setCell _ _ _ _ (by show w.heap.size ≠ w.heap.size + 1 + 1; omega)]
          exact HC6.out
        · rw [Below.heap_setCell _ _ _ _ (by show w.heap.size + 1 ≠ w.heap.size + 1 + 1; omega), Below.heap_setCell _ _ _ _ (by show w.heap.size + 1 ≠ w.heap.size + 1 + 1; omega), Below.heap_setCell _ _ _ _ (by show w.heap.size + 1 ≠ w.heap.size + 1 + 1; omega), Below.heap_setCell _ _ _ _ (by show w.heap.size + 1 ≠ w.heap.size + 1 + 1; omega)]
          exact H46.out.at_
    · have H5 : Hid (F20 wr (w.heap.size + 1 + 1) q00 r0 r0 r0) := h5
      clear h5
      go_wp2_with fail
      refine (H10.out _).mono ?_
      rintro e w1 ⟨rfl, hb⟩
      have H6 := Lib.hid (H5.out.later hb)
      have HB6 := Lib.hid (HB.out.trans (hb.mono HB.out.size))
      have HC6 := Lib.hid (keep8 HC.out hb)
      have H46 := Lib.hid (H4.out.later hb)
      clear hb c0 c1 c2 c3 c4
      have e0 := H6.out.c 5
      have e1 := H6.out.c 6
      have e2 := H6.out.c 7
      have e3 := H6.out.c 8
      simp only [List.getElem?_toArray, List.getElem?_cons_zero, List.getElem?_cons_succ] at e0 e1 e2 e3
      have f0 := H6.out.f 5
      have f1 := H6.out.f 6
      have f2 := H6.out.f 7
      have f3 := H6.out.f 8
      go_wp2_with fail
      go_roundg (4 - (1 + 1))
      case measure => rw [HM.out]; omega
      case rel =>
        refine ⟨2, rfl, by omega, by go_num, (((HB6.out.setCell (p := ⟨w.heap.size + 1 + 1, 5, none⟩) (by show _ ≤ w.heap.size + 1 + 1; omega) _).setCell (p := ⟨w.heap.size + 1 + 1, 6, none⟩) (by show _ ≤ w.heap.size + 1 + 1; omega) _).setCell (p := ⟨w.heap.size + 1 + 1, 7, none⟩) (by show _ ≤ w.heap.size + 1 + 1; omega) _).setCell (p := ⟨w.heap.size + 1 + 1, 8, none⟩) (by show _ ≤ w.heap.size + 1 + 1; omega) _, ?_, ⟨?_⟩, H6.out.put1 q10⟩
        · rw [Below.heap_setCell _ _ _ _ (by show w.heap.size ≠ w.heap.size + 1 + 1; omega), Below.heap_setCell _ _ _ _ (by show w.heap.size ≠ w.heap.size + 1 + 1; omega), Below.heap_setCell _ _ _ _ (by show w.heap.size ≠ w.heap.size + 1 + 1; omega), Below.heap_setCell _ _ _ _ (by show w.heap.size ≠ w.heap.size + 1 + 1; omega)]
          exact HC6.out
        · rw [Below.heap_setCell _ _ _ _ (by show w.heap.size + 1 ≠ w.heap.size + 1 + 1; omega), Below.heap_setCell _ _ _ _ (by show w.heap.size + 1 ≠ w.heap.size + 1 + 1; omega), Below.heap_setCell _ _ _ _ (by show w.heap.size + 1 ≠ w.heap.size + 1 + 1; omega), Below.heap_setCell _ _ _ _ (by show w.heap.size + 1 ≠ w.heap.size + 1 + 1; omega)]
          exact H46.out.at_
    · have H5 : Hid (F20 wr (w.heap.size + 1 + 1) q00 q10 r0 r0) := h5
      clear h5
      go_wp2_with fail
      refine (H01.out _).mono ?_
      rintro e w1 ⟨rfl, hb⟩
      have H6 := Lib.hid (H5.out.later hb)
      have HB6 := Lib.hid (HB.out.trans (hb.mono HB.out.size))
      have HC6 := Lib.hid (keep8 HC.out hb)
      have H46 := Lib.hid (H4.out.later hb)
      clear hb c0 c1 c2 c3 c4
      have e0 := H6.out.c 10
      have e1 := H6.out.c 11
      have e2 := H6.out.c 12
      have e3 := H6.out.c 13
      simp only [List.getElem?_toArray, List.getElem?_cons_zero, List.getElem?_cons_succ] at e0 e1 e2 e3
      have f0 := H6.out.f 10
      have f1 := H6.out.f 11
      have f2 := H6.out.f 12
      have f3 := H6.out.f 13
      go_wp2_with fail
      go_roundg (4 - (2 + 1))
      case measure => rw [HM.out]; omega
      case rel =>
        refine ⟨3, rfl, by omega, by go_num, (((HB6.out.setCell (p := ⟨w.heap.size + 1 + 1, 10, none⟩) (by show _ ≤ w.heap.size + 1 + 1; omega) _).setCell (p := ⟨w.heap.size + 1 + 1, 11, none⟩) (by show _ ≤ w.heap.size + 1 + 1; omega) _).setCell (p := ⟨w.heap.size + 1 + 1, 12, none⟩) (by show _ ≤ w.heap.size + 1 + 1; omega) _).setCell (p := ⟨w.heap.size + 1 + 1, 13, none⟩) (by show _ ≤ w.heap.size + 1 + 1; omega) _, ?_, ⟨?_⟩, H6.out.put2 q01⟩
        · rw [Below.heap_setCell _ _ _ _ (by show w.heap.size ≠ w.heap.size + 1 + 1; omega), Below.heap_setCell _ _ _ _ (by show w.heap.size ≠ w.heap.size + 1 + 1; omega), Below.heap_setCell _ _ _ _ (by show w.heap.size ≠ w.heap.size + 1 + 1; omega), Below.heap_setCell _ _ _ _ (by show w.heap.size ≠ w.heap.size + 1 + 1; omega)]
          exact HC6.out
        · rw [Below.heap_setCell _ _ _ _ (by show w.heap.size + 1 ≠ w.heap.size + 1 + 1; omega), Below.heap_setCell _ _ _ _ (by show w.heap.size + 1 ≠ w.heap.size + 1 + 1; omega), Below.heap_setCell _ _ _ _ (by show w.heap.size + 1 ≠ w.heap.size + 1 + 1; omega), Below.heap_setCell _ _ _ _ (by show w.heap.size + 1 ≠ w.heap.size + 1 + 1; omega)]
          exact H46.out.at_
    · have H5 : Hid (F20 wr (w.heap.size + 1 + 1) q00 q10 q01 r0) := h5
      clear h5
      go_wp2_with fail
      refine (H11.out _).mono ?_
      rintro e w1 ⟨rfl, hb⟩
      have H6 := Lib.hid (H5.out.later hb)
      have HB6 := Lib.hid (HB.out.trans (hb.mono HB.out.size))
      have HC6 := Lib.hid (keep8 HC.out hb)
      have H46 := Lib.hid (H4.out.later hb)
      clear hb c0 c1 c2 c3 c4
      have e0 := H6.out.c 15
      have e1 := H6.out.c 16
      have e2 := H6.out.c 17
      have e3 := H6.out.c 18
      simp only [List.getElem?_toArray, List.getElem?_cons_zero, List.getElem?_cons_succ] at e0 e1 e2 e3
      have f0 := H6.out.f 15
      have f1 := H6.out.f 16
      have f2 := H6.out.f 17
      have f3 := H6.out.f 18
      go_wp2_with fail
      go_roundg (4 - (3 + 1))
      case measure => rw [HM.out]; omega
      case rel =>
        refine ⟨4, rfl, by omega, by go_num, (((HB6.out.setCell (p := ⟨w.heap.size + 1 + 1, 15, none⟩) (by show _ ≤ w.heap.size + 1 + 1; omega) _).setCell (p := ⟨w.heap.size + 1 + 1, 16, none⟩) (by show _ ≤ w.heap.size + 1 + 1; omega) _).setCell (p := ⟨w.heap.size + 1 + 1, 17, none⟩) (by show _ ≤ w.heap.size + 1 + 1; omega) _).setCell (p := ⟨w.heap.size + 1 + 1, 18, none⟩) (by show _ ≤ w.heap.size + 1 + 1; omega) _, ?_, ⟨?_⟩, H6.out.put3 q11⟩
        · rw [Below.heap_setCell _ _ _ _ (by show w.heap.size ≠ w.heap.size + 1 + 1; omega), Below.heap_setCell _ _ _ _ (by show w.heap.size ≠ w.heap.size + 1 + 1; omega), Below.heap_setCell _ _ _ _ (by show w.heap.size ≠ w.heap.size + 1 + 1; omega), Below.heap_setCell _ _ _ _ (by show w.heap.size ≠ w.heap.size + 1 + 1; omega)]
          exact HC6.out
        · rw [Below.heap_setCell _ _ _ _ (by show w.heap.size + 1 ≠ w.heap.size + 1 + 1; omega), Below.heap_setCell _ _ _ _ (by show w.heap.size + 1 ≠ w.heap.size + 1 + 1; omega), Below.heap_setCell _ _ _ _ (by show w.heap.size + 1 ≠ w.heap.size + 1 + 1; omega), Below.heap_setCell _ _ _ _ (by show w.heap.size + 1 ≠ w.heap.size + 1 + 1; omega)]
          exact H46.out.at_
    · have H5 : Hid (F20 wr (w.heap.size + 1 + 1) q00 q10 q01 q11) := h5
      clear h5
      have hw1 : IntKind.i64.wrap (n : Int) = (n : Int) := IntWalk.i64_in _ (by omega)
      go_wp2_with fail
      refine (HSD.out _).mono ?_
      rintro e w1 ⟨rfl, hw1⟩
      rw [← hw1]
      clear hw1
      have hw2 : IntKind.i64.wrap (2 ^ n - 1) = (2 : Int) ^ n - 1 := IntWalk.i64_in _ (by omega)
      have HQ20 : Hid (G20 wr (w.heap.size + 1 + 1) Q (fun _ => .slice none 0 0)) := by
        show _ = _
        rw [H5.out.at_]
        show some (fourO q00 q10 q01 q11) = some (.cells (fourC Q _) _ _)
        rw [HQQ.out]; rfl
      obtain ⟨c0, c1, c2, c3, c4⟩ := ch_cells HC.out
      clear H5
      obtain ⟨i0, hi0, hz0, hz1, hz2⟩ := infoP8
      have HI := Lib.hid hi0
      have HI0 := Lib.hid hz0
      have HI1 := Lib.hid hz1
      have HI2 := Lib.hid hz2
      clear hi0 hz0 hz1 hz2
      obtain ⟨m0, hm0⟩ : ∃ m0, m0 = L.length := ⟨_, rfl⟩
      have HM0 := Lib.hid hm0
      have hm1 : m0 ≤ 100000 := by have := HLL.out; omega
      have HC0 := Lib.hid HC.out
      clear hm0
      go_wp2_with fail
      go_loopg [10, 11, 33] m0 (fun m v10 v11 cnt wz => ∃ (j : Nat) (v : Nat → Value), m = m0 - j ∧ j ≤ m0 ∧ cnt = .int .i64 (j : Int) ∧ Below w.heap.size w wz ∧ F20 wz (w.heap.size + 1) r0 r0 r0 r0 ∧ G20 wz (w.heap.size + 1 + 1) Q v ∧ Q4 wz (w.heap.size + 1 + 1 + 1) v (lq (L.take j) n))
      case atStart =>
        refine ⟨0, fun _ => .slice none 0 0, rfl, Nat.zero_le _, rfl, HB.out, H4.out, HQ20.out, fun i hi => OwG.nil _ _, fun i k b hi hk h1 h2 => by cases h1⟩
      case round =>
        clear HQ20 HB HC HC0 H4 c0 c1 c2 c3 c4
        obtain ⟨j, v, hm, hj, rfl, hb, h4, h5, h6⟩ := hrel
        have HM2 := Lib.hid hm
        have HB := Lib.hid hb
        have H4 := Lib.hid h4
        have H5 := Lib.hid h5
        have H6 := Lib.hid h6
        clear hm hb h4 h5 h6
        by_cases hlt : j < m0
        · obtain ⟨d, hd⟩ : ∃ d, L[j]? = some d := ⟨L[j]'(by have := HM0.out; omega), List.getElem?_eq_getElem _⟩
          obtain ⟨bk, off, rfl, x0, x1⟩ := (HR.out.later HB.out) j d hd
          obtain ⟨hd1, hd2⟩ := HLI.out d (List.mem_of_getElem? hd)
          have HTK : Hid (L.take (j + 1) = L.take j ++ [d]) := by
            show _ = _
            rw [List.take_add_one, hd]; rfl
          have hg : decide (j < L.length) = true := by have := HM0.out; simp; omega
          have hi0 : (0 : Int) ≤ (j : Int) := by omega
          have hi1 : (j : Int) < (L.length : Int) := by have := HM0.out; omega
          have hbl := bel1 wr (.cells #[.int .i64 d.1, .int .i64 d.2] 24)
          have hd0 : (wr.alloc (.cells #[.int .i64 d.1, .int .i64 d.2] 24)).heap[wr.heap.size]? = some (ptO d.1 d.2) := heap_alloc_new wr _
          have HD := Lib.hid hd0
          have HB2 := Lib.hid (HB.out.trans (hbl.mono HB.out.size))
          have H42 := Lib.hid (H4.out.later hbl)
          have H52 : Hid (G20 (wr.alloc (.cells #[.int .i64 d.1, .int .i64 d.2] 24)) (w.heap.size + 1 + 1) Q v) := keep8 H5.out hbl
          have H62 := Lib.hid (H6.out.later hbl)
          have hpb : w.heap.size + 1 + 1 < wr.heap.size := (Array.getElem?_eq_some_iff.1 H5.out).1
          have hp2n := pow_two2 n
          have a1 : bits .and .i64 (d.1 / 2 ^ n) 1 = ((if qb n d.1 then 1 else 0 : Nat) : Int) := by rw [and_one7, bit_qb]
          have a2 : bits .and .i64 (d.2 / 2 ^ n) 1 = ((if qb n d.2 then 1 else 0 : Nat) : Int) := by rw [and_one7, bit_qb]
          have a3 := and_mask8 d.1 n (by omega) hd1.1 (by omega)
          have a4 := and_mask8 d.2 n (by omega) hd2.1 (by omega)
          have q1 : (if qb n d.1 then 1 else 0 : Nat) ≤ 1 := by split <;> omega
          have q2 : (if qb n d.2 then 1 else 0 : Nat) ≤ 1 := by split <;> omega
          have HS : Hid ((if qb n d.1 then 1 else 0 : Nat) + 2 * (if qb n d.2 then 1 else 0 : Nat) = pl (qb n d.1) (qb n d.2)) := rfl
          generalize (if qb n d.1 then 1 else 0 : Nat) = p1 at *
          generalize (if qb n d.2 then 1 else 0 : Nat) = p2 at *
          clear hbl hd0 hd
          go_upto_region 11 with fail
          clear x0 x1
          generalize wr.alloc (.cells #[.int .i64 d.1, .int .i64 d.2] 24) = w2 at *
          generalize wr.heap.size = pb at *
          obtain ⟨b0, b1⟩ := pt_cells HD.out
          have hw1 : IntKind.i64.wrap ((p2 : Int) * 2) = (p2 : Int) * 2 := IntWalk.i64_in _ (by omega)
          have hw2 : IntKind.i64.wrap ((p1 : Int) + (p2 : Int) * 2) = (p1 : Int) + (p2 : Int) * 2 := IntWalk.i64_in _ (by omega)
          go_quiet (fail)
          go_upto_region 12 with fail
          have HB3 : Hid (Below w.heap.size w (w2.drewN nq)) := below_drewN HB2.out nq
          have H43 : Hid (F20 (w2.drewN nq) (w.heap.size + 1) r0 r0 r0 r0) := ⟨H42.out.at_⟩
          have H53 : Hid (G20 (w2.drewN nq) (w.heap.size + 1 + 1) Q v) := H52.out
          have H63 : Hid (Q4 (w2.drewN nq) (w.heap.size + 1 + 1 + 1) v (lq (L.take j) n)) := ⟨H62.out.own, H62.out.apart⟩
          have HD3 : Hid ((w2.drewN nq).heap[pb]? = some (ptO d.1 d.2)) := HD.out
          clear HB2 H42 H52 H62 HD b0 b1
          generalize w2.drewN nq = w3 at *
          generalize hSS : (p1 : Int) + (p2 : Int) * 2 = SS at *
          obtain ⟨s, hs⟩ : ∃ s, s = pl (qb n d.1) (qb n d.2) := ⟨_, rfl⟩
          have hs4 : s < 4 := by rw [hs]; exact pl_lt _ _
          obtain rfl : SS = (s : Int) := by have := HS.out; rw [← hs] at this; omega
          have HSE := Lib.hid hs
          clear hs hSS hw1 hw2 HS a1 a2
          have j1 : (0 : Int) ≤ (s : Int) := by omega
          have j2 : (s : Int) < 4 := by omega
          have hln : (lq (L.take j) n s).length ≤ 100000 := by
            have h1 := lq_len (L.take j) n s
            rw [List.length_take] at h1
            have := HLL.out
            omega
          obtain ⟨X1, hX1⟩ : ∃ X1, X1 = d.1 % 2 ^ n := ⟨_, rfl⟩
          obtain ⟨Y1, hY1⟩ : ∃ Y1, Y1 = d.2 % 2 ^ n := ⟨_, rfl⟩
          rw [← hX1] at a3
          rw [← hY1] at a4
          have HXY := Lib.hid (And.intro hX1 hY1)
          clear hX1 hY1
          refine region_sq 15 (fun W => Below w3.heap.size w3 W) [(0, 1), (1, 1), (2, 1), (3, 1), (4, 2), (5, 1), (6, 2), (7, 1), (8, 1), (9, 1), (10, 2), (11, 1), (12, 1), (13, 1), (14, 0), (15, 3), (16, 1), (17, 1), (18, 3)] (by kernel_rfl) (by kernel_rfl) rfl (by intro c a d v w h; cases d <;> exact h) (by kernel_rfl) (below_drewN (Below.refl _ w3) 1) ?_
          refine ⟨_, ?_, rfl, by rfl, ?_, ?_⟩
          rotate_left
          · intro W; go_simp; first | done | rfl
          conv => arg 6; simp only [Act.put, List.setIfInBounds_toArray, List.set_cons_zero, List.set_cons_succ]
          refine ⟨_, ?_, rfl, by rfl, ?_, ?_⟩
          rotate_left
          · intro W; go_simp; first | done | rfl
          conv => arg 6; simp only [Act.put, List.setIfInBounds_toArray, List.set_cons_zero, List.set_cons_succ]
          refine ⟨_, ?_, rfl, by rfl, ?_, ?_⟩
          rotate_left
          · intro W; go_simp; first | done | rfl
          conv => arg 6; simp only [Act.put, List.setIfInBounds_toArray, List.set_cons_zero, List.set_cons_succ]
          refine ⟨_, ?_, rfl, by rfl, ?_, ?_⟩
          rotate_left
          · intro W; go_simp; first | done | rfl
          conv => arg 6; simp only [Act.put, List.setIfInBounds_toArray, List.set_cons_zero, List.set_cons_succ]
          refine ⟨_, ?_, rfl, by rfl, ?_, ?_⟩
          rotate_left
          · intro W hW
            have y := G20.sl (keep8 H53.out hW : G20 W (w.heap.size + 1 + 1) Q v) hs4
            obtain ⟨y0, y1⟩ := y
            have yd := pt_cells (keep8 HD3.out hW)
            obtain ⟨yd0, yd1⟩ := yd
            go_simp; first | done | rfl
          conv => arg 6; simp only [Act.put, List.setIfInBounds_toArray, List.set_cons_zero, List.set_cons_succ]
          refine ⟨_, ?_, rfl, by rfl, ?_, ?_⟩
          rotate_left
          · intro W; go_simp; first | done | rfl
          conv => arg 6; simp only [Act.put, List.setIfInBounds_toArray, List.set_cons_zero, List.set_cons_succ]
          refine ⟨_, ?_, rfl, by rfl, ?_, ?_⟩
          rotate_left
          · intro W hW
            have y := G20.sl (keep8 H53.out hW : G20 W (w.heap.size + 1 + 1) Q v) hs4
            obtain ⟨y0, y1⟩ := y
            have yd := pt_cells (keep8 HD3.out hW)
            obtain ⟨yd0, yd1⟩ := yd
            go_simp; first | done | rfl
          conv => arg 6; simp only [Act.put, List.setIfInBounds_toArray, List.set_cons_zero, List.set_cons_succ]
          refine ⟨_, ?_, rfl, by rfl, ?_, ?_⟩
          rotate_left
          · intro W; go_simp; first | done | rfl
          conv => arg 6; simp only [Act.put, List.setIfInBounds_toArray, List.set_cons_zero, List.set_cons_succ]
          refine ⟨_, ?_, rfl, by rfl, ?_, ?_⟩
          rotate_left
          · intro W; go_simp; first | done | rfl
          conv => arg 6; simp only [Act.put, List.setIfInBounds_toArray, List.set_cons_zero, List.set_cons_succ]
          refine ⟨_, ?_, rfl, by rfl, ?_, ?_⟩
          rotate_left
          · intro W; go_simp; first | done | rfl
          conv => arg 6; simp only [Act.put, List.setIfInBounds_toArray, List.set_cons_zero, List.set_cons_succ]
          refine ⟨_, ?_, rfl, by rfl, ?_, ?_⟩
          rotate_left
          · intro W hW
            have y := G20.sl (keep8 H53.out hW : G20 W (w.heap.size + 1 + 1) Q v) hs4
            obtain ⟨y0, y1⟩ := y
            have yd := pt_cells (keep8 HD3.out hW)
            obtain ⟨yd0, yd1⟩ := yd
            go_simp; first | done | rfl
          conv => arg 6; simp only [Act.put, List.setIfInBounds_toArray, List.set_cons_zero, List.set_cons_succ]
          refine ⟨_, ?_, rfl, by rfl, ?_, ?_⟩
          rotate_left
          · intro W; go_simp; first | done | rfl
          conv => arg 6; simp only [Act.put, List.setIfInBounds_toArray, List.set_cons_zero, List.set_cons_succ]
          refine ⟨_, ?_, rfl, by rfl, ?_, ?_⟩
          rotate_left
          · intro W; go_simp; first | done | rfl
          conv => arg 6; simp only [Act.put, List.setIfInBounds_toArray, List.set_cons_zero, List.set_cons_succ]
          refine ⟨_, ?_, rfl, by rfl, ?_, ?_⟩
          rotate_left
          · intro W; go_simp; first | done | rfl
          conv => arg 6; simp only [Act.put, List.setIfInBounds_toArray, List.set_cons_zero, List.set_cons_succ]
          refine ⟨_, rfl, by rfl, fun K hK => ?_⟩
          go_simp
          have HBX : Hid (Below w3.heap.size w3 (w3.alloc (.cells #[.int .i64 X1, .int .i64 Y1] 24)).drew) := below_drewN (bel1 w3 _) 1
          have HCP : Hid (∀ j u, [Value.int .i64 X1, Value.int .i64 Y1][j]? = some u → (w3.alloc (.cells #[.int .i64 X1, .int .i64 Y1] 24)).drew.cell? ((⟨w3.heap.size, 0, none⟩ : Addr).add j) = some u) := cell_pair8 w3 X1 Y1 _
          refine hK _ _ HBX.out ?_
          clear hK K
          have hszX : w3.heap.size < (w3.alloc (.cells #[.int .i64 X1, .int .i64 Y1] 24)).drew.heap.size := by show _ < (w3.alloc _).heap.size; simp
          have H64 := Lib.hid (H63.out.later HBX.out)
          have H54 : Hid (G20 _ (w.heap.size + 1 + 1) Q v) := keep8 H53.out HBX.out
          have H44 := Lib.hid (H43.out.later HBX.out)
          have HB4 := Lib.hid (HB3.out.trans (HBX.out.mono HB3.out.size))
          have hroom : w.heap.size + 1 + 1 < w3.heap.size := (Array.getElem?_eq_some_iff.1 H53.out).1
          generalize (w3.alloc (.cells #[.int .i64 X1, .int .i64 Y1] 24)).drew = w4 at *
          generalize w3.heap.size = nb at *
          conv => arg 6; simp only [Act.put, List.setIfInBounds_toArray, List.set_cons_zero, List.set_cons_succ]
          refine ⟨_, rfl, by rfl, fun K hK => ?_⟩
          refine wp_append_lies _ _ _ 36 (by rfl) (w.heap.size + 1 + 1 + 1) 24 i0 (.agg #[.int .i64 0, .int .i64 0]) 2 16 Tryz.underlying36 HI.out HI0.out HI1.out HI2.out rfl (by decide) _ _ _ (by rfl) (H64.out.own s hs4) ⟨nb, 0, none⟩ 1 1 [.int .i64 X1, .int .i64 Y1] (by rfl) rfl HCP.out (by intro u hu; simp at hu; rcases hu with rfl | rfl <;> rfl) (by decide) (by unfold maxLen; omega) (by omega) (by omega) _ rfl ?_
          intro g9 cap9 W7 hown hgrow hat hlt9
          have HQ7 := Lib.hid (H64.out.add hs4 (X1, Y1) hown hgrow hat)
          have hrow : ∀ k, (v s).ownBlock = some k → w.heap.size + 1 + 1 + 1 ≤ k := fun k hk => (owG_block (H64.out.own s hs4) hk).1
          have HB7 := Lib.hid (HB4.out.grown hgrow (by omega) (fun k hk => by have := hrow k hk; omega))
          have H47 : Hid (F20 W7 (w.heap.size + 1) r0 r0 r0 r0) := ⟨by rw [hgrow.block _ (by omega) (fun e => by have := hrow _ e.symm; omega)]; exact H44.out.at_⟩
          have H57 : Hid (G20 W7 (w.heap.size + 1 + 1) Q v) := by
            show W7.heap[_]? = _
            rw [hgrow.block _ (by omega) (fun e => by have := hrow _ e.symm; omega)]; exact H54.out
          refine hK _ _ ?_
          clear hK K hgrow hown hat hrow
          obtain ⟨y0, y1⟩ := G20.sl H57.out hs4
          conv => arg 6; simp only [Act.put, List.setIfInBounds_toArray, List.set_cons_zero, List.set_cons_succ]
          refine ⟨_, ?_, rfl, by rfl, ?_, ?_⟩
          rotate_left
          · intro W; go_simp; first | done | rfl
          conv => arg 6; simp only [Act.put, List.setIfInBounds_toArray, List.set_cons_zero, List.set_cons_succ]
          refine ⟨_, ?_, rfl, by rfl, ?_, ?_⟩
          rotate_left
          · intro W; go_simp; first | done | rfl
          conv => arg 6; simp only [Act.put, List.setIfInBounds_toArray, List.set_cons_zero, List.set_cons_succ]
          refine ⟨_, rfl, by rfl, fun K hK => ?_⟩
          go_simp
          refine hK _ _ ?_
          clear hK K
          have HB8 := Lib.hid (HB7.out.setCell (p := ⟨w.heap.size + 1 + 1, s * 5 + 4, none⟩) (by show _ ≤ w.heap.size + 1 + 1; omega) (.slice (some ⟨g9, 0, none⟩) ((lq (L.take j) n s).length + 1) cap9))
          have H48 : Hid (F20 (W7.setCell ⟨w.heap.size + 1 + 1, s * 5 + 4, none⟩ (.slice (some ⟨g9, 0, none⟩) ((lq (L.take j) n s).length + 1) cap9)) (w.heap.size + 1) r0 r0 r0 r0) := ⟨by rw [Below.heap_setCell _ _ _ _ (by show w.heap.size + 1 ≠ w.heap.size + 1 + 1; omega)]; exact H47.out.at_⟩
          have H58 := Lib.hid (H57.out.put hs4 (.slice (some ⟨g9, 0, none⟩) ((lq (L.take j) n s).length + 1) cap9))
          have H68 : Hid (Q4 (W7.setCell ⟨w.heap.size + 1 + 1, s * 5 + 4, none⟩ (.slice (some ⟨g9, 0, none⟩) ((lq (L.take j) n s).length + 1) cap9)) (w.heap.size + 1 + 1 + 1) (fun i => if i = s then .slice (some ⟨g9, 0, none⟩) ((lq (L.take j) n s).length + 1) cap9 else v i) (lq (L.take (j + 1)) n)) :=
            (HQ7.out.keep fun b hb => Below.heap_setCell _ _ _ _ (by show b ≠ w.heap.size + 1 + 1; omega)).to fun i hi => by
              rw [HTK.out, lq_snoc _ _ _ _ hi, ← HSE.out, ← HXY.out.1, ← HXY.out.2]
              by_cases e : i = s
              · simp only [e, if_true]
              · simp only [if_neg e]
          conv => arg 6; simp only [Act.put, List.setIfInBounds_toArray, List.set_cons_zero, List.set_cons_succ]
          unfold wpSq
          go_wp2_with fail
          go_roundg (m0 - (j + 1))
          case measure => rw [HM2.out]; omega
          case rel =>
            exact ⟨j + 1, _, rfl, hlt, by go_num, HB8.out, H48.out, H58.out, H68.out⟩
        · obtain rfl : j = m0 := by omega
          have hg : decide (j < L.length) = false := by have := HM0.out; simp; omega
          rw [show L.take j = L by rw [List.take_of_length_le]; have := HM0.out; omega] at H6
          have H1 : Hid ((fourC Q v).all (·.oneCell') = true) := fourC_one Q fun i hi => (H6.out.own i hi).one
          go_upto_region 14 with fail
          go_wp2_with (first
            | (refine wpList_load_row rfl 138 _ rfl (w.heap.size + 1 + 1) rfl 138 _ (0, 0) _ H5.out Tryz.underlying138 rfl (by as_aux_lemma => kernel_rfl) ?_)
            | (refine wpList_store_row rfl 138 _ _ rfl (w.heap.size + 1) _ rfl rfl 138 _ H4.out.at_ (by as_aux_lemma => kernel_rfl) rfl H1.out ?_)
            | fail)
          have H9 := Lib.hid (setRow_heap _ (w.heap.size + 1) _ (fourC Q v) _ _ H4.out.at_)
          have HB9 := Lib.hid (below_setRow HB.out (g := w.heap.size + 1) (by omega) (fourC Q v))
          have H69 := Lib.hid (H6.out.keep (w' := wr.setRow (w.heap.size + 1) (fourC Q v)) fun b hb => setRow_other _ _ _ _ (by omega))
          generalize wr.setRow (w.heap.size + 1) (fourC Q v) = W9 at *
          refine bodyPost_ret (res_cell (i := 4) (t := 138) (ad := ⟨w.heap.size + 1, 0, none⟩) (v := .agg (fourC Q v)) rfl rfl (run_loadVar_row _ _ _ _ _ (0, 0) _ H9.out Tryz.underlying138 rfl (by as_aux_lemma => kernel_rfl))) rfl ?_
          exact ⟨v, rfl, ⟨fun i hi => (H69.out.own i hi).mono (by omega), H69.out.apart⟩, HB9.out⟩
end Go.Proofs.YtnfjmmkokhncoaaGreat
