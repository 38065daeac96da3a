/- belvedereref07.Next: contract. -/
import Derived.Test.YtaapkngpnlnjeaaGreatDoorP03
import Derived.Test.YtaapkngpnlnjeaaGreatDoorP14
import Derived.Test.YtaapkngpnlnjeaaGreatDoorP06
import Derived.Maps.AppendAt
import Derived.Deep.DeepCutAuto
import Derived.Deep.CutRange
import Derived.Deep.CutBlock
namespace Go.Proofs.YtaapkngpnlnjeaaGreatDoor
open Go.RowKit Go.Maps
set_option maxRecDepth 100000

theorem cell_lt9 {w : World} {p : Addr} {v : Value} (h : w.cell? p = some v) : p.block < w.heap.size := blk_lt h
/-- The nine points at a point. -/
def nine (c : Int × Int) (k : Nat) : Int × Int := (c.1 + ((k % 3 : Nat) : Int) - 1, c.2 + ((k / 3 : Nat) : Int) - 1)
/-- Those that were come to. -/
def visL (l : List (Int × Int)) (i k : Nat) (p : Int × Int) : Prop := (∃ j c, j < i ∧ l[j]? = some c ∧ ∃ q, q < 9 ∧ p = nine c q) ∨ ∃ c, l[i]? = some c ∧ ∃ q, q < k ∧ p = nine c q
theorem vis_step (l : List (Int × Int)) {i k : Nat} {c : Int × Int} (hc : l[i]? = some c) (p : Int × Int) : visL l i (k + 1) p ↔ visL l i k p ∨ p = nine c k := by
  constructor
  · rintro (h | ⟨d, hd, q, hq, rfl⟩)
    · exact Or.inl (Or.inl h)
    · obtain rfl : c = d := Option.some.inj (hc.symm.trans hd)
      by_cases e : q = k
      · exact Or.inr (by rw [e])
      · exact Or.inl (Or.inr ⟨c, hc, q, by omega, rfl⟩)
  · rintro ((h | ⟨d, hd, q, hq, rfl⟩) | rfl)
    · exact Or.inl h
    · exact Or.inr ⟨d, hd, q, by omega, rfl⟩
    · exact Or.inr ⟨c, hc, k, by omega, rfl⟩
theorem vis_row (l : List (Int × Int)) (i : Nat) (p : Int × Int) : visL l (i + 1) 0 p ↔ visL l i 9 p := by
  constructor
  · rintro (⟨j, c, hj, hc, h⟩ | ⟨c, _, q, hq, _⟩)
    · by_cases e : j = i
      · subst e; exact Or.inr ⟨c, hc, h⟩
      · exact Or.inl ⟨j, c, by omega, hc, h⟩
    · omega
  · rintro (⟨j, c, hj, hc, h⟩ | ⟨c, hc, h⟩)
    · exact Or.inl ⟨j, c, by omega, hc, h⟩
    · exact Or.inl ⟨i, c, by omega, hc, h⟩
theorem vis_none (l : List (Int × Int)) (p : Int × Int) : ¬ visL l 0 0 p := by
  rintro (⟨j, c, hj, _⟩ | ⟨c, _, q, hq, _⟩) <;> omega
/-- What is alive next, has been come to. -/
theorem life_vis {l : List (Int × Int)} {p : Int × Int} (h : lifeL l p = true) : visL l l.length 0 p := by
  have key : ∃ c, c ∈ l ∧ (c = p ∨ adjB p c = true) := by
    unfold lifeL ruleB at h
    by_cases hm : p ∈ l
    · exact ⟨p, hm, Or.inl rfl⟩
    · simp only [hm, decide_false, Bool.false_and, Bool.or_false, decide_eq_true_eq] at h
      have hp : 0 < nearL l p := by omega
      unfold nearL at hp
      obtain ⟨c, hc, ha⟩ := List.countP_pos_iff.1 hp
      exact ⟨c, hc, Or.inr ha⟩
  obtain ⟨c, hc, ha⟩ := key
  obtain ⟨j, hj, hjc⟩ := List.mem_iff_getElem.1 hc
  refine Or.inl ⟨j, c, hj, by rw [← hjc]; exact List.getElem?_eq_getElem hj, ?_⟩
  have hr : -1 ≤ c.1 - p.1 ∧ c.1 - p.1 ≤ 1 ∧ -1 ≤ c.2 - p.2 ∧ c.2 - p.2 ≤ 1 := by
    rcases ha with rfl | ha
    · omega
    · unfold adjB at ha
      simp only [Bool.and_eq_true, decide_eq_true_eq] at ha
      omega
  refine ⟨((p.1 - c.1 + 1) + 3 * (p.2 - c.2 + 1)).toNat, by omega, ?_⟩
  unfold nine
  refine Prod.ext ?_ ?_ <;> simp only <;> omega
theorem near_snoc (l : List (Int × Int)) (c p : Int × Int) : nearL (l ++ [c]) p = nearL l p + if adjB p c then 1 else 0 := by
  unfold nearL
  rw [List.countP_append]
  simp [List.countP_cons]
theorem near_le (l : List (Int × Int)) (p : Int × Int) : nearL l p ≤ l.length := List.countP_le_length
/-- Two rows of points of the call's own, apart. -/
structure D2 (w : World) (B : Nat) (v u : Value) (L M : List (Int × Int)) : Prop where
  one : OwP w B v L
  two : OwP w B u M
  apart : ∀ b, v.ownBlock = some b → u.ownBlock = some b → False
theorem OwP.keep {w w' : World} {B : Nat} {v : Value} {l : List (Int × Int)} (h : OwP w B v l) (hk : ∀ b, v.ownBlock = some b → w'.heap[b]? = w.heap[b]?) : OwP w' B v l := by
  refine ⟨h.1, ?_⟩
  rcases h.2 with hn | ⟨g, cp, cur, hv, hB, hg, r⟩
  · exact Or.inl hn
  · exact Or.inr ⟨g, cp, cur, hv, hB, by rw [hk g (by rw [hv]; rfl)]; exact hg, r⟩
theorem OwP.later {w w' : World} {B : Nat} {v : Value} {l : List (Int × Int)} (h : OwP w B v l) (hb : Below w.heap.size w w') : OwP w' B v l := h.keep fun b hv => hb.block b (World.ownsRow.lt h b hv).2
theorem D2.later {w w' : World} {B : Nat} {v u : Value} {L M : List (Int × Int)} (h : D2 w B v u L M) (hb : Below w.heap.size w w') : D2 w' B v u L M := ⟨h.one.later hb, h.two.later hb, h.apart⟩
theorem D2.swap {w : World} {B : Nat} {v u : Value} {L M : List (Int × Int)} (h : D2 w B v u L M) : D2 w B u v M L := ⟨h.two, h.one, fun b h1 h2 => h.apart b h2 h1⟩
/-- The first is longer by one. -/
theorem D2.add {w w' : World} {B : Nat} {v u v' : Value} {L M : List (Int × Int)} (h : D2 w B v u L M) (c : Int × Int) (ho : w'.ownsRow B 73 2 v' (L.length + 1) (ptVs L ++ [.int .i64 c.1, .int .i64 c.2])) (hg : w.grownBy w' v.ownBlock) (hat : v'.ownBlock = v.ownBlock ∨ v'.ownBlock = some w.heap.size) :
    D2 w' B v' u (L ++ [c]) M := by
  refine ⟨?_, ?_, fun b h1 h2 => ?_⟩
  · unfold OwP
    rw [ptVs_snoc, List.length_append]
    exact ho
  · exact h.two.keep fun b hb => hg.block b (World.ownsRow.lt h.two b hb).2 fun e => h.apart b e.symm hb
  · rcases hat with e | e
    · exact h.apart b (e ▸ h1) h2
    · rw [e] at h1
      cases h1
      have := (World.ownsRow.lt h.two _ h2).2
      omega
theorem D2.off {w : World} {B : Nat} {v u : Value} {L M : List (Int × Int)} (h : D2 w B v u L M) {pb : Nat} (hp : w.heap.size ≤ pb) : (∀ b, v.ownBlock = some b → b ≠ pb) ∧ ∀ b, u.ownBlock = some b → b ≠ pb :=
  ⟨fun b hb => by have := (World.ownsRow.lt h.one b hb).2; omega, fun b hb => by have := (World.ownsRow.lt h.two b hb).2; omega⟩
/-- The tests for one of the eight, in their order. -/
theorem adj_cases (p d : Int × Int) :
    ((!(d.1 == p.1 && d.2 == p.2)) = false ∧ adjB p d = false) ∨
    ((!(d.1 == p.1 && d.2 == p.2)) = true ∧ decide (-1 ≤ d.1 - p.1) = false ∧ adjB p d = false) ∨
    ((!(d.1 == p.1 && d.2 == p.2)) = true ∧ decide (-1 ≤ d.1 - p.1) = true ∧ decide (d.1 - p.1 ≤ 1) = false ∧ adjB p d = false) ∨
    ((!(d.1 == p.1 && d.2 == p.2)) = true ∧ decide (-1 ≤ d.1 - p.1) = true ∧ decide (d.1 - p.1 ≤ 1) = true ∧ decide (-1 ≤ d.2 - p.2) = false ∧ adjB p d = false) ∨
    ((!(d.1 == p.1 && d.2 == p.2)) = true ∧ decide (-1 ≤ d.1 - p.1) = true ∧ decide (d.1 - p.1 ≤ 1) = true ∧ decide (-1 ≤ d.2 - p.2) = true ∧ decide (d.2 - p.2 ≤ 1) = false ∧ adjB p d = false) ∨
    ((!(d.1 == p.1 && d.2 == p.2)) = true ∧ decide (-1 ≤ d.1 - p.1) = true ∧ decide (d.1 - p.1 ≤ 1) = true ∧ decide (-1 ≤ d.2 - p.2) = true ∧ decide (d.2 - p.2 ≤ 1) = true ∧ adjB p d = true) := by
  have he : (d.1 == p.1 && d.2 == p.2) = decide (d = p) := by
    rw [Bool.eq_iff_iff]; simp [Prod.ext_iff]
  unfold adjB
  rw [he]
  cases decide (d = p) <;> cases decide (-1 ≤ d.1 - p.1) <;> cases decide (d.1 - p.1 ≤ 1) <;> cases decide (-1 ≤ d.2 - p.2) <;> cases decide (d.2 - p.2 ≤ 1) <;> simp
/-- Coordinates far from an int64's ends. -/
def Mid (l : List (Int × Int)) : Prop := ∀ c, c ∈ l → -2305843009213693952 ≤ c.1 ∧ c.1 ≤ 2305843009213693952 ∧ -2305843009213693952 ≤ c.2 ∧ c.2 ≤ 2305843009213693952
structure Ns (l : List (Int × Int)) (B i k : Nat) (v u : Value) (wr : World) : Prop where
  rows : ∃ L M, D2 wr B v u L M ∧ L = M.filter (lifeL l) ∧ M.Nodup ∧ (∀ p, p ∈ M ↔ visL l i k p) ∧ M.length ≤ 9 * i + k
set_option maxHeartbeats 4000000 in
theorem next_ref (l : List (Int × Int)) (a : Option Addr) (cap : Nat) (w : World) (h : Ro w a l) (hl : l.length ≤ 30000) (hm : Mid l) :
    Calls Tryz.prog 15 #[.slice a l.length cap] w fun e w' => ∃ v L, e = .returned v ∧ OwP w' w.heap.size v L ∧ L.Nodup ∧ (∀ p, p ∈ L ↔ lifeL l p = true) ∧ L.length ≤ 9 * l.length ∧ Below w.heap.size w w' := by
  have HR := Lib.hid h
  have HMD := Lib.hid hm
  clear h hm
  obtain ⟨i0, hi, hz0, hz1, hz2⟩ := infoP7
  have HI := Lib.hid hi
  have HZ0 := Lib.hid hz0
  have HZ1 := Lib.hid hz1
  have HZ2 := Lib.hid hz2
  clear hi hz0 hz1 hz2
  go_enter Tryz.func15, Tryz.ntmps15
  go_wp2_with fail
  go_loopg [3, 4, 5, 6, 7, 8, 9, 10, 11, 12, 13] l.length (fun m v3 v4 v5 v6 v7 v8 v9 v10 v11 v12 v13 wr => ∃ i : Nat, m = l.length - i ∧ i ≤ l.length ∧ v5 = .int .i64 (i : Int) ∧ Ns l w.heap.size i 0 v3 v4 wr ∧ Below w.heap.size w wr)
  case atStart => exact ⟨0, rfl, Nat.zero_le _, rfl, ⟨[], [], ⟨own_nil _ _, own_nil _ _, fun b h => by cases h⟩, rfl, List.nodup_nil, fun p => ⟨fun h => (by cases h), fun h => absurd h (vis_none l p)⟩, by simp⟩, Below.refl _ _⟩
  case round =>
    obtain ⟨i, hm, hi, rfl, hn, hb⟩ := hrel
    have HM := Lib.hid hm
    have HN := Lib.hid hn
    have HB := Lib.hid hb
    clear hm hn hb
    by_cases hlt : i < l.length
    · have hgj : decide ((i : Int) < (l.length : Int)) = true := by simp; omega
      obtain ⟨c, hc⟩ : ∃ c, l[i]? = some c := ⟨l[i], List.getElem?_eq_getElem hlt⟩
      have HC := Lib.hid hc
      have HCM := Lib.hid (HMD.out c (List.mem_of_getElem? hc))
      clear hc
      go_wp2_with fail
      clear hgj
      generalize wr = w1 at *
      go_loopg [3, 4, 6, 7, 8, 9, 10, 11, 12, 13] 9 (fun m v3 v4 v6 v7 v8 v9 v10 v11 v12 v13 wr => ∃ k : Nat, m = 9 - k ∧ k ≤ 9 ∧ v6 = .int .i64 (k : Int) ∧ Ns l w.heap.size i k v3 v4 wr ∧ Below w.heap.size w wr)
      case atStart => exact ⟨0, rfl, Nat.zero_le _, rfl, HN.out, HB.out⟩
      case round =>
        clear HN HB
        obtain ⟨k, hm, hk, rfl, hn, hb⟩ := hrel
        have HM2 := Lib.hid hm
        have HN := Lib.hid hn
        have HB := Lib.hid hb
        have HR1 := Lib.hid (HR.out.later hb)
        clear hm hn hb
        by_cases hlt2 : k < 9
        · have hgj2 : decide ((k : Int) < 9) = true := by simp; omega
          obtain ⟨bk, ha, c0, c1⟩ := HR1.out i c HC.out
          obtain ⟨b1, b2, b3, b4⟩ := HCM.out
          have i1 : (0 : Int) ≤ (i : Int) := by omega
          have i2 : (i : Int) < (l.length : Int) := by omega
          have e1 : IntKind.i64.wrap (c.1 + (k : Int) % 3) = c.1 + (k : Int) % 3 := IntWalk.i64_in _ (by omega)
          have e2 : IntKind.i64.wrap (c.1 + (k : Int) % 3 - 1) = c.1 + (k : Int) % 3 - 1 := IntWalk.i64_in _ (by omega)
          have e3 : IntKind.i64.wrap (c.2 + (k : Int) / 3) = c.2 + (k : Int) / 3 := IntWalk.i64_in _ (by omega)
          have e4 : IntKind.i64.wrap (c.2 + (k : Int) / 3 - 1) = c.2 + (k : Int) / 3 - 1 := IntWalk.i64_in _ (by omega)
          have f0 : IntKind.i64.wrap ((k : Int) / 3) = (k : Int) / 3 := IntWalk.i64_in _ (by omega)
          have f1 : (k : Int).tmod 3 = (k : Int) % 3 := Int.tmod_eq_emod_of_nonneg (by omega)
          have f2 : (k : Int).tdiv 3 = (k : Int) / 3 := Int.tdiv_eq_ediv_of_nonneg (by omega)
          subst ha
          have HC2 : Hid (∀ W, Below wr.heap.size wr W → W.cell? ⟨bk, i * 2, none⟩ = some (.int .i64 c.1) ∧ W.cell? ⟨bk, i * 2 + 1, none⟩ = some (.int .i64 c.2)) := fun W hW => ⟨by rw [hW.cell (cell_lt9 c0)]; exact c0, by rw [hW.cell (cell_lt9 c1)]; exact c1⟩
          go_wp2_with fail
          go_upto_region 9 with fail
          go_cut [7] from 24 to 43 (fun v7 wx => ∃ pb, v7 = .pointer (some ⟨pb, 0, none⟩) ∧ wx.heap[pb]? = some (ptO7 (nine c k).1 (nine c k).2) ∧ wr.heap.size ≤ pb ∧ Below wr.heap.size wr wx)
          case first =>
            refine region_sq 20 (fun W => Below wr.heap.size wr W) [(0, 1), (1, 1), (2, 1), (3, 1), (4, 2), (5, 1), (6, 1), (7, 1), (8, 1), (9, 1), (10, 1), (11, 1), (12, 1), (13, 2), (14, 1), (15, 1), (16, 1), (17, 1), (18, 1), (19, 0), (20, 3)] (by kernel_rfl) (by kernel_rfl) rfl (by intro c a d v w h; cases d <;> exact h) (by kernel_rfl) (below_drewN (Below.refl _ wr) 1) ?_
            refine ⟨_, ?_, rfl, by rfl, ?_, ?_⟩
            rotate_left
            · intro W; go_simp; first | done | rfl
            conv => arg 6; simp only [Act.put, List.setIfInBounds_toArray, List.set_cons_zero, List.set_cons_succ]
            refine ⟨_, ?_, rfl, by rfl, ?_, ?_⟩
            rotate_left
            · intro W; go_simp; first | done | rfl
            conv => arg 6; simp only [Act.put, List.setIfInBounds_toArray, List.set_cons_zero, List.set_cons_succ]
            refine ⟨_, ?_, rfl, by rfl, ?_, ?_⟩
            rotate_left
            · intro W; go_simp; first | done | rfl
            conv => arg 6; simp only [Act.put, List.setIfInBounds_toArray, List.set_cons_zero, List.set_cons_succ]
            refine ⟨_, ?_, rfl, by rfl, ?_, ?_⟩
            rotate_left
            · intro W; go_simp; first | done | rfl
            conv => arg 6; simp only [Act.put, List.setIfInBounds_toArray, List.set_cons_zero, List.set_cons_succ]
            refine ⟨_, ?_, rfl, by rfl, ?_, ?_⟩
            rotate_left
            · intro W hW
              have y := HC2.out W hW
              obtain ⟨y0, y1⟩ := y
              go_simp; first | done | rfl
            conv => arg 6; simp only [Act.put, List.setIfInBounds_toArray, List.set_cons_zero, List.set_cons_succ]
            refine ⟨_, ?_, rfl, by rfl, ?_, ?_⟩
            rotate_left
            · intro W; go_simp; first | done | rfl
            conv => arg 6; simp only [Act.put, List.setIfInBounds_toArray, List.set_cons_zero, List.set_cons_succ]
            refine ⟨_, ?_, rfl, by rfl, ?_, ?_⟩
            rotate_left
            · intro W; go_simp; first | done | rfl
            conv => arg 6; simp only [Act.put, List.setIfInBounds_toArray, List.set_cons_zero, List.set_cons_succ]
            refine ⟨_, ?_, rfl, by rfl, ?_, ?_⟩
            rotate_left
            · intro W; go_simp; first | done | rfl
            conv => arg 6; simp only [Act.put, List.setIfInBounds_toArray, List.set_cons_zero, List.set_cons_succ]
            refine ⟨_, ?_, rfl, by rfl, ?_, ?_⟩
            rotate_left
            · intro W; go_simp; first | done | rfl
            conv => arg 6; simp only [Act.put, List.setIfInBounds_toArray, List.set_cons_zero, List.set_cons_succ]
            refine ⟨_, ?_, rfl, by rfl, ?_, ?_⟩
            rotate_left
            · intro W; go_simp; first | done | rfl
            conv => arg 6; simp only [Act.put, List.setIfInBounds_toArray, List.set_cons_zero, List.set_cons_succ]
            refine ⟨_, ?_, rfl, by rfl, ?_, ?_⟩
            rotate_left
            · intro W; go_simp; first | done | rfl
            conv => arg 6; simp only [Act.put, List.setIfInBounds_toArray, List.set_cons_zero, List.set_cons_succ]
            refine ⟨_, ?_, rfl, by rfl, ?_, ?_⟩
            rotate_left
            · intro W; go_simp; first | done | rfl
            conv => arg 6; simp only [Act.put, List.setIfInBounds_toArray, List.set_cons_zero, List.set_cons_succ]
            refine ⟨_, ?_, rfl, by rfl, ?_, ?_⟩
            rotate_left
            · intro W; go_simp; first | done | rfl
            conv => arg 6; simp only [Act.put, List.setIfInBounds_toArray, List.set_cons_zero, List.set_cons_succ]
            refine ⟨_, ?_, rfl, by rfl, ?_, ?_⟩
            rotate_left
            · intro W hW
              have y := HC2.out W hW
              obtain ⟨y0, y1⟩ := y
              go_simp; first | done | rfl
            conv => arg 6; simp only [Act.put, List.setIfInBounds_toArray, List.set_cons_zero, List.set_cons_succ]
            refine ⟨_, ?_, rfl, by rfl, ?_, ?_⟩
            rotate_left
            · intro W; go_simp; first | done | rfl
            conv => arg 6; simp only [Act.put, List.setIfInBounds_toArray, List.set_cons_zero, List.set_cons_succ]
            refine ⟨_, ?_, rfl, by rfl, ?_, ?_⟩
            rotate_left
            · intro W; go_simp; first | done | rfl
            conv => arg 6; simp only [Act.put, List.setIfInBounds_toArray, List.set_cons_zero, List.set_cons_succ]
            refine ⟨_, ?_, rfl, by rfl, ?_, ?_⟩
            rotate_left
            · intro W; go_simp; first | done | rfl
            conv => arg 6; simp only [Act.put, List.setIfInBounds_toArray, List.set_cons_zero, List.set_cons_succ]
            refine ⟨_, ?_, rfl, by rfl, ?_, ?_⟩
            rotate_left
            · intro W; go_simp; first | done | rfl
            conv => arg 6; simp only [Act.put, List.setIfInBounds_toArray, List.set_cons_zero, List.set_cons_succ]
            refine ⟨_, ?_, rfl, by rfl, ?_, ?_⟩
            rotate_left
            · intro W; go_simp; first | done | rfl
            conv => arg 6; simp only [Act.put, List.setIfInBounds_toArray, List.set_cons_zero, List.set_cons_succ]
            refine ⟨_, rfl, by rfl, fun K hK => ?_⟩
            go_simp
            refine hK _ _ ((below_drewN (Below.refl _ wr) 1).alloc (Nat.le_refl _) _) ?_
            clear hK K
            conv => arg 6; simp only [Act.put, List.setIfInBounds_toArray, List.set_cons_zero, List.set_cons_succ]
            refine ⟨_, rfl, by rfl, fun K hK => ?_⟩
            have hnb := heap_alloc_new wr.drew (.cells #[.int .i64 0, .int .i64 0] 73)
            have z0 := Lib.frozen_of_heap hnb 0
            have z1 := Lib.frozen_of_heap hnb 1
            go_simp
            refine hK _ _ ?_
            clear hK K
            conv => arg 6; simp only [Act.put, List.setIfInBounds_toArray, List.set_cons_zero, List.set_cons_succ]
            unfold wpSq
            go_wp2_with fail
            go_meet
            refine ⟨wr.heap.size, rfl, ?_, Nat.le_refl _, below_drewN (bel1 wr _) 1⟩
            have := heap_alloc_new wr (.cells #[.int .i64 (c.1 + (k : Int) % 3 - 1), .int .i64 (c.2 + (k : Int) / 3 - 1)] 73)
            unfold nine ptO7
            rw [show ((k % 3 : Nat) : Int) = (k : Int) % 3 by omega, show ((k / 3 : Nat) : Int) = (k : Int) / 3 by omega]
            exact this
          case rest =>
          obtain ⟨pb, rfl, hpb, hpl, hbx⟩ := hcut
          clear c0 c1 e1 e2 e3 e4 f0 f1 f2 HC2 hgj2 i1 i2
          obtain ⟨L, M, hd, hLM, hMn, hMv, hMl⟩ := HN.out.rows
          have hB9 := HB.out.trans (hbx.mono HB.out.size)
          have HPB := Lib.hid hpb
          have HB1 := Lib.hid hB9
          have HD1 := Lib.hid (hd.later hbx)
          have HLM := Lib.hid hLM
          have HMN := Lib.hid hMn
          have HMV := Lib.hid hMv
          have HML := Lib.hid hMl
          have HLL : Hid (L.length ≤ M.length) := by show _; rw [hLM]; exact List.length_filter_le _ _
          have HNB : Hid (-2305843009213693953 ≤ (nine c k).1 ∧ (nine c k).1 ≤ 2305843009213693953 ∧ -2305843009213693953 ≤ (nine c k).2 ∧ (nine c k).2 ≤ 2305843009213693953) := by
            unfold nine
            refine ⟨?_, ?_, ?_, ?_⟩ <;> simp only <;> omega
          have HVS : Hid (∀ p, visL l i (k + 1) p ↔ visL l i k p ∨ p = nine c k) := vis_step l HC.out
          have HPL : Hid (w.heap.size ≤ pb) := Nat.le_trans HB.out.size hpl
          have HAP := Lib.hid (hd.off hpl)
          clear hd hLM hMn hMv hMl hpb hbx hB9 hpl HN HB HR1 b1 b2 b3 b4
          clear wr
          generalize nine c k = P at *
          obtain ⟨px, py⟩ := P
          obtain ⟨sa, scap, hse, hsr, hsb⟩ := HD1.out.two.ro
          have HSR := Lib.hid hsr
          obtain ⟨q0, q1⟩ := pt_cells7 HPB.out
          have hMl2 : M.length ≤ 1000000 := by have := HML.out; omega
          have HDX := HD1
          clear hsr HD1
          subst hse
          go_wp2_with fail
          refine (has_refB M sa scap px py _ HSR.out hMl2).mono ?_
          rintro e w2 ⟨rfl, hb2⟩
          have HB2 := Lib.hid (HB1.out.trans (hb2.mono HB1.out.size))
          have HP2 := Lib.hid (keptR HPB.out hb2)
          have HD2 := Lib.hid (HDX.out.later hb2)
          clear hb2 HB1 HPB HDX HSR q0 q1 hsb
          by_cases hin : (px, py) ∈ M
          · rw [decide_eq_true hin]
            have HIN := Lib.hid hin
            clear hin
            go_wp2_with fail
            go_roundg (9 - (k + 1))
            case measure => rw [HM2.out]; omega
            case rel =>
              refine ⟨k + 1, rfl, by omega, by go_num, ⟨L, M, HD2.out, HLM.out, HMN.out, fun p => ?_, by have := HML.out; omega⟩, HB2.out⟩
              rw [HVS.out p, HMV.out p]
              constructor
              · exact Or.inl
              · rintro (h | rfl)
                · exact h
                · exact (HMV.out _).1 HIN.out
          · rw [decide_eq_false hin]
            have HIN := Lib.hid hin
            clear hin
            obtain ⟨q0, q1⟩ := pt_cells7 HP2.out
            go_wp2_with (at_builtin; refine wpList_append_own_at _ rfl _ _ 39 rfl w.heap.size 73 i0 (.agg #[.int .i64 0, .int .i64 0]) 2 16 Tryz.underlying39 HI.out HZ0.out HZ1.out HZ2.out rfl (by decide) _ _ _ rfl (World.ownsRow.alloc HD2.out.two _) ⟨w2.heap.size, 0, none⟩ 1 1 [.int .i64 px, .int .i64 py] rfl rfl ?_ ?_ ?_ ?_ ?_ ?_; (exact cell_pair _ _ _ _); (intro u hu; simp at hu; rcases hu with rfl | rfl <;> rfl); (unfold maxLen; omega); (omega); (have := HB2.out.size; simp; omega); intro v' w4 hown4 hgrow _ hat; have HG := Lib.hid hgrow; have HO4 := Lib.hid hown4; have HAT := Lib.hid hat; clear hgrow hown4 hat)
            have HP4 : Hid (w4.heap[pb]? = some (ptO7 px py)) := by
              show _ = _
              rw [HG.out.block pb (by have := (Array.getElem?_eq_some_iff.1 HP2.out).1; simp; omega) (fun e => HAP.out.2 pb e.symm rfl)]
              exact keptR HP2.out (bel1 w2 _)
            have HB4 := Lib.hid ((HB2.out.alloc HB2.out.size (.cells #[.int .i64 px, .int .i64 py] 73)).grown HG.out (by have := HB2.out.size; simp; omega) (fun k hk => (World.ownsRow.lt HD2.out.two k hk).1))
            have HD4 := Lib.hid (((HD2.out.later (bel1 w2 (.cells #[.int .i64 px, .int .i64 py] 73))).swap.add (px, py) HO4.out HG.out HAT.out).swap)
            have HA4 := Lib.hid HAP.out.1
            have HR4 := Lib.hid (HR.out.later HB4.out)
            clear HG HO4 HAT HP2 HB2 HD2 q0 q1 HAP HPL
            generalize hsn : v' = vs at *
            clear hsn
            go_loopg [9, 10, 11, 12] l.length (fun m v9 v10 v11 v12 wr => ∃ j : Nat, m = l.length - j ∧ j ≤ l.length ∧ v10 = .int .i64 (j : Int) ∧ v9 = .int .i64 (nearL (l.take j) (px, py) : Int) ∧ ∃ q, wr = w4.drewN q)
            case atStart => exact ⟨0, rfl, Nat.zero_le _, rfl, rfl, 0, rfl⟩
            case round =>
              obtain ⟨j, hm3, hj, rfl, rfl, q, rfl⟩ := hrel
              have HM3 := Lib.hid hm3
              clear hm3
              obtain ⟨q0, q1⟩ := pt_cells7 HP4.out
              by_cases hlt3 : j < l.length
              · obtain ⟨d, hd⟩ : ∃ d, l[j]? = some d := ⟨l[j], List.getElem?_eq_getElem hlt3⟩
                obtain ⟨bk2, ha2, d0, d1⟩ := HR4.out j d hd
                cases ha2
                have HTK : Hid (nearL (l.take (j + 1)) (px, py) = nearL (l.take j) (px, py) + if adjB (px, py) d then 1 else 0) := by
                  show _ = _
                  rw [List.take_add_one, hd]; exact near_snoc _ _ _
                obtain ⟨b1, b2, b3, b4⟩ := HMD.out d (List.mem_of_getElem? hd)
                obtain ⟨b5, b6, b7, b8⟩ := HNB.out
                clear hd
                have hgj3 : decide ((j : Int) < (l.length : Int)) = true := by simp; omega
                have i1 : (0 : Int) ≤ (j : Int) := by omega
                have i2 : (j : Int) < (l.length : Int) := by omega
                have x1 : IntKind.i64.wrap (d.1 - px) = d.1 - px := IntWalk.i64_in _ (by omega)
                have x2 : IntKind.i64.wrap (d.2 - py) = d.2 - py := IntWalk.i64_in _ (by omega)
                have hn1 := near_le (l.take j) (px, py)
                have hn2 : nearL (l.take j) (px, py) ≤ 30000 := by rw [List.length_take] at hn1; omega
                clear b1 b2 b3 b4 b5 b6 b7 b8 hn1
                generalize nearL (l.take j) (px, py) = nn at *
                have hnp := neP d.1 d.2 px py
                rcases adj_cases (px, py) d with ⟨h1, ha⟩ | ⟨h1, h2, ha⟩ | ⟨h1, h2, h3, ha⟩ | ⟨h1, h2, h3, h4, ha⟩ | ⟨h1, h2, h3, h4, h5, ha⟩ | ⟨h1, h2, h3, h4, h5, ha⟩
                all_goals
                  have HAJ := Lib.hid ha
                  clear ha
                  rw [h1] at hnp
                  clear h1
                · go_wp2_with fail
                  go_quiet (fail)
                  go_wp2_with fail
                  go_quiet (fail)
                  go_wp2_with fail
                  go_quiet (fail)
                  go_wp2_with fail
                  go_roundg (l.length - (j + 1))
                  case measure => rw [HM3.out]; omega
                  case rel => exact ⟨j + 1, rfl, hlt3, by go_num, by rw [HTK.out, HAJ.out]; rfl, ⟨_, rfl⟩⟩
                · go_wp2_with fail
                  go_quiet (fail)
                  go_wp2_with fail
                  go_quiet (fail)
                  go_wp2_with fail
                  go_quiet (fail)
                  go_wp2_with fail
                  go_roundg (l.length - (j + 1))
                  case measure => rw [HM3.out]; omega
                  case rel => exact ⟨j + 1, rfl, hlt3, by go_num, by rw [HTK.out, HAJ.out]; rfl, ⟨_, rfl⟩⟩
                · go_wp2_with fail
                  go_quiet (fail)
                  go_wp2_with fail
                  go_quiet (fail)
                  go_wp2_with fail
                  go_quiet (fail)
                  go_wp2_with fail
                  go_roundg (l.length - (j + 1))
                  case measure => rw [HM3.out]; omega
                  case rel => exact ⟨j + 1, rfl, hlt3, by go_num, by rw [HTK.out, HAJ.out]; rfl, ⟨_, rfl⟩⟩
                · go_wp2_with fail
                  go_quiet (fail)
                  go_wp2_with fail
                  go_quiet (fail)
                  go_wp2_with fail
                  go_quiet (fail)
                  go_wp2_with fail
                  go_roundg (l.length - (j + 1))
                  case measure => rw [HM3.out]; omega
                  case rel => exact ⟨j + 1, rfl, hlt3, by go_num, by rw [HTK.out, HAJ.out]; rfl, ⟨_, rfl⟩⟩
                · go_wp2_with fail
                  go_quiet (fail)
                  go_wp2_with fail
                  go_quiet (fail)
                  go_wp2_with fail
                  go_quiet (fail)
                  go_wp2_with fail
                  go_roundg (l.length - (j + 1))
                  case measure => rw [HM3.out]; omega
                  case rel => exact ⟨j + 1, rfl, hlt3, by go_num, by rw [HTK.out, HAJ.out]; rfl, ⟨_, rfl⟩⟩
                · go_wp2_with fail
                  go_quiet (fail)
                  go_wp2_with fail
                  go_quiet (fail)
                  go_wp2_with fail
                  go_quiet (fail)
                  go_wp2_with fail
                  go_roundg (l.length - (j + 1))
                  case measure => rw [HM3.out]; omega
                  case rel => exact ⟨j + 1, rfl, hlt3, by go_num, by rw [HTK.out, HAJ.out]; go_num, ⟨_, rfl⟩⟩
              · obtain rfl : j = l.length := by omega
                rw [List.take_length]
                have hgj3 : decide ((l.length : Int) < (l.length : Int)) = false := by simp
                have hn2 := near_le l (px, py)
                have hlife : lifeL l (px, py) = ruleB (decide ((px, py) ∈ l)) (nearL l (px, py) : Int) := rfl
                have HLF := Lib.hid hlife
                clear hlife
                have HR5 : Hid (Ro (w4.drewN q) (some ⟨bk, 0, none⟩) l) := HR4.out
                have HB5 : Hid (Below w.heap.size w (w4.drewN q)) := below_drewN HB4.out q
                have HP5 : Hid ((w4.drewN q).heap[pb]? = some (ptO7 px py)) := HP4.out
                have HD5 : Hid (D2 (w4.drewN q) w.heap.size _ vs L (M ++ [(px, py)])) := ⟨HD4.out.one, HD4.out.two, HD4.out.apart⟩
                clear HR4 HB4 HP4 HD4 q0 q1
                generalize w4.drewN q = w5 at *
                obtain ⟨q0, q1⟩ := pt_cells7 HP5.out
                generalize nearL l (px, py) = nn at *
                go_wp2_with fail
                refine (has_refB l _ cap px py _ HR5.out (by omega)).mono ?_
                rintro e w6 ⟨rfl, hb6⟩
                have HB6 := Lib.hid (HB5.out.trans (hb6.mono HB5.out.size))
                have HP6 := Lib.hid (keptR HP5.out hb6)
                have HD6 := Lib.hid (HD5.out.later hb6)
                clear hb6 HR5 HB5 HP5 HD5 q0 q1 hgj3
                generalize decide ((px, py) ∈ l) = bl at *
                obtain ⟨q0, q1⟩ := pt_cells7 HP6.out
                have HFL : Hid (lifeL l (px, py) = ruleB bl (nn : Int)) := HLF.out
                clear HLF
                have hLlen : L.length ≤ 1000000 := by have := HML.out; have := HLL.out; omega
                have HND : Hid ((M ++ [(px, py)]).Nodup) := List.nodup_append.2 ⟨HMN.out, by simp, fun a ha b hb e => by simp at hb; exact HIN.out (by rw [← hb, ← e]; exact ha)⟩
                have HMV2 : Hid (∀ p, p ∈ M ++ [(px, py)] ↔ visL l i (k + 1) p) := fun p => by rw [HVS.out p, List.mem_append, HMV.out p]; simp
                have HML2 : Hid ((M ++ [(px, py)]).length ≤ 9 * i + (k + 1)) := by have := HML.out; show (M ++ [(px, py)]).length ≤ _; simp; omega
                have HNO : Hid (lifeL l (px, py) = false → Ns l w.heap.size i (k + 1) _ vs w6) := fun h => ⟨L, M ++ [(px, py)], HD6.out, by rw [List.filter_append, ← HLM.out]; simp [h], HND.out, HMV2.out, HML2.out⟩
                have HYS : Hid (lifeL l (px, py) = true → ∀ {v7 : Value} {w7 : World}, D2 w7 w.heap.size v7 vs (L ++ [(px, py)]) (M ++ [(px, py)]) → Ns l w.heap.size i (k + 1) v7 vs w7) := fun h v7 w7 hd => ⟨L ++ [(px, py)], M ++ [(px, py)], hd, by rw [List.filter_append, ← HLM.out]; simp [h], HND.out, HMV2.out, HML2.out⟩
                clear HP6
                by_cases h3 : nn = 3
                · have g3 : ((nn : Int) == 3) = true := by rw [h3]; rfl
                  have HLN : Hid (lifeL l (px, py) = true) := by show _ = _; rw [HFL.out, h3]; simp [ruleB]
                  subst h3
                  go_wp2_with (at_builtin; refine wpList_append_own_at _ rfl _ _ 39 rfl w.heap.size 73 i0 (.agg #[.int .i64 0, .int .i64 0]) 2 16 Tryz.underlying39 HI.out HZ0.out HZ1.out HZ2.out rfl (by decide) _ _ _ rfl (World.ownsRow.alloc HD6.out.one _) ⟨w6.heap.size, 0, none⟩ 1 1 [.int .i64 px, .int .i64 py] rfl rfl ?_ ?_ ?_ ?_ ?_ ?_; (exact cell_pair _ _ _ _); (intro u hu; simp at hu; rcases hu with rfl | rfl <;> rfl); (unfold maxLen; omega); (omega); (have := HB6.out.size; simp; omega); intro v' w7 hown4 hgrow _ hat; have HG := Lib.hid hgrow; have HO4 := Lib.hid hown4; have HAT := Lib.hid hat; clear hgrow hown4 hat)
                  have HB7 := Lib.hid ((HB6.out.alloc HB6.out.size (.cells #[.int .i64 px, .int .i64 py] 73)).grown HG.out (by have := HB6.out.size; simp; omega) (fun k hk => (World.ownsRow.lt HD6.out.one k hk).1))
                  have HD7 := Lib.hid ((HD6.out.later (bel1 w6 (.cells #[.int .i64 px, .int .i64 py] 73))).add (px, py) HO4.out HG.out HAT.out)
                  go_roundg (9 - (k + 1))
                  case measure => rw [HM2.out]; omega
                  case rel =>
                    exact ⟨k + 1, rfl, by omega, by go_num, HYS.out HLN.out HD7.out, HB7.out⟩
                · have g3 : ((nn : Int) == 3) = false := by simp; omega
                  by_cases h2 : nn = 2
                  · have HLN : Hid (lifeL l (px, py) = bl) := by show _ = _; rw [HFL.out, h2]; simp [ruleB]
                    subst h2
                    cases bl with
                    | false =>
                      go_wp2_with fail
                      go_roundg (9 - (k + 1))
                      case measure => rw [HM2.out]; omega
                      case rel =>
                        exact ⟨k + 1, rfl, by omega, by go_num, HNO.out HLN.out, HB6.out⟩
                    | true =>
                      go_wp2_with (at_builtin; refine wpList_append_own_at _ rfl _ _ 39 rfl w.heap.size 73 i0 (.agg #[.int .i64 0, .int .i64 0]) 2 16 Tryz.underlying39 HI.out HZ0.out HZ1.out HZ2.out rfl (by decide) _ _ _ rfl (World.ownsRow.alloc HD6.out.one _) ⟨w6.heap.size, 0, none⟩ 1 1 [.int .i64 px, .int .i64 py] rfl rfl ?_ ?_ ?_ ?_ ?_ ?_; (exact cell_pair _ _ _ _); (intro u hu; simp at hu; rcases hu with rfl | rfl <;> rfl); (unfold maxLen; omega); (omega); (have := HB6.out.size; simp; omega); intro v' w7 hown4 hgrow _ hat; have HG := Lib.hid hgrow; have HO4 := Lib.hid hown4; have HAT := Lib.hid hat; clear hgrow hown4 hat)
                      have HB7 := Lib.hid ((HB6.out.alloc HB6.out.size (.cells #[.int .i64 px, .int .i64 py] 73)).grown HG.out (by have := HB6.out.size; simp; omega) (fun k hk => (World.ownsRow.lt HD6.out.one k hk).1))
                      have HD7 := Lib.hid ((HD6.out.later (bel1 w6 (.cells #[.int .i64 px, .int .i64 py] 73))).add (px, py) HO4.out HG.out HAT.out)
                      go_roundg (9 - (k + 1))
                      case measure => rw [HM2.out]; omega
                      case rel =>
                        exact ⟨k + 1, rfl, by omega, by go_num, HYS.out HLN.out HD7.out, HB7.out⟩
                  · have g2 : ((nn : Int) == 2) = false := by simp; omega
                    have HLN : Hid (lifeL l (px, py) = false) := by show _ = _; rw [HFL.out]; simp [ruleB]; omega
                    go_wp2_with fail
                    go_roundg (9 - (k + 1))
                    case measure => rw [HM2.out]; omega
                    case rel =>
                      exact ⟨k + 1, rfl, by omega, by go_num, HNO.out HLN.out, HB6.out⟩
        · obtain rfl : k = 9 := by omega
          have hgj2 : decide (((9 : Nat) : Int) < 9) = false := by simp
          go_wp2_with fail
          go_roundg (l.length - (i + 1))
          case measure => rw [HM.out]; omega
          case rel =>
            obtain ⟨L, M, hd, h1, h2, h3, h4⟩ := HN.out.rows
            exact ⟨i + 1, rfl, by omega, by go_num, ⟨L, M, hd, h1, h2, fun p => by rw [h3 p, vis_row], by omega⟩, HB.out⟩
    · obtain rfl : i = l.length := by omega
      have hgj : decide ((l.length : Int) < (l.length : Int)) = false := by simp
      obtain ⟨L, M, hd, h1, h2, h3, h4⟩ := HN.out.rows
      have HZ := Lib.hid hd.one
      have HY : Hid (L.Nodup ∧ (∀ p, p ∈ L ↔ lifeL l p = true) ∧ L.length ≤ 9 * l.length) := by
        refine ⟨by rw [h1]; exact h2.filter _, fun p => ?_, ?_⟩
        · rw [h1, List.mem_filter, h3 p]
          exact ⟨fun h => h.2, fun h => ⟨life_vis h, h⟩⟩
        · have := List.length_filter_le (lifeL l) M
          rw [← h1] at this; omega
      clear hd h1 h2 h3 h4 HN
      go_wp2_with fail
      go_ret
      exact ⟨_, L, rfl, HZ.out, HY.out.1, HY.out.2.1, HY.out.2.2, HB.out⟩
end Go.Proofs.YtaapkngpnlnjeaaGreatDoor
