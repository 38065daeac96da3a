/- Package rle: New: contracts. -/
import Derived.Test.YtnfjmmkokhncoaaGreatSrp
namespace Go.Proofs.YtnfjmmkokhncoaaGreat
open Go.RowKit Go.Shelf Go.Sort

theorem lo_le : ∀ (l : List (Int × Int)) (a : Int × Int), ((l.foldl loF a).1 ≤ a.1 ∧ (l.foldl loF a).2 ≤ a.2) ∧ ∀ c ∈ l, (l.foldl loF a).1 ≤ c.1 ∧ (l.foldl loF a).2 ≤ c.2
  | [], a => ⟨⟨Int.le_refl _, Int.le_refl _⟩, fun c hc => by cases hc⟩
  | d :: l, a => by
    obtain ⟨h1, h2⟩ := lo_le l (loF a d)
    simp only [List.foldl_cons]
    unfold loF at h1
    simp only [] at h1
    refine ⟨by unfold loF; omega, fun c hc => ?_⟩
    rcases List.mem_cons.1 hc with rfl | hc
    · unfold loF; omega
    · exact h2 c hc
theorem hi_ge : ∀ (l : List (Int × Int)) (a : Int × Int), (a.1 ≤ (l.foldl hiF a).1 ∧ a.2 ≤ (l.foldl hiF a).2) ∧ ∀ c ∈ l, c.1 ≤ (l.foldl hiF a).1 ∧ c.2 ≤ (l.foldl hiF a).2
  | [], a => ⟨⟨Int.le_refl _, Int.le_refl _⟩, fun c hc => by cases hc⟩
  | d :: l, a => by
    obtain ⟨h1, h2⟩ := hi_ge l (hiF a d)
    simp only [List.foldl_cons]
    unfold hiF at h1
    simp only [] at h1
    refine ⟨by unfold hiF; omega, fun c hc => ?_⟩
    rcases List.mem_cons.1 hc with rfl | hc
    · unfold hiF; omega
    · exact h2 c hc
/-- Whole numbers whose sums and differences fit. -/
def fits (c : Int × Int) : Prop := -2305843009213693952 < c.1 ∧ c.1 < 2305843009213693952 ∧ -2305843009213693952 < c.2 ∧ c.2 < 2305843009213693952
theorem lo_fits : ∀ (l : List (Int × Int)) (a : Int × Int), fits a → (∀ c ∈ l, fits c) → fits (l.foldl loF a)
  | [], _, h, _ => h
  | d :: l, a, h, hl => by
    simp only [List.foldl_cons]
    refine lo_fits l _ ?_ (fun c hc => hl c (by simp [hc]))
    have hd := hl d (by simp)
    unfold fits loF at *
    simp only []
    omega
theorem hi_fits : ∀ (l : List (Int × Int)) (a : Int × Int), fits a → (∀ c ∈ l, fits c) → fits (l.foldl hiF a)
  | [], _, h, _ => h
  | d :: l, a, h, hl => by
    simp only [List.foldl_cons]
    refine hi_fits l _ ?_ (fun c hc => hl c (by simp [hc]))
    have hd := hl d (by simp)
    unfold fits hiF at *
    simp only []
    omega

theorem res_start (w : World) : ∃ W0, (w.alloc (.cells #[.int .i64 0, .int .i64 0, .slice none 0 0] 69)).alloc (.cells #[.int .i64 0, .int .i64 0] 24) = W0 ∧ Below w.heap.size w W0 ∧ W0.heap[w.heap.size]? = some (.cells #[.int .i64 0, .int .i64 0, .slice none 0 0] 69 (0, 0)) ∧ PzAt W0 (w.heap.size + 1) (0, 0) := by
  refine ⟨_, rfl, by go_grown, ?_, ?_⟩
  · rw [Lib.alloc_old _ _ _ (by simp)]; exact heap_alloc_new w _
  · have := pz_new (w.alloc (.cells #[.int .i64 0, .int .i64 0, .slice none 0 0] 69)) (0, 0)
    rw [World.size_alloc] at this
    exact this

theorem res_put {W w : World} {b : Nat} {c0 c1 c2 : Value} {T : TypeId} {z : Int × Int} (hp : W.heap[b]? = some (.cells #[c0, c1, c2] T (0, 0))) (hz : PzAt W (b + 1) z) (hb : Below b w W) (x y s : Value) (d : Int × Int) :
    ∃ W5, ((((W.setCell ⟨b, 0, none⟩ x).setCell ⟨b, 1, none⟩ y).setCell ⟨b, 2, none⟩ s).setCell ⟨b + 1, 0, none⟩ (.int .i64 d.1)).setCell ⟨b + 1, 1, none⟩ (.int .i64 d.2) = W5 ∧ Below b w W5 ∧ W5.heap[b]? = some (.cells #[x, y, s] T (0, 0)) ∧ PzAt W5 (b + 1) d ∧ W5.heap.size = W.heap.size ∧ ∀ k, k ≠ b → k ≠ b + 1 → W5.heap[k]? = W.heap[k]? := by
  obtain ⟨W3, hW3, hb3, hh3, hs3, hk3⟩ := pat_put hp hb (Nat.le_refl _) x y s
  rw [hW3]
  have hz3 : PzAt W3 (b + 1) z := by unfold PzAt; rw [hk3 (b + 1) (by omega)]; exact hz
  refine ⟨_, rfl, (hb3.setCell (p := ⟨b + 1, 0, none⟩) (Nat.le_succ _) _).setCell (p := ⟨b + 1, 1, none⟩) (Nat.le_succ _) _, ?_, hz3.put d, by simp [World.setCell, hs3], fun k h1 h2 => ?_⟩
  · rw [Below.heap_setCell _ _ _ _ (fun e => by simp at e), Below.heap_setCell _ _ _ _ (fun e => by simp at e)]; exact hh3
  · rw [Below.heap_setCell _ _ _ _ (fun e => h2 e), Below.heap_setCell _ _ _ _ (fun e => h2 e)]; exact hk3 k h1
set_option maxRecDepth 100000 in
set_option maxHeartbeats 2000000 in
theorem pnew_none (a : Option Addr) (cap : Nat) (w : World) :
    Calls Tryz.prog 25 #[.slice a 0 cap] w fun e w' => e = .returned (.tuple #[.agg #[.int .i64 0, .int .i64 0, .slice none 0 0], .agg #[.int .i64 0, .int .i64 0], .bool false]) ∧ Below w.heap.size w w' := by
  obtain ⟨W0, hW0, hb0, hp0, hz0⟩ := res_start w
  have HW0 := Lib.hid hW0
  go_enter Tryz.func25, Tryz.ntmps25
  clear hW0
  go_upto_region 2 with fail
  rw [HW0.out]
  have d0 : W0.cell? ⟨w.heap.size, 0, none⟩ = some (.int .i64 0) := by rw [Lib.cell_of_heap hp0]; rfl
  have d1 : W0.cell? ⟨w.heap.size, 1, none⟩ = some (.int .i64 0) := by rw [Lib.cell_of_heap hp0]; rfl
  have d2 : W0.cell? ⟨w.heap.size, 2, none⟩ = some (.slice none 0 0) := by rw [Lib.cell_of_heap hp0]; rfl
  have g0 := Lib.frozen_of_heap hp0 0
  have g1 := Lib.frozen_of_heap hp0 1
  have g2 := Lib.frozen_of_heap hp0 2
  obtain ⟨e0, e1, e2, e3⟩ := hz0.cells
  have HP0 := Lib.hid hp0
  have HZ0 := Lib.hid hz0
  have HB0 := Lib.hid hb0
  clear hp0 hz0 hb0
  go_wp2_with fail
  obtain ⟨W5, hW5, hb5, hp5, hz5, _, _⟩ := res_put HP0.out HZ0.out HB0.out (.int .i64 0) (.int .i64 0) (.slice none 0 0) (0, 0)
  rw [hW5]
  have q0 : W5.cell? ⟨w.heap.size, 0, none⟩ = some (.int .i64 0) := by rw [Lib.cell_of_heap hp5]; rfl
  have q1 : W5.cell? ⟨w.heap.size, 1, none⟩ = some (.int .i64 0) := by rw [Lib.cell_of_heap hp5]; rfl
  have q2 : W5.cell? ⟨w.heap.size, 2, none⟩ = some (.slice none 0 0) := by rw [Lib.cell_of_heap hp5]; rfl
  obtain ⟨q3, q4, _⟩ := hz5.cells
  refine bodyPost_ret (v := _) (by simp [results, Tryz.results25, go_sem, q0, q1, q2, q3, q4]; rfl) rfl ?_
  exact ⟨rfl, hb5⟩

/-- What New knows before it makes a pattern: where its results are, the least and the greatest. -/
structure NS (w : World) (lb : Nat) (lo hi : Int × Int) (W : World) : Prop where
  bel : Below w.heap.size w W
  pat : W.heap[w.heap.size]? = some (.cells #[.int .i64 0, .int .i64 0, .slice none 0 0] 69 (0, 0))
  pt : PzAt W (w.heap.size + 1) (0, 0)
  least : PzAt W lb lo
  great : PzAt W (lb + 1) hi
  lt : w.heap.size + 1 < lb
theorem NS.later {w W W' : World} {lb : Nat} {lo hi : Int × Int} (h : NS w lb lo hi W) (hb : Below W.heap.size W W') : NS w lb lo hi W' :=
  ⟨h.bel.trans (hb.mono h.bel.size), by rw [hb.block _ (Array.getElem?_eq_some_iff.1 h.pat).1]; exact h.pat, h.pt.later hb, h.least.later hb, h.great.later hb, h.lt⟩
/-- A pattern in a block of the call's own. -/
def PatAt (w : World) (b : Nat) (x y s : Value) : Prop := w.heap[b]? = some (.cells #[x, y, s] 69 (0, 0))
theorem PatAt.cells {w : World} {b : Nat} {x y s : Value} (h : PatAt w b x y s) : w.cell? ⟨b, 0, none⟩ = some x ∧ w.cell? ⟨b, 1, none⟩ = some y ∧ w.cell? ⟨b, 2, none⟩ = some s ∧ w.frozen? ⟨b, 0, none⟩ = false ∧ w.frozen? ⟨b, 1, none⟩ = false ∧ w.frozen? ⟨b, 2, none⟩ = false :=
  ⟨by rw [Lib.cell_of_heap h]; rfl, by rw [Lib.cell_of_heap h]; rfl, by rw [Lib.cell_of_heap h]; rfl, Lib.frozen_of_heap h 0, Lib.frozen_of_heap h 1, Lib.frozen_of_heap h 2⟩
theorem PatAt.lt {w : World} {b : Nat} {x y s : Value} (h : PatAt w b x y s) : b < w.heap.size := (Array.getElem?_eq_some_iff.1 h).1
theorem PatAt.later {w w' : World} {b : Nat} {x y s : Value} (h : PatAt w b x y s) (hb : Below w.heap.size w w') : PatAt w' b x y s := by unfold PatAt; rw [hb.block b h.lt]; exact h
theorem PatAt.oth {w w' : World} {b g : Nat} {x y s : Value} (h : PatAt w b x y s) (ho : Oth g w w') (hne : b ≠ g) : PatAt w' b x y s := by unfold PatAt; rw [ho.2 b h.lt hne]; exact h
theorem NS.oth {w W W' : World} {lb g : Nat} {lo hi : Int × Int} (h : NS w lb lo hi W) (ho : Oth g W W') (hg : lb + 1 < g) : NS w lb lo hi W' := by
  have hlt := h.lt
  refine ⟨h.bel.trans (ho.1.mono (by omega)), ?_, h.pt.oth ho (by omega), h.least.oth ho (by omega), h.great.oth ho (by omega), h.lt⟩
  rw [ho.2 _ (Array.getElem?_eq_some_iff.1 h.pat).1 (by omega)]; exact h.pat
theorem ZRow.blk {w w' : World} {g : Nat} {zs : List (Int × Int)} (h : ZRow w g zs) (hs : w.heap.size ≤ w'.heap.size) (hb : w'.heap[g]? = w.heap[g]?) : ZRow w' g zs :=
  ⟨Nat.lt_of_lt_of_le h.1 hs, fun j c hc => by
    obtain ⟨h1, h2, h3, h4⟩ := h.2 j c hc
    exact ⟨(World.cell?_of_block (a := ⟨g, j * 2, none⟩) hb).trans h1, (World.cell?_of_block (a := ⟨g, j * 2 + 1, none⟩) hb).trans h2, (World.frozen?_of_block (a := ⟨g, j * 2, none⟩) hb).trans h3, (World.frozen?_of_block (a := ⟨g, j * 2 + 1, none⟩) hb).trans h4⟩⟩
theorem PatAt.put2 {w : World} {b : Nat} {x y s : Value} (h : PatAt w b x y s) (s' : Value) : PatAt (w.setCell ⟨b, 2, none⟩ s') b x y s' := by
  unfold PatAt at h ⊢
  simp only [World.setCell, Array.getElem?_modify, h]
  simp
theorem ns_start {w w1 : World} (hs1 : w.heap.size + 1 < w1.heap.size) (hb : Below w.heap.size w w1) (hp : w1.heap[w.heap.size]? = some (.cells #[.int .i64 0, .int .i64 0, .slice none 0 0] 69 (0, 0))) (hz : PzAt w1 (w.heap.size + 1) (0, 0)) (lo hi : Int × Int) :
    NS w w1.heap.size lo hi ((w1.alloc (.cells #[.int .i64 lo.1, .int .i64 lo.2] 24)).alloc (.cells #[.int .i64 hi.1, .int .i64 hi.2] 24)) := by
  have hb2 : Below w1.heap.size w1 ((w1.alloc (.cells #[.int .i64 lo.1, .int .i64 lo.2] 24)).alloc (.cells #[.int .i64 hi.1, .int .i64 hi.2] 24)) := by go_grown
  refine ⟨hb.trans (hb2.mono hb.size), by rw [hb2.block _ (by omega)]; exact hp, hz.later hb2, (pz_new w1 lo).later (bel1 _ _), ?_, hs1⟩
  have := pz_new (w1.alloc (.cells #[.int .i64 lo.1, .int .i64 lo.2] 24)) hi
  rw [World.size_alloc] at this
  exact this
set_option maxRecDepth 100000 in
set_option maxHeartbeats 2000000 in
theorem pnew_great (c : Int × Int) (r : List (Int × Int)) (a : Option Addr) (n cap : Nat) (w : World) (h : Pts w w.heap.size a (c :: r)) (hn : n = r.length + 1) (hl : n ≤ 20000) (hf : ∀ d ∈ c :: r, fits d)
    (hg : ¬ (((c :: r).foldl hiF c).1 - ((c :: r).foldl loF c).1 < 1024 ∧ ((c :: r).foldl hiF c).2 - ((c :: r).foldl loF c).2 < 1024)) :
    Calls Tryz.prog 25 #[.slice a n cap] w fun e w' => e = .returned (.tuple #[.agg #[.int .i64 0, .int .i64 0, .slice none 0 0], .agg #[.int .i64 0, .int .i64 0], .bool false]) ∧ Below w.heap.size w w' := by
  have hfc := hf c (by simp)
  have hlf := lo_fits (c :: r) c hfc hf
  have hhf := hi_fits (c :: r) c hfc hf
  have hle : ((c :: r).foldl loF c).1 ≤ ((c :: r).foldl hiF c).1 ∧ ((c :: r).foldl loF c).2 ≤ ((c :: r).foldl hiF c).2 := by
    have h1 := (lo_le (c :: r) c).1
    have h2 := (hi_ge (c :: r) c).1
    omega
  have HE : Hid (∀ W, Below w.heap.size w W → Calls Tryz.prog 48 #[.slice a n cap] W fun e w' => e = .returned (.tuple #[.agg #[.int .i64 ((c :: r).foldl loF c).1, .int .i64 ((c :: r).foldl loF c).2], .agg #[.int .i64 ((c :: r).foldl hiF c).1, .int .i64 ((c :: r).foldl hiF c).2]]) ∧ Below W.heap.size W w') := fun W hb => ends_any c r a n cap W ((h.later hb (Nat.le_refl _)).mono hb.size) hn (by omega)
  clear h hf
  generalize (c :: r).foldl loF c = lo at *
  generalize (c :: r).foldl hiF c = hi at *
  unfold fits at hlf hhf
  have HS1 : Hid (∀ W, Calls Tryz.prog 49 #[.int .i64 lo.1, .int .i64 hi.1] W fun e w' => e = .returned (.bool (decide (hi.1 - lo.1 < 1024))) ∧ W = w') := fun W => isSide_any lo.1 hi.1 W (by omega) (by omega) (by omega) (by omega) hle.1
  have HS2 : Hid (∀ W, Calls Tryz.prog 49 #[.int .i64 lo.2, .int .i64 hi.2] W fun e w' => e = .returned (.bool (decide (hi.2 - lo.2 < 1024))) ∧ W = w') := fun W => isSide_any lo.2 hi.2 W (by omega) (by omega) (by omega) (by omega) hle.2
  obtain ⟨W0, hW0, hb0, hp0, hz0⟩ := res_start w
  have HW0 := Lib.hid hW0
  have HB0 := Lib.hid hb0
  have HP0 := Lib.hid hp0
  have HZ0 := Lib.hid hz0
  have hq0 : ((n : Int) == 0) = false := by rw [beq_eq_false_iff_ne]; omega
  have hq1 : decide ((20000 : Int) < (n : Int)) = false := by simp; omega
  clear hW0 hb0 hp0 hz0 hn
  go_enter Tryz.func25, Tryz.ntmps25
  go_wp2_with fail
  rw [HW0.out]
  refine (HE.out _ HB0.out).mono ?_
  rintro e w1 ⟨rfl, hb1⟩
  have hs1 : w.heap.size + 1 < w1.heap.size := Nat.lt_of_lt_of_le HZ0.out.lt hb1.size
  have HB1 : Hid (Below w.heap.size w w1) := HB0.out.trans (hb1.mono HB0.out.size)
  have HP1 : Hid (w1.heap[w.heap.size]? = some (.cells #[.int .i64 0, .int .i64 0, .slice none 0 0] 69 (0, 0))) := by show _ = _; rw [hb1.block _ (Array.getElem?_eq_some_iff.1 HP0.out).1]; exact HP0.out
  have HZ1 := Lib.hid (HZ0.out.later hb1)
  clear hb1 HB0 HP0 HZ0 HW0 W0
  go_upto_region 4 with fail
  have HNS : Hid (NS w w1.heap.size lo hi ((w1.alloc (.cells #[.int .i64 lo.1, .int .i64 lo.2] 24)).alloc (.cells #[.int .i64 hi.1, .int .i64 hi.2] 24))) := ns_start hs1 HB1.out HP1.out HZ1.out lo hi
  clear HB1 HP1 HZ1
  generalize (w1.alloc (.cells #[.int .i64 lo.1, .int .i64 lo.2] 24)).alloc (.cells #[.int .i64 hi.1, .int .i64 hi.2] 24) = w2 at *
  generalize w1.heap.size = lb at *
  obtain ⟨l0, l1, _⟩ := HNS.out.least.cells
  obtain ⟨g0, g1, _⟩ := HNS.out.great.cells
  by_cases hg1 : hi.1 - lo.1 < 1024
  · have hg2 : ¬ hi.2 - lo.2 < 1024 := fun e => hg ⟨hg1, e⟩
    rw [decide_eq_true hg1] at HS1
    rw [decide_eq_false hg2] at HS2
    clear hg hg1 hg2
    go_wp2_with fail
    refine (HS1.out _).mono ?_
    rintro e w' ⟨rfl, rfl⟩
    go_wp2_with fail
    refine (HS2.out _).mono ?_
    rintro e w' ⟨rfl, rfl⟩
    have HP := Lib.hid HNS.out.pat
    have d0 : w2.cell? ⟨w.heap.size, 0, none⟩ = some (.int .i64 0) := by rw [Lib.cell_of_heap HP.out]; rfl
    have d1 : w2.cell? ⟨w.heap.size, 1, none⟩ = some (.int .i64 0) := by rw [Lib.cell_of_heap HP.out]; rfl
    have d2 : w2.cell? ⟨w.heap.size, 2, none⟩ = some (.slice none 0 0) := by rw [Lib.cell_of_heap HP.out]; rfl
    have f0 := Lib.frozen_of_heap HP.out 0
    have f1 := Lib.frozen_of_heap HP.out 1
    have f2 := Lib.frozen_of_heap HP.out 2
    obtain ⟨e0, e1, e2, e3⟩ := HNS.out.pt.cells
    go_wp2_with fail
    obtain ⟨W5, hW5, hb5, hp5, hz5, _, _⟩ := res_put HP.out HNS.out.pt HNS.out.bel (.int .i64 0) (.int .i64 0) (.slice none 0 0) (0, 0)
    rw [hW5]
    have q0 : W5.cell? ⟨w.heap.size, 0, none⟩ = some (.int .i64 0) := by rw [Lib.cell_of_heap hp5]; rfl
    have q1 : W5.cell? ⟨w.heap.size, 1, none⟩ = some (.int .i64 0) := by rw [Lib.cell_of_heap hp5]; rfl
    have q2 : W5.cell? ⟨w.heap.size, 2, none⟩ = some (.slice none 0 0) := by rw [Lib.cell_of_heap hp5]; rfl
    obtain ⟨q3, q4, _⟩ := hz5.cells
    refine bodyPost_ret (v := _) (by simp [results, Tryz.results25, go_sem, q0, q1, q2, q3, q4]; rfl) rfl ?_
    exact ⟨rfl, hb5⟩
  · rw [decide_eq_false hg1] at HS1
    clear hg hg1
    go_wp2_with fail
    refine (HS1.out _).mono ?_
    rintro e w' ⟨rfl, rfl⟩
    have HP := Lib.hid HNS.out.pat
    have d0 : w2.cell? ⟨w.heap.size, 0, none⟩ = some (.int .i64 0) := by rw [Lib.cell_of_heap HP.out]; rfl
    have d1 : w2.cell? ⟨w.heap.size, 1, none⟩ = some (.int .i64 0) := by rw [Lib.cell_of_heap HP.out]; rfl
    have d2 : w2.cell? ⟨w.heap.size, 2, none⟩ = some (.slice none 0 0) := by rw [Lib.cell_of_heap HP.out]; rfl
    have f0 := Lib.frozen_of_heap HP.out 0
    have f1 := Lib.frozen_of_heap HP.out 1
    have f2 := Lib.frozen_of_heap HP.out 2
    obtain ⟨e0, e1, e2, e3⟩ := HNS.out.pt.cells
    go_wp2_with fail
    obtain ⟨W5, hW5, hb5, hp5, hz5, _, _⟩ := res_put HP.out HNS.out.pt HNS.out.bel (.int .i64 0) (.int .i64 0) (.slice none 0 0) (0, 0)
    rw [hW5]
    have q0 : W5.cell? ⟨w.heap.size, 0, none⟩ = some (.int .i64 0) := by rw [Lib.cell_of_heap hp5]; rfl
    have q1 : W5.cell? ⟨w.heap.size, 1, none⟩ = some (.int .i64 0) := by rw [Lib.cell_of_heap hp5]; rfl
    have q2 : W5.cell? ⟨w.heap.size, 2, none⟩ = some (.slice none 0 0) := by rw [Lib.cell_of_heap hp5]; rfl
    obtain ⟨q3, q4, _⟩ := hz5.cells
    refine bodyPost_ret (v := _) (by simp [results, Tryz.results25, go_sem, q0, q1, q2, q3, q4]; rfl) rfl ?_
    exact ⟨rfl, hb5⟩
/-- A pattern whose cells lie in a block that was not there. -/
def PatN (B : Nat) (v : Value) : Prop := ∀ x y bk off m u z, v = .agg #[x, y, .slice (some ⟨bk, off, z⟩) m u] → B ≤ bk
set_option maxRecDepth 100000 in
set_option maxHeartbeats 2000000 in
theorem pnew_goodN (c : Int × Int) (r : List (Int × Int)) (a : Option Addr) (n cap : Nat) (w : World) (h : Pts w w.heap.size a (c :: r)) (hn : n = r.length + 1) (hl : n ≤ 20000) (hf : ∀ d ∈ c :: r, fits d)
    (lo hi : Int × Int) (hlo : (c :: r).foldl loF c = lo) (hhi : (c :: r).foldl hiF c = hi) (hg : hi.1 - lo.1 < 1024 ∧ hi.2 - lo.2 < 1024) :
    Calls Tryz.prog 25 #[.slice a n cap] w fun e w' => (∃ v, e = .returned (.tuple #[v, .agg #[.int .i64 lo.1, .int .i64 lo.2], .bool true]) ∧ PatV w' (hi.1 - lo.1 + 1).toNat (hi.2 - lo.2 + 1).toNat (cellsN (c :: r) lo) v ∧ PatN w.heap.size v) ∧ Below w.heap.size w w' := by
  have hfc := hf c (by simp)
  have hlf := lo_fits (c :: r) c hfc hf
  have hhf := hi_fits (c :: r) c hfc hf
  have hle : ((c :: r).foldl loF c).1 ≤ ((c :: r).foldl hiF c).1 ∧ ((c :: r).foldl loF c).2 ≤ ((c :: r).foldl hiF c).2 := by
    have h1 := (lo_le (c :: r) c).1
    have h2 := (hi_ge (c :: r) c).1
    omega
  have HE : Hid (∀ W, Below w.heap.size w W → Calls Tryz.prog 48 #[.slice a n cap] W fun e w' => e = .returned (.tuple #[.agg #[.int .i64 ((c :: r).foldl loF c).1, .int .i64 ((c :: r).foldl loF c).2], .agg #[.int .i64 ((c :: r).foldl hiF c).1, .int .i64 ((c :: r).foldl hiF c).2]]) ∧ Below W.heap.size W w') := fun W hb => ends_any c r a n cap W ((h.later hb (Nat.le_refl _)).mono hb.size) hn (by omega)
  have hlo2 := (lo_le (c :: r) c).2
  have HLESS : Hid (∀ W, Below w.heap.size w W → Calls Tryz.prog 50 #[.slice a n cap, .agg #[.int .i64 ((c :: r).foldl loF c).1, .int .i64 ((c :: r).foldl loF c).2]] W fun e w' => ∃ g, e = .returned (.slice (some ⟨g, 0, none⟩) n n) ∧ W.heap.size ≤ g ∧ ZRow w' g ((c :: r).map fun d => (d.1 - ((c :: r).foldl loF c).1, d.2 - ((c :: r).foldl loF c).2)) ∧ Below W.heap.size W w') := fun W hb => less_any (c :: r) ((c :: r).foldl loF c) a n cap W ((h.later hb (Nat.le_refl _)).mono hb.size) hn (by omega) hl (fun d hd => by
    have h1 := hf d hd
    unfold fits at h1 hlf
    omega)
  rw [hlo] at HE HLESS hlf hle hlo2
  rw [hhi] at HE hhf hle
  have HCN := Lib.hid (cellsN_zc (c :: r) lo hlo2)
  have HCL : Hid ((cellsN (c :: r) lo).length = (cellsZ (c :: r) lo).length) := by show _ = _; unfold cellsN; simp
  have HCZ : Hid (cellsZ (c :: r) lo = cmpS (sortZ ((c :: r).map fun d => (d.1 - lo.1, d.2 - lo.2)))) := rfl
  have hmn : n = ((c :: r).map fun d => (d.1 - lo.1, d.2 - lo.2)).length := by simp [hn]
  have hsn : n = (sortZ ((c :: r).map fun d => (d.1 - lo.1, d.2 - lo.2))).length := by simp [sortZ, hn]
  have HMN := Lib.hid hmn
  have HSN := Lib.hid hsn
  clear h hf hlo hhi hlo2 hmn hsn
  unfold fits at hlf hhf
  have HS1 : Hid (∀ W, Calls Tryz.prog 49 #[.int .i64 lo.1, .int .i64 hi.1] W fun e w' => e = .returned (.bool (decide (hi.1 - lo.1 < 1024))) ∧ W = w') := fun W => isSide_any lo.1 hi.1 W (by omega) (by omega) (by omega) (by omega) hle.1
  have HS2 : Hid (∀ W, Calls Tryz.prog 49 #[.int .i64 lo.2, .int .i64 hi.2] W fun e w' => e = .returned (.bool (decide (hi.2 - lo.2 < 1024))) ∧ W = w') := fun W => isSide_any lo.2 hi.2 W (by omega) (by omega) (by omega) (by omega) hle.2
  obtain ⟨W0, hW0, hb0, hp0, hz0⟩ := res_start w
  have HW0 := Lib.hid hW0
  have HB0 := Lib.hid hb0
  have HP0 := Lib.hid hp0
  have HZ0 := Lib.hid hz0
  have hq0 : ((n : Int) == 0) = false := by rw [beq_eq_false_iff_ne]; omega
  have hq1 : decide ((20000 : Int) < (n : Int)) = false := by simp; omega
  clear hW0 hb0 hp0 hz0 hn
  go_enter Tryz.func25, Tryz.ntmps25
  go_wp2_with fail
  rw [HW0.out]
  refine (HE.out _ HB0.out).mono ?_
  rintro e w1 ⟨rfl, hb1⟩
  have hs1 : w.heap.size + 1 < w1.heap.size := Nat.lt_of_lt_of_le HZ0.out.lt hb1.size
  have HB1 : Hid (Below w.heap.size w w1) := HB0.out.trans (hb1.mono HB0.out.size)
  have HP1 : Hid (w1.heap[w.heap.size]? = some (.cells #[.int .i64 0, .int .i64 0, .slice none 0 0] 69 (0, 0))) := by show _ = _; rw [hb1.block _ (Array.getElem?_eq_some_iff.1 HP0.out).1]; exact HP0.out
  have HZ1 := Lib.hid (HZ0.out.later hb1)
  clear hb1 HB0 HP0 HZ0 HW0 W0
  go_upto_region 4 with fail
  have HNS : Hid (NS w w1.heap.size lo hi ((w1.alloc (.cells #[.int .i64 lo.1, .int .i64 lo.2] 24)).alloc (.cells #[.int .i64 hi.1, .int .i64 hi.2] 24))) := ns_start hs1 HB1.out HP1.out HZ1.out lo hi
  clear HB1 HP1 HZ1
  generalize (w1.alloc (.cells #[.int .i64 lo.1, .int .i64 lo.2] 24)).alloc (.cells #[.int .i64 hi.1, .int .i64 hi.2] 24) = w2 at *
  generalize w1.heap.size = lb at *
  obtain ⟨l0, l1, _⟩ := HNS.out.least.cells
  obtain ⟨g0, g1, _⟩ := HNS.out.great.cells
  rw [decide_eq_true hg.1] at HS1
  rw [decide_eq_true hg.2] at HS2
  go_wp2_with fail
  refine (HS1.out _).mono ?_
  rintro e w' ⟨rfl, rfl⟩
  go_wp2_with fail
  refine (HS2.out _).mono ?_
  rintro e w' ⟨rfl, rfl⟩
  go_upto_region 6 with fail
  have hw1 : IntKind.i64.wrap (hi.1 - lo.1) = hi.1 - lo.1 := IntWalk.i64_in _ (by omega)
  have hw2 : IntKind.i64.wrap (hi.1 - lo.1 + 1) = hi.1 - lo.1 + 1 := IntWalk.i64_in _ (by omega)
  have hw3 : IntKind.i64.wrap (hi.2 - lo.2) = hi.2 - lo.2 := IntWalk.i64_in _ (by omega)
  have hw4 : IntKind.i64.wrap (hi.2 - lo.2 + 1) = hi.2 - lo.2 + 1 := IntWalk.i64_in _ (by omega)
  have hll : lb < w2.heap.size := HNS.out.least.lt
  have hlg : lb + 1 < w2.heap.size := HNS.out.great.lt
  have k0 : (w2.alloc (.cells #[.int .i64 0, .int .i64 0, .slice none 0 0] 69)).drew.cell? ⟨lb, 0, none⟩ = some (.int .i64 lo.1) := ((bel1 w2 _).cell (p := ⟨lb, 0, none⟩) hll).trans l0
  have k1 : (w2.alloc (.cells #[.int .i64 0, .int .i64 0, .slice none 0 0] 69)).drew.cell? ⟨lb, 1, none⟩ = some (.int .i64 lo.2) := ((bel1 w2 _).cell (p := ⟨lb, 1, none⟩) hll).trans l1
  have k2 : (w2.alloc (.cells #[.int .i64 0, .int .i64 0, .slice none 0 0] 69)).drew.cell? ⟨lb + 1, 0, none⟩ = some (.int .i64 hi.1) := ((bel1 w2 _).cell (p := ⟨lb + 1, 0, none⟩) hlg).trans g0
  have k3 : (w2.alloc (.cells #[.int .i64 0, .int .i64 0, .slice none 0 0] 69)).drew.cell? ⟨lb + 1, 1, none⟩ = some (.int .i64 hi.2) := ((bel1 w2 _).cell (p := ⟨lb + 1, 1, none⟩) hlg).trans g1
  have j0 : w2.drew.cell? ⟨lb, 0, none⟩ = some (.int .i64 lo.1) := l0
  have j1 : w2.drew.cell? ⟨lb, 1, none⟩ = some (.int .i64 lo.2) := l1
  have j2 : w2.drew.cell? ⟨lb + 1, 0, none⟩ = some (.int .i64 hi.1) := g0
  have j3 : w2.drew.cell? ⟨lb + 1, 1, none⟩ = some (.int .i64 hi.2) := g1
  have HPN : Hid (PatAt (w2.alloc (.cells #[.int .i64 0, .int .i64 0, .slice none 0 0] 69)).drew w2.heap.size (.int .i64 0) (.int .i64 0) (.slice none 0 0)) := heap_alloc_new w2 _
  have n4 : ¬ lb = w2.heap.size := by omega
  have n5 : ¬ w2.heap.size = lb := by omega
  have n6 : ¬ lb + 1 = w2.heap.size := by omega
  have n7 : ¬ w2.heap.size = lb + 1 := by omega
  go_cut [7] from 39 to 54 (fun pv wx => ∃ pb g, pv = .pointer (some ⟨pb, 0, none⟩) ∧ PatAt wx pb (.int .i64 (hi.1 - lo.1 + 1)) (.int .i64 (hi.2 - lo.2 + 1)) (.slice (some ⟨g, 0, none⟩) n n) ∧ ZRow wx g ((c :: r).map fun d => (d.1 - lo.1, d.2 - lo.2)) ∧ pb ≠ g ∧ w2.heap.size ≤ pb ∧ w2.heap.size ≤ g ∧ Below w2.heap.size w2 wx)
  case first =>
    go_region_held3 (fun w' => w'.cell? ⟨lb, 0, none⟩ = some (.int .i64 lo.1) ∧ w'.cell? ⟨lb, 1, none⟩ = some (.int .i64 lo.2) ∧ w'.cell? ⟨lb + 1, 0, none⟩ = some (.int .i64 hi.1) ∧ w'.cell? ⟨lb + 1, 1, none⟩ = some (.int .i64 hi.2)) (go_keep)
      (first | (go_at_call 50; refine (HLESS.out _ ?_).mono ?_; (first | exact HNS.out.bel.drew | exact (HNS.out.bel.alloc HNS.out.bel.size _).drew); rintro e w3 ⟨g, rfl, hg3, hz3, hb3⟩; have hz4 : w2.heap.size ≤ w3.heap.size := (by have := hb3.size; simp at this; omega); have z0 := hb3.cell (p := ⟨lb, 0, none⟩) (by first | exact hll | (simp; omega)); have z1 := hb3.cell (p := ⟨lb, 1, none⟩) (by first | exact hll | (simp; omega)); have z2 := hb3.cell (p := ⟨lb + 1, 0, none⟩) (by first | exact hlg | (simp; omega)); have z3 := hb3.cell (p := ⟨lb + 1, 1, none⟩) (by first | exact hlg | (simp; omega)); have n8 : ¬ lb = w3.heap.size := (by omega); have n9 : ¬ lb + 1 = w3.heap.size := (by omega); first | (have q := HPN.out.later hb3; obtain ⟨q0, q1, q2, q3, q4, q5⟩ := q.cells; have HR := Lib.hid q; have HQ := Lib.hid hb3; have HG := Lib.hid hg3; have HZ := Lib.hid hz3; clear hb3 q hg3 hz3) | (have HQ := Lib.hid hb3; have HG := Lib.hid hg3; have HZ := Lib.hid hz3; clear hb3 hg3 hz3)))
    all_goals go_wp2_with fail
    all_goals go_meet
    · exact ⟨w3.heap.size, g, rfl, heap_alloc_new w3 _, HZ.out.later (bel1 _ _), by have := HZ.out.1; omega, hz4, HG.out, ((Below.drew (Below.refl _ _)).trans HQ.out).alloc hz4 _⟩
    · have hg4 : w2.heap.size + 1 ≤ g := by have := HG.out; simpa using this
      obtain ⟨W5, hW5, hb5, hp5, hs5, hk5⟩ := pat_put HR.out ((Below.drew ((Below.refl _ w2).alloc (Nat.le_refl _) _)).trans (HQ.out.mono (by simp))) (Nat.le_refl _) (.int .i64 (hi.1 - lo.1 + 1)) (.int .i64 (hi.2 - lo.2 + 1)) (.slice (some ⟨g, 0, none⟩) n n)
      rw [hW5]
      exact ⟨w2.heap.size, g, rfl, hp5, HZ.out.blk (by omega) (hk5 g (by omega)), by omega, Nat.le_refl _, by omega, hb5⟩
  case rest =>
  obtain ⟨pb, g, rfl, hpa, hzr, hpg, hpb, hgb, hbx⟩ := hcut
  have HN3 := Lib.hid (HNS.out.later hbx)
  have HPA := Lib.hid hpa
  have HZR := Lib.hid hzr
  clear hpa hzr hbx HNS HPN k0 k1 k2 k3 j0 j1 j2 j3 l0 l1 g0 g1 hw1 hw2 hw3 hw4 n4 n5 n6 n7
  obtain ⟨_, _, c2, _⟩ := HPA.out.cells
  go_wp2_with fail
  refine (sort_any g n _ _ HZR.out HMN.out hl).mono ?_
  rintro e w4 ⟨rfl, hz4, ho4⟩
  have HN4 := Lib.hid (HN3.out.oth ho4 (by omega))
  have HP4 := Lib.hid (HPA.out.oth ho4 hpg)
  have HZ4 := Lib.hid hz4
  clear hz4 ho4 c2 HN3 HPA HZR
  obtain ⟨_, _, c2, _⟩ := HP4.out.cells
  go_wp2_with fail
  refine (compact_any g n _ _ HZ4.out HSN.out hl).mono ?_
  rintro e w5 ⟨rfl, hz5, ho5⟩
  have HN5 := Lib.hid (HN4.out.oth ho5 (by omega))
  have HP5 := Lib.hid (HP4.out.oth ho5 hpg)
  rw [← HCZ.out] at hz5
  rw [← HCZ.out]
  have HZ5 := Lib.hid hz5
  clear hz5 ho5 c2 HN4 HP4 HZ4
  obtain ⟨_, _, c2, _, _, f2⟩ := HP5.out.cells
  generalize hkk : (cellsZ (c :: r) lo).length = kk at *
  have HKK := Lib.hid hkk
  clear hkk
  go_upto_region 9 with fail
  have HN6 : Hid (NS w lb lo hi (w5.setCell ⟨pb, 2, none⟩ (.slice (some ⟨g, 0, none⟩) kk n))) := HN5.out.oth ((Oth.refl pb w5).set 2 _) (by omega)
  have HP6 := Lib.hid (HP5.out.put2 (.slice (some ⟨g, 0, none⟩) kk n))
  have HZ6 : Hid (ZRow (w5.setCell ⟨pb, 2, none⟩ (.slice (some ⟨g, 0, none⟩) kk n)) g (cellsZ (c :: r) lo)) := HZ5.out.blk (by simp [World.setCell]) (Below.heap_setCell _ _ _ _ (fun e => hpg e.symm))
  clear c2 f2 HN5 HP5 HZ5
  generalize w5.setCell ⟨pb, 2, none⟩ (.slice (some ⟨g, 0, none⟩) kk n) = w6 at *
  obtain ⟨a0, a1, a2, _⟩ := HP6.out.cells
  obtain ⟨l0, l1, _⟩ := HN6.out.least.cells
  have d0 : w6.cell? ⟨w.heap.size, 0, none⟩ = some (.int .i64 0) := by rw [Lib.cell_of_heap HN6.out.pat]; rfl
  have d1 : w6.cell? ⟨w.heap.size, 1, none⟩ = some (.int .i64 0) := by rw [Lib.cell_of_heap HN6.out.pat]; rfl
  have d2 : w6.cell? ⟨w.heap.size, 2, none⟩ = some (.slice none 0 0) := by rw [Lib.cell_of_heap HN6.out.pat]; rfl
  have f0 := Lib.frozen_of_heap HN6.out.pat 0
  have f1 := Lib.frozen_of_heap HN6.out.pat 1
  have f2 := Lib.frozen_of_heap HN6.out.pat 2
  obtain ⟨e0, e1, e2, e3⟩ := HN6.out.pt.cells
  have hlt := HN6.out.lt
  have m1 : ¬ pb = w.heap.size := by omega
  have m2 : ¬ pb = w.heap.size + 1 := by omega
  have m3 : ¬ lb = w.heap.size := by omega
  have m4 : ¬ lb = w.heap.size + 1 := by omega
  go_region
  all_goals go_wp2_with fail
  obtain ⟨W5, hW5, hb5, hp5, hz5, hs5, hk5⟩ := res_put HN6.out.pat HN6.out.pt HN6.out.bel (.int .i64 (hi.1 - lo.1 + 1)) (.int .i64 (hi.2 - lo.2 + 1)) (.slice (some ⟨g, 0, none⟩) kk n) lo
  rw [hW5]
  have q0 : W5.drew.cell? ⟨w.heap.size, 0, none⟩ = some (.int .i64 (hi.1 - lo.1 + 1)) := (Lib.cell_of_heap hp5 _).trans rfl
  have q1 : W5.drew.cell? ⟨w.heap.size, 1, none⟩ = some (.int .i64 (hi.2 - lo.2 + 1)) := (Lib.cell_of_heap hp5 _).trans rfl
  have q2 : W5.drew.cell? ⟨w.heap.size, 2, none⟩ = some (.slice (some ⟨g, 0, none⟩) kk n) := (Lib.cell_of_heap hp5 _).trans rfl
  have q3 : W5.drew.cell? ⟨w.heap.size + 1, 0, none⟩ = some (.int .i64 lo.1) := hz5.cells.1
  have q4 : W5.drew.cell? ⟨w.heap.size + 1, 1, none⟩ = some (.int .i64 lo.2) := hz5.cells.2.1
  have HZ7 : Hid (ZRow W5.drew g (cellsZ (c :: r) lo)) := HZ6.out.blk (w' := W5.drew) (by show _ ≤ W5.heap.size; omega) (hk5 g (by omega) (by omega))
  have HB7 : Hid (Below w.heap.size w W5.drew) := hb5.drew
  clear hW5 hb5 hp5 hz5 hs5 hk5
  generalize W5.drew = W6 at *
  refine bodyPost_ret (v := _) (by simp [results, Tryz.results25, go_sem, q0, q1, q2, q3, q4]; rfl) rfl ?_
  have hcl : (cellsZ (c :: r) lo).length ≤ n := by
    rw [HSN.out]
    have := cmpS_len _ (sortZ ((c :: r).map fun d => (d.1 - lo.1, d.2 - lo.2))) (Nat.le_refl _)
    rw [← HCZ.out] at this
    exact this
  refine ⟨⟨_, rfl, ⟨some ⟨g, 0, none⟩, n, ?_, ?_, by omega, ?_⟩, fun x y bk off m u z hv => ?_⟩, HB7.out⟩
  · rw [HCL.out, Int.toNat_of_nonneg (by omega), Int.toNat_of_nonneg (by omega)]
  · rw [HCL.out, ← HKK.out]; exact hcl
  · rw [HCN.out]; exact HZ7.out.pts
  · injection hv with hv
    simp only [Array.mk.injEq, List.cons.injEq, Value.slice.injEq, Option.some.injEq, Addr.mk.injEq, and_true] at hv
    omega
theorem pnew_good (c : Int × Int) (r : List (Int × Int)) (a : Option Addr) (n cap : Nat) (w : World) (h : Pts w w.heap.size a (c :: r)) (hn : n = r.length + 1) (hl : n ≤ 20000) (hf : ∀ d ∈ c :: r, fits d)
    (lo hi : Int × Int) (hlo : (c :: r).foldl loF c = lo) (hhi : (c :: r).foldl hiF c = hi) (hg : hi.1 - lo.1 < 1024 ∧ hi.2 - lo.2 < 1024) :
    Calls Tryz.prog 25 #[.slice a n cap] w fun e w' => (∃ v, e = .returned (.tuple #[v, .agg #[.int .i64 lo.1, .int .i64 lo.2], .bool true]) ∧ PatV w' (hi.1 - lo.1 + 1).toNat (hi.2 - lo.2 + 1).toNat (cellsN (c :: r) lo) v) ∧ Below w.heap.size w w' :=
  (pnew_goodN c r a n cap w h hn hl hf lo hi hlo hhi hg).mono fun _ _ ⟨⟨v, h1, h2, _⟩, h3⟩ => ⟨⟨v, h1, h2⟩, h3⟩
end Go.Proofs.YtnfjmmkokhncoaaGreat
