-- M23
import Derived.Test.YtaapkngpnlnjeaaGreatM15
import Derived.Test.YtaapkngpnlnjeaaGreatM16
import Derived.Test.YtaapkngpnlnjeaaGreatM22
import Derived.Test.YtaapkngpnlnjeaaGreatM04
section
namespace Go.Proofs.YtaapkngpnlnjeaaGreat
open Go.RowKit
set_option maxRecDepth 100000

/-- The rectangle's points, row by row, as far as they have come. -/
def ptsU (p q : Int) (wd k : Nat) : List (Int × Int) := (List.range k).map fun m => (p + ((m % wd : Nat) : Int), q + ((m / wd : Nat) : Int))
theorem ptsU_succ (p q : Int) (wd k : Nat) : ptsU p q wd (k + 1) = ptsU p q wd k ++ [(p + ((k % wd : Nat) : Int), q + ((k / wd : Nat) : Int))] := by
  unfold ptsU
  rw [List.range_succ, List.map_append]
  rfl
theorem ptsU_len (p q : Int) (wd k : Nat) : (ptsU p q wd k).length = k := by simp [ptsU]
theorem ptsU_mem (p q : Int) (wd hg : Nat) (hw : 0 < wd) (a b : Int) : (a, b) ∈ ptsU p q wd (wd * hg) ↔ (R4.mk p q (p + (wd : Int)) (q + (hg : Int))).has a b = true := by
  rw [R4.has_iff]
  unfold ptsU
  simp only [List.mem_map, List.mem_range, Prod.mk.injEq]
  constructor
  · rintro ⟨m, hm, rfl, rfl⟩
    have h1 : m % wd < wd := Nat.mod_lt _ hw
    have h2 : m / wd < hg := Nat.div_lt_of_lt_mul hm
    generalize m % wd = u at *
    generalize m / wd = v at *
    omega
  · rintro ⟨⟨h1, h2⟩, h3, h4⟩
    obtain ⟨i, hi⟩ := Int.eq_ofNat_of_zero_le (show 0 ≤ a - p by omega)
    obtain ⟨j, hj⟩ := Int.eq_ofNat_of_zero_le (show 0 ≤ b - q by omega)
    have hi' : i < wd := by omega
    have hj' : j < hg := by omega
    refine ⟨wd * j + i, ?_, ?_, ?_⟩
    · have : wd * (j + 1) ≤ wd * hg := Nat.mul_le_mul_left _ hj'
      rw [Nat.mul_add, Nat.mul_one] at this
      omega
    · rw [Nat.mul_add_mod, Nat.mod_eq_of_lt hi']; omega
    · rw [Nat.mul_add_div hw, Nat.div_eq_of_lt hi', Nat.add_zero]; omega
theorem Ob.blk {w w' : World} {sb g tb b : Nat} {o : Obj} (h : Ob w sb g tb b o) (hb : w'.heap[b]? = w.heap[b]?) : Ob w' sb g tb b o := ⟨by rw [hb]; exact h.at_, h.sb_, h.g_, h.tb_⟩
theorem S8x.putObj {W : World} {sb g tb B x L : Nat} {A : Obj} {v : Value} (h : S8x W sb g tb B x A v) (hb : B + 1 + 1 + 1 < L) (o : Obj) : S8x (W.putObj L o) sb g tb B x A v :=
  ⟨h.pl.blk (World.putObj_heap_other (by omega)), h.lb.blk (World.putObj_heap_other (by omega)), h.ac.blk (World.putObj_heap_other (by omega)), h.res.blk (World.putObj_heap_other (by omega))⟩
theorem Rv8.putLoop {W : World} {sb g tb L : Nat} {a : Option Addr} {l : List (Int × Int)} {r : Loop} (h : Rv8 W sb g tb a l) (hl : W.heap[L]? = some (.loop r)) (o : Obj) : Rv8 (W.putObj L o) sb g tb a l := by
  refine ⟨fun j c hc => ?_, fun bk off e => ?_⟩
  · obtain ⟨bk, e1, e2, e3⟩ := h.1 j c hc
    by_cases hbl : bk = L
    · subst hbl
      simp [World.cell?, hl] at e2
    · have hbk : (W.putObj L o).heap[bk]? = W.heap[bk]? := World.putObj_heap_other hbl
      exact ⟨bk, e1, by rw [cell_blk8 hbk]; exact e2, by rw [cell_blk8 hbk]; exact e3⟩
  · have := h.2 bk off e
    simpa using this
theorem Rv8.putDef {W : World} {sb g tb L : Nat} {a : Option Addr} {l : List (Int × Int)} {d : Option (List Deferred)} (h : Rv8 W sb g tb a l) (hl : W.heap[L]? = some (.deferred d)) (o : Obj) : Rv8 (W.putObj L o) sb g tb a l := by
  refine ⟨fun j c hc => ?_, fun bk off e => ?_⟩
  · obtain ⟨bk, e1, e2, e3⟩ := h.1 j c hc
    by_cases hbl : bk = L
    · subst hbl
      simp [World.cell?, hl] at e2
    · have hbk : (W.putObj L o).heap[bk]? = W.heap[bk]? := World.putObj_heap_other hbl
      exact ⟨bk, e1, by rw [cell_blk8 hbk]; exact e2, by rw [cell_blk8 hbk]; exact e3⟩
  · have := h.2 bk off e
    simpa using this
theorem Lst.putLoop {w W : World} {sb g tb L : Nat} {a : Option Addr} {v : Value} {l : List (Int × Int)} {r : Loop} (h : Lst w W sb g tb a v l) (hl : W.heap[L]? = some (.loop r)) (o : Obj) : Lst w (W.putObj L o) sb g tb a v l := by
  obtain ⟨a0, c0, h1, h2, h3⟩ := h
  exact ⟨a0, c0, h1, h2.putLoop hl o, h3⟩
theorem Nx.putObj {w W : World} {sb tb most g g' c L : Nat} {N N' : List Nd} (h : Nx sb tb most w g N c W g' N') (hw : w.heap.size ≤ L) (h1 : L ≠ sb) (h2 : L ≠ g') (h3 : L ≠ tb) (o : Obj) : Nx sb tb most w g N c (W.putObj L o) g' N' := by
  obtain ⟨cap, hs⟩ := h.st
  refine ⟨⟨cap, hs.keep (World.putObj_heap_other (Ne.symm h1)) (World.putObj_heap_other (Ne.symm h2)) (World.putObj_heap_other (Ne.symm h3))⟩, ⟨h.frm.os, h.frm.tape, h.frm.output, by simpa using h.frm.size, fun b hb hn => ?_⟩, h.gin, h.ext⟩
  rw [World.putObj_heap_other (by omega)]
  exact h.frm.block b hb hn
theorem Nx.low {w W : World} {sb tb most g g' c b i : Nat} {N N' : List Nd} (h : Nx sb tb most w g N c W g' N') (hw : w.heap.size ≤ b) (h1 : b ≠ sb) (h2 : b ≠ g') (h3 : b ≠ tb) (v : Value) : Nx sb tb most w g N c (W.setCell ⟨b, i, none⟩ v) g' N' := by
  obtain ⟨cap, hs⟩ := h.st
  exact ⟨⟨cap, st_set8 hs h1 h2 h3 v⟩, h.frm.set4 hw _ _, h.gin, h.ext⟩
theorem lt_of_some {W : World} {b : Nat} {o : Obj} (h : W.heap[b]? = some o) : b < W.heap.size := (Array.getElem?_eq_some_iff.1 h).1
/-- The state between two rounds: D the marks' block, the loop's record behind it. -/
structure Jd8 (w : World) (sb g tb most c : Nat) (M : List Nd) (x : Nat) (A : Obj) (g4 : Nat) (M4 : List Nd) (rb : Nat) (R : Obj) (nb : Nat) (P : Obj) (a : Option Addr) (l : List (Int × Int)) (D : Nat) (r : Loop) (W : World) : Prop where
  v : ∃ v, S8x W sb g4 tb w.heap.size x A v ∧ Lst w W sb g4 tb a v l
  nx : Nx sb tb most w g M c W g4 M4
  rc : Ob W sb g4 tb rb R
  nb : Ob W sb g4 tb nb P
  lp : Ob W sb g4 tb (D + 1) (.loop r)
  df : W.heap[D]? = some (.deferred (some []))
theorem Jd8.later {w W W' : World} {sb g tb most c x g4 rb nb D : Nat} {M M4 : List Nd} {A R P : Obj} {a : Option Addr} {l : List (Int × Int)} {r : Loop} (h : Jd8 w sb g tb most c M x A g4 M4 rb R nb P a l D r W) (hb : Below W.heap.size W W') : Jd8 w sb g tb most c M x A g4 M4 rb R nb P a l D r W' := by
  obtain ⟨v, h1, h2⟩ := h.v
  obtain ⟨cap, hs⟩ := h.nx.st
  exact ⟨⟨v, h1.later hb, h2.later hb⟩, h.nx.trans (Nx.of_below hs hb), h.rc.later hb, h.nb.later hb, h.lp.later hb, (hb.block _ (lt_of_some h.df)).trans h.df⟩
theorem Jd8.put {w W : World} {sb g tb most c x g4 rb nb D : Nat} {M M4 : List Nd} {A R P : Obj} {a : Option Addr} {l : List (Int × Int)} {r : Loop} (h : Jd8 w sb g tb most c M x A g4 M4 rb R nb P a l D r W) (hD : w.heap.size + 1 + 1 + 1 < D ∧ rb < D ∧ nb < D) (r' : Loop) : Jd8 w sb g tb most c M x A g4 M4 rb R nb P a l D r' (W.putObj (D + 1) (.loop r')) := by
  obtain ⟨v, h1, h2⟩ := h.v
  exact ⟨⟨v, h1.putObj (by omega) _, h2.putLoop h.lp.at_ _⟩, h.nx.putObj (by omega) h.lp.sb_ h.lp.g_ h.lp.tb_ _, h.rc.blk (World.putObj_heap_other (by omega)), h.nb.blk (World.putObj_heap_other (by omega)), ⟨World.putObj_heap_same h.lp.lt, h.lp.sb_, h.lp.g_, h.lp.tb_⟩, (World.putObj_heap_other (by omega)).trans h.df⟩
theorem Jd8.drew {w W : World} {sb g tb most c x g4 rb nb D : Nat} {M M4 : List Nd} {A R P : Obj} {a : Option Addr} {l : List (Int × Int)} {r : Loop} (h : Jd8 w sb g tb most c M x A g4 M4 rb R nb P a l D r W) : Jd8 w sb g tb most c M x A g4 M4 rb R nb P a l D r W.drew := by
  obtain ⟨v, h1, h2⟩ := h.v
  exact ⟨⟨v, ⟨h1.pl.drew, h1.lb.drew, h1.ac.drew, h1.res.drew⟩, h2⟩, nx_drew8 h.nx, h.rc.drew, h.nb.drew, h.lp.drew, h.df⟩
/-- The list's variable is put. -/
theorem Jd8.list {w W : World} {sb g tb most c x g4 rb nb D : Nat} {M M4 : List Nd} {A R P : Obj} {a : Option Addr} {l l' : List (Int × Int)} {r : Loop} (h : Jd8 w sb g tb most c M x A g4 M4 rb R nb P a l D r W) (hD : w.heap.size + 1 + 1 + 1 < rb ∧ w.heap.size + 1 + 1 + 1 < nb ∧ w.heap.size + 1 + 1 + 1 < D) (ha : ∀ bk off, a = some ⟨bk, off, none⟩ → bk < w.heap.size) (u : Value) (hu : Lst w W sb g4 tb a u l') : Jd8 w sb g tb most c M x A g4 M4 rb R nb P a l' D r (W.setCell ⟨w.heap.size + 1, 0, none⟩ u) := by
  obtain ⟨v, h1, h2⟩ := h.v
  refine ⟨⟨u, h1.lbput u, hu.low ha ⟨by omega, by omega⟩ u⟩, h.nx.low (by omega) h1.lb.sb_ h1.lb.g_ h1.lb.tb_ u, h.rc.other (by show w.heap.size + 1 ≠ rb; omega) u, h.nb.other (by show w.heap.size + 1 ≠ nb; omega) u, h.lp.other (by show w.heap.size + 1 ≠ D + 1; omega) u, ?_⟩
  rw [Below.heap_setCell _ _ _ _ (by show D ≠ w.heap.size + 1; omega)]
  exact h.df
theorem inb_left {id l : Nat} {r : Loop} {R : Ending → World → Prop} {a : Act} {W : World} (h1 : W.heap[l]? = some (.loop (busyL r))) (h2 : R (.returned (.bool true)) (W.putObj l (.loop (readyL r)))) : Exit.inBlock id (leftBy l r R) .normal a W := ⟨h1, h2⟩
theorem ro_two (w : World) (a b c d : Int) (t : TypeId) : Ro (w.alloc (.cells #[.int .i64 a, .int .i64 b, .int .i64 c, .int .i64 d] t)) (some ⟨w.heap.size, 0, none⟩) [(a, b), (c, d)] := fun j e he => by
  match j, he with
  | 0, he => simp at he; subst he; exact ⟨_, rfl, by simp, by simp⟩
  | 1, he => simp at he; subst he; exact ⟨_, rfl, by simp, by simp⟩
  | j + 2, he => simp at he
theorem level_two {p q u v : Int} {n n4 : Nat} (h1 : n ≤ n4) (h2 : n4 ≤ 61) (h3 : n4 = 61 ∨ fitB n4 [(p, q), (u, v)] = true) (h4 : ∀ i, n ≤ i → i < n4 → fitB i [(p, q), (u, v)] = false) (w : World) :
    Calls Tryz.prog 35 #[.slice (some ⟨w.heap.size, 0, none⟩) 2 2, .int .i64 ((n : Int) + 1)] (w.alloc (.cells #[.int .i64 p, .int .i64 q, .int .i64 u, .int .i64 v] 45)) fun e w' => e = .returned (.int .i64 ((n4 : Int) + 1)) ∧ w.alloc (.cells #[.int .i64 p, .int .i64 q, .int .i64 u, .int .i64 v] 45) = w' :=
  level_ref [(p, q), (u, v)] (some ⟨w.heap.size, 0, none⟩) 2 n n4 h1 h2 h3 h4 _ (ro_two w p q _ _ 45) (by simp)
/-- A region that never panics. -/
def noPan (Q : Exit → Act → World → Prop) : Exit → Act → World → Prop
  | .panic _, _, _ => False
  | e, a, w => Q e a w
theorem noPan_n {Q : Exit → Act → World → Prop} {a : Act} {w : World} (h : Q .normal a w) : noPan Q .normal a w := h
theorem wp_np {P : Program} {c : Code} {Q : Exit → Act → World → Prop} {a : Act} {w : World} (h : c.wp P (noPan Q) a w) : c.wp P Q a w := wp_mono h (fun e _ _ h => by cases e <;> first | exact h | exact h.elim)
theorem region_sq_np {P : Program} {Q : Exit → Act → World → Prop} {id : Nat} {L : List Oper} {a : Act} {w : World} (s : Nat) (D : World → Prop) (js : List (Nat × Nat)) (hm : P.follows .mixedOrders = true) (hs : Region.noSelect L.toArray = true) (hl : js.length = L.length)
    (hB : sqB .any L s js 0 = true) (hD : D w.drew) (h : wpSq P L (noPan Q) D js a w.drew) : (Code.region id L.toArray true).wp P Q a w :=
  wp_mono (region_sq (Q := noPan Q) s D js hm hs hl (fun _ _ _ _ _ h => h) hB hD h) (fun e _ _ h => by cases e <;> first | exact h | exact h.elim)
/-- Set's answer is such a list. -/
theorem lst_set {w W W' : World} {sb g tb cap most : Nat} {N : List Nd} {a : Option Addr} {v : Value} {l : List (Int × Int)} (hs : St W sb g tb cap most N) (ho : OwP W' W.heap.size v l) (hw : w.heap.size + 1 + 1 + 1 < W.heap.size) : Lst w W' sb g tb a v l := by
  obtain ⟨h1, h2, h3⟩ := hs.lt
  exact lst_own ho ⟨h1, h2, h3, hw⟩
end Go.Proofs.YtaapkngpnlnjeaaGreat
end

section
namespace Go.Proofs.YtaapkngpnlnjeaaGreat
open Go.RowKit

section
variable {P : Program} {md : Region.Mode} {ops : Array Oper} {Q : Exit → Act → World → Prop} {s : Nat} {D : World → Prop}

def twoB (md : Region.Mode) (L : List Oper) (m k j : Nat) : Bool := allFrom (fun i o => i == k || i == j || m.testBit i || !upB md m o) 0 L
theorem two_ready {L : List Oper} {n m k j i : Nat} {l : Array Bool} (hM : Marks n l m) (hn : L.length = n) (h : twoB md L m k j = true) (hi : i ∈ Region.ready md L.toArray l) : i = k ∨ i = j := by
  apply Classical.byContradiction
  intro hne
  have n1 : i ≠ k := fun e => hne (Or.inl e)
  have n2 : i ≠ j := fun e => hne (Or.inr e)
  obtain ⟨_, oj, hoj, _⟩ := mem_ready.1 hi
  have hj' : L[i]? = some oj := by simpa using hoj
  obtain ⟨g1, g2⟩ := ready_up hM hn hj' hi
  have := allFrom_at h hj'
  rw [Nat.zero_add] at this
  simp [n1, n2, g1, g2] at this
def pairB (md : Region.Mode) (L : List Oper) (s m k j : Nat) : Bool := match L[k]?, L[j]? with
  | some ok, some oj => !m.testBit k && !m.testBit j && !(k == j) && upB md m ok && upB md m oj && twoB md L m k j && oneB md L (m ||| 2 ^ k) j && oneB md L (m ||| 2 ^ j) k && (!m.testBit s && !(k == s) && !(j == s))
  | _, _ => false
def wpPr (P : Program) (L : List Oper) (Q : Exit → Act → World → Prop) (D : World → Prop) (k j : Nat) (R : Act → World → Prop) (a : Act) (w : World) : Prop :=
  ∃ ok oj, L[k]? = some ok ∧ L[j]? = some oj ∧ Region.wanted ok (yielded L.toArray a.tmps) = true ∧ Region.wanted oj (yielded L.toArray a.tmps) = true ∧ ∀ K : Act → World → Prop, (∀ a w, D w → R a w → K a w) →
    Oper.wp P ok a w (fun a1 w1 => D w1 ∧ Region.wanted oj (yielded L.toArray a1.tmps) = true ∧ Oper.wp P oj a1 w1 K Q) Q ∧ Oper.wp P oj a w (fun a1 w1 => D w1 ∧ Region.wanted ok (yielded L.toArray a1.tmps) = true ∧ Oper.wp P ok a1 w1 K Q) Q
/-- The pair, then what follows. -/
theorem anyJ_pair {L : List Oper} {n m k j f : Nat} {l : Array Bool} {R : Act → World → Prop} {a : Act} {w : World} (hn : L.length = n) (hM : Marks n l m) (hB : pairB md L s m k j = true)
    (hend : ∀ a2 w2, D w2 → R a2 w2 → wpAnyJ P md L.toArray Q s D f ((l.setIfInBounds k true).setIfInBounds j true) a2 w2) (h : wpPr P L Q D k j R a w) : wpAnyJ P md L.toArray Q s D (f + 1 + 1) l a w := by
  unfold pairB at hB
  obtain ⟨ok, oj, hok, hoj, hwk, hwj, hp⟩ := h
  simp only [hok, hoj, Bool.and_eq_true, Bool.not_eq_true', beq_eq_false_iff_ne] at hB
  obtain ⟨⟨⟨⟨⟨⟨⟨⟨hk1, hj1⟩, hkj⟩, hk2⟩, hj2⟩, htw⟩, hone1⟩, hone2⟩, hs1⟩ := hB
  have hkj' : k ≠ j := by simpa using hkj
  have hk : k < n := by rw [← hn]; exact (List.getElem?_eq_some_iff.1 hok).1
  have hj : j < n := by rw [← hn]; exact (List.getElem?_eq_some_iff.1 hoj).1
  have h0k : L.toArray[k]? = some ok := by simpa using hok
  have h0j : L.toArray[j]? = some oj := by simpa using hoj
  have hrk := up_ready (md := md) hM hn hok hk1 hk2
  have hrj := up_ready (md := md) hM hn hoj hj1 hj2
  obtain ⟨p1, p2⟩ := hp (fun a2 w2 => D w2 ∧ R a2 w2) (fun _ _ h1 h2 => ⟨h1, h2⟩)
  have hcm : (l.setIfInBounds j true).setIfInBounds k true = (l.setIfInBounds k true).setIfInBounds j true := Array.setIfInBounds_comm _ _ (Ne.symm hkj')
  refine ⟨fun hh => (by rw [hh] at hrk; cases hrk), fun i hi => ?_⟩
  rcases two_ready hM hn htw hi with rfl | rfl
  · refine wpOp_step h0k (fun K hK => ?_)
    rw [if_pos hwk]
    refine Oper.wp_mono ?_ p1
    rintro a1 w1 ⟨hd1, hw1, h1⟩
    refine hK a1 w1 ⟨fun _ => hd1, fun hh => ?_, fun i' hi' => ?_⟩
    · have := ready_mono hrj (Ne.symm hkj')
      rw [hh] at this; cases this
    · obtain rfl := one_ready (hM.set hk) hn hone1 hi'
      refine wpOp_step h0j (fun K2 hK2 => ?_)
      rw [if_pos hw1]
      exact Oper.wp_mono (fun a2 w2 h2 => hK2 a2 w2 ⟨fun _ => h2.1, hend a2 w2 h2.1 h2.2⟩) h1
  · refine wpOp_step h0j (fun K hK => ?_)
    rw [if_pos hwj]
    refine Oper.wp_mono ?_ p2
    rintro a1 w1 ⟨hd1, hw1, h1⟩
    refine hK a1 w1 ⟨fun _ => hd1, fun hh => ?_, fun i' hi' => ?_⟩
    · have := ready_mono hrk hkj'
      rw [hh] at this; cases this
    · obtain rfl := one_ready (hM.set hj) hn hone2 hi'
      refine wpOp_step h0k (fun K2 hK2 => ?_)
      rw [if_pos hw1]
      exact Oper.wp_mono (fun a2 w2 h2 => hK2 a2 w2 ⟨fun _ => h2.1, by rw [hcm]; exact hend a2 w2 h2.1 h2.2⟩) h1
def wpSt (P : Program) (L : List Oper) (Q : Exit → Act → World → Prop) (D : World → Prop) (T : Act → World → Prop) : List (Nat × Nat) → Act → World → Prop
  | [], a, w => T a w
  | (k, 0) :: r, a, w => ∃ o, L[k]? = some o ∧ Region.wanted o (yielded L.toArray a.tmps) = true ∧ ∀ K : Act → World → Prop, (∀ a w, D w → wpSt P L Q D T r a w → K a w) → Oper.wp P o a w K Q
  | (k, 1) :: r, a, w => ∃ o v, L[k]? = some o ∧ Region.wanted o (yielded L.toArray a.tmps) = true ∧ (∀ w, (execOp a.eval o).run P w = .ok (.value v) w) ∧ wpSt P L Q D T r (a.put o.dst v) w
  | (k, 2) :: r, a, w => ∃ o v, L[k]? = some o ∧ Region.wanted o (yielded L.toArray a.tmps) = true ∧ (∀ w, D w → (execOp a.eval o).run P w = .ok (.value v) w) ∧ wpSt P L Q D T r (a.put o.dst v) w
  | (k, _) :: r, a, w => ∃ o, L[k]? = some o ∧ Region.wanted o (yielded L.toArray a.tmps) = true ∧ ∀ K : Act → World → Prop, (∀ a w, wpSt P L Q D T r a w → K a w) → Oper.wp P o a w K Q
def mkT (js : List (Nat × Nat)) (m : Nat) : Nat := js.foldl (fun m x => m ||| 2 ^ x.1) m
def sqT (md : Region.Mode) (L : List Oper) (s : Nat) : List (Nat × Nat) → Nat → Bool
  | [], _ => true
  | (k, p) :: r, m => (match L[k]? with | none => false | some o => !m.testBit k && upB md m o && kindB md L s m k o p) && sqT md L s r (m ||| 2 ^ k)
theorem wpAnyJ_seqT {L : List Oper} {n f : Nat} {T : Act → World → Prop} (hn : L.length = n) (hs : Region.noSelect L.toArray = true) (hQ : ∀ c a d v w, Q (.panic c) (a.put d v) w → Q (.panic c) a w) :
    ∀ (js : List (Nat × Nat)) (m : Nat) (l : Array Bool) (a : Act) (w : World), Marks n l m → ClosedD md L.toArray l → (l.getD s false = false → D w) → sqT md L s js m = true →
      (∀ l' a w, Marks n l' (mkT js m) → ClosedD md L.toArray l' → (l'.getD s false = false → D w) → T a w → wpAnyJ P md L.toArray Q s D f l' a w) → wpSt P L Q D T js a w → wpAnyJ P md L.toArray Q s D (f + js.length) l a w
  | [], m, l, a, w, hM, hc, hD, _, hT, h => hT l a w hM hc hD h
  | (k, p) :: r, m, l, a, w, hM, hc, hD, hB, hT, h => by
    simp only [sqT, Bool.and_eq_true] at hB
    obtain ⟨hst, hB'⟩ := hB
    cases ho : L[k]? with
    | none => rw [ho] at hst; cases hst
    | some o =>
      rw [ho] at hst
      simp only [Bool.and_eq_true, Bool.not_eq_true'] at hst
      obtain ⟨⟨h1, h2⟩, h3⟩ := hst
      have hk : k < n := by rw [← hn]; exact (List.getElem?_eq_some_iff.1 ho).1
      have h0 : L.toArray[k]? = some o := by simpa using ho
      have hrd := up_ready (md := md) hM hn ho h1 h2
      match p, h, h3 with
      | 0, h, g3 =>
        simp only [kindB, Bool.and_eq_true, Bool.not_eq_true'] at g3
        obtain ⟨o', ho', hw, hr⟩ := h
        obtain rfl : o' = o := by rw [ho] at ho'; exact (Option.some.inj ho').symm
        refine ⟨fun hh => (by rw [hh] at hrd; cases hrd), fun j hj => ?_⟩
        obtain rfl := one_ready hM hn g3.1.1 hj
        refine wpOp_step h0 (fun K hK => ?_)
        rw [if_pos hw]
        exact hr K (fun a' w' hd hh => hK a' w' ⟨fun _ => hd, wpAnyJ_seqT hn hs hQ r (m ||| 2 ^ j) _ a' w' (hM.set hk) (hc.set hj) (fun _ => hd) hB' hT hh⟩)
      | 1, h, g3 =>
        simp only [kindB, Bool.and_eq_true, Bool.not_eq_true'] at g3
        obtain ⟨o', v, ho', hw, hv, hr⟩ := h
        obtain rfl : o' = o := by rw [ho] at ho'; exact (Option.some.inj ho').symm
        have hks : k ≠ s := by simpa using g3.2
        have hD' : (l.setIfInBounds k true).getD s false = false → D w := fun hh => hD (by rw [getD_set_ne false hks] at hh; exact hh)
        exact wpAnyJ_first (E := fun _ => True) h0 hks (Region.noSelect_spec hs) (fun c a w h => hQ c a _ _ w h) (fun _ _ _ _ _ => trivial) (f + r.length) l a w hc hD (free_of hM hn g3.1) hrd (Or.inl ⟨hw, fun w _ => hv w⟩) (wpAnyJ_seqT hn hs hQ r (m ||| 2 ^ k) _ _ w (hM.set hk) (hc.set hrd) hD' hB' hT hr)
      | 2, h, g3 =>
        simp only [kindB, Bool.and_eq_true, Bool.not_eq_true'] at g3
        obtain ⟨o', v, ho', hw, hv, hr⟩ := h
        obtain rfl : o' = o := by rw [ho] at ho'; exact (Option.some.inj ho').symm
        have hks : k ≠ s := by simpa using g3.1.2
        have hD' : (l.setIfInBounds k true).getD s false = false → D w := fun hh => hD (by rw [getD_set_ne false hks] at hh; exact hh)
        refine wpAnyJ_first (E := D) h0 hks (Region.noSelect_spec hs) (fun c a w h => hQ c a _ _ w h) (fun l w hcl hrl hd => hd ?_) (f + r.length) l a w hc hD (free_of hM hn g3.1.1) hrd (Or.inl ⟨hw, hv⟩) (wpAnyJ_seqT hn hs hQ r (m ||| 2 ^ k) _ _ w (hM.set hk) (hc.set hrd) hD' hB' hT hr)
        cases hx : l.getD s false with
        | false => rfl
        | true => have := (ready_no hrl).1; rw [anc_listed hcl hx g3.2] at this; cases this
      | p + 3, h, g3 =>
        simp only [kindB, Bool.and_eq_true, Bool.or_eq_true, beq_iff_eq] at g3
        obtain ⟨o', ho', hw, hr⟩ := h
        obtain rfl : o' = o := by rw [ho] at ho'; exact (Option.some.inj ho').symm
        refine ⟨fun hh => (by rw [hh] at hrd; cases hrd), fun j hj => ?_⟩
        obtain rfl := one_ready hM hn g3.1 hj
        have hsl : (l.setIfInBounds j true).getD s false = true := by
          rcases g3.2 with e | e
          · subst e; exact getD_set_is (ready_no hj).2
          · exact getD_set_true (by rw [hM.getF]; exact e)
        refine wpOp_step h0 (fun K hK => ?_)
        rw [if_pos hw]
        exact hr K (fun a' w' hh => hK a' w' ⟨fun e => (by rw [hsl] at e; cases e), wpAnyJ_seqT hn hs hQ r (m ||| 2 ^ j) _ a' w' (hM.set hk) (hc.set hj) (fun e => (by rw [hsl] at e; cases e)) hB' hT hh⟩)
/-- The whole region: a sequence, a pair, a sequence. -/
theorem region_sp {id : Nat} {L : List Oper} {a : Act} {w : World} (s : Nat) (D : World → Prop) (js : List (Nat × Nat)) (k j : Nat) (js' : List (Nat × Nat)) (hm : P.follows .mixedOrders = true) (hs : Region.noSelect L.toArray = true) (hl : js'.length + 1 + 1 + js.length = L.length) (hQ : ∀ c a d v w, Q (.panic c) (a.put d v) w → Q (.panic c) a w)
    (hB : (sqT .any L s js 0 && pairB .any L s (mkT js 0) k j && sqB .any L s js' (mkT js 0 ||| 2 ^ k ||| 2 ^ j)) = true) (hD : D w.drew) (h : wpSt P L Q D (wpPr P L Q D k j (wpSq P L Q D js')) js a w.drew) : (Code.region id L.toArray true).wp P Q a w := by
  simp only [Bool.and_eq_true] at hB
  obtain ⟨⟨h1, h2⟩, h3⟩ := hB
  refine wp_region_any hm (wpAny_of_J (s := s) (D := D) _ _ _ _ ?_)
  have := wpAnyJ_seqT (md := .any) (s := s) (D := D) (P := P) (Q := Q) (f := js'.length + 1 + 1) rfl hs hQ js 0 (Array.replicate L.length false) a w.drew (marks_none L.length) (closed_none _) (fun _ => hD) h1 (fun l' a' w' hM hc hd hT => anyJ_pair rfl hM h2 (fun a2 w2 hd2 hr => by
    have h2' := h2
    unfold pairB at h2'
    split at h2'
    · rename_i ok oj hok hoj
      simp only [Bool.and_eq_true, Bool.not_eq_true', beq_eq_false_iff_ne] at h2'
      obtain ⟨⟨⟨⟨⟨⟨⟨⟨hk1, hj1⟩, hkj⟩, hk2⟩, hj2⟩, _⟩, _⟩, _⟩, _⟩ := h2'
      have hkj' : k ≠ j := by simpa using hkj
      have hk : k < L.length := (List.getElem?_eq_some_iff.1 hok).1
      have hj : j < L.length := (List.getElem?_eq_some_iff.1 hoj).1
      have hrk := up_ready (md := .any) hM rfl hok hk1 hk2
      have hrj := up_ready (md := .any) hM rfl hoj hj1 hj2
      exact wpAnyJ_seq rfl hs hQ js' _ _ a2 w2 ((hM.set hk).set hj) ((hc.set hrk).set (ready_mono hrj (Ne.symm hkj'))) (fun _ => hd2) h3 hr
    · cases h2') hT) h
  rw [hl] at this
  simpa using this
end
end Go.Proofs.YtaapkngpnlnjeaaGreat
end
