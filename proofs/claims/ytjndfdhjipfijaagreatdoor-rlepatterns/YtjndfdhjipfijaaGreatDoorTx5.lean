/- Package rle: a pattern's Text: contract. -/
import Derived.Test.YtjndfdhjipfijaaGreatDoorPt
import Derived.Deep.DeepCutAuto
import Derived.Deep.CutRange
namespace Go.Proofs.YtjndfdhjipfijaaGreatDoor
open Go.RowKit

/-! Runs, put one after the other -/
def outL : Nat → List (List UInt8) → List UInt8
  | _, [] => []
  | n, r :: rs => putL n r ++ outL (putN n r) rs
def outN : Nat → List (List UInt8) → Nat
  | n, [] => n
  | n, r :: rs => outN (putN n r) rs
theorem wrapL_cons (n : Nat) (r : List UInt8) (rs : List (List UInt8)) : wrapL n (r :: rs) = putL n r ++ wrapL (putN n r) rs := by
  simp only [wrapL, putL, putN]
  by_cases h : 70 < n + r.length
  · rw [if_pos h, if_pos h, if_pos h]; rfl
  · rw [if_neg h, if_neg h, if_neg h]
theorem wrapL_out : ∀ (L rs : List (List UInt8)) (n : Nat), wrapL n (L ++ rs) = outL n L ++ wrapL (outN n L) rs
  | [], _, _ => rfl
  | r :: L, rs, n => by
    rw [List.cons_append, wrapL_cons, wrapL_out L rs]
    simp only [outL, outN, List.append_assoc]
theorem putN_le {n : Nat} {r : List UInt8} (hr : r.length ≤ 70) : putN n r ≤ 70 := by
  unfold putN
  by_cases h : 70 < n + r.length
  · rw [if_pos h]; exact hr
  · rw [if_neg h]; omega
theorem put_nil {n : Nat} (h : n ≤ 70) : putL n [] = [] ∧ putN n [] = n := by
  constructor
  · unfold putL; rw [if_neg (by simp; omega)]
  · unfold putN; rw [if_neg (by simp; omega)]; rfl

theorem segs_skip : ∀ (l : List (Nat × Nat)) (p : Nat × Nat) (x y : Nat), ∃ q, segs (some p) x y l = segs (some q) x y (l.drop (stretch p l)) ∧ ∀ c r, l.drop (stretch p l) = c :: r → goesOn (some q) c = false
  | [], p, x, y => ⟨p, rfl, fun c r h => by simp [stretch] at h⟩
  | c :: l, p, x, y => by
    by_cases hc : c.2 = p.2 ∧ c.1 = p.1 + 1
    · obtain ⟨q, h1, h2⟩ := segs_skip l c x y
      have hs : stretch p (c :: l) = stretch c l + 1 := by simp only [stretch]; rw [if_pos hc]; omega
      rw [hs, List.drop_succ_cons]
      refine ⟨q, ?_, h2⟩
      rw [← h1]
      simp only [segs]
      rw [if_pos (by simp [goesOn, hc.1, hc.2])]
    · have hs : stretch p (c :: l) = 0 := by simp only [stretch]; rw [if_neg hc]
      rw [hs, List.drop_zero]
      refine ⟨p, rfl, fun c' r h => ?_⟩
      obtain ⟨rfl, _⟩ := List.cons.inj h
      unfold goesOn
      simp only [Bool.and_eq_false_iff, decide_eq_false_iff_not]
      omega
theorem okFrom_drop (W H : Nat) : ∀ (l : List (Nat × Nat)) (p : Nat × Nat), okFrom W H (p.1 + 1) p.2 l → okFrom W H (p.1 + 1 + stretch p l) p.2 (l.drop (stretch p l))
  | [], _, _ => by simp [okFrom]
  | c :: l, p, h => by
    by_cases hc : c.2 = p.2 ∧ c.1 = p.1 + 1
    · have hs : stretch p (c :: l) = stretch c l + 1 := by simp only [stretch]; rw [if_pos hc]; omega
      rw [hs, List.drop_succ_cons]
      have := okFrom_drop W H l c h.2.2.2
      rw [← hc.1, show p.1 + 1 + (stretch c l + 1) = c.1 + 1 + stretch c l by omega]
      exact this
    · have hs : stretch p (c :: l) = 0 := by simp only [stretch]; rw [if_neg hc]
      rw [hs, List.drop_zero]
      exact h

/-- The runs ahead of a stretch. -/
def sdL (y cy : Nat) : List (List UInt8) := if y < cy then [runL (cy - y) 36] else []
def sbL (x cx : Nat) : List (List UInt8) := if x < cx then [runL (cx - x) 98] else []
def nxX (x y cy : Nat) : Nat := if y < cy then 0 else x
theorem putL_len (n : Nat) (r : List UInt8) : (putL n r).length ≤ r.length + 1 := by unfold putL; split <;> simp
theorem sd_few (n y cy : Nat) (hn : n ≤ 70) (h : cy ≤ 1024) : outN n (sdL y cy) ≤ 70 ∧ (outL n (sdL y cy)).length ≤ 6 := by
  unfold sdL
  by_cases hy : y < cy
  · rw [if_pos hy]
    have h1 := runL_len (cy - y) 36 (by omega)
    have h2 := putL_len n (runL (cy - y) 36)
    refine ⟨putN_le (by omega), ?_⟩
    simp only [outL, List.append_nil]; omega
  · rw [if_neg hy]; exact ⟨hn, by simp [outL]⟩
theorem sb_few (n x cx : Nat) (hn : n ≤ 70) (h : cx ≤ 1024) : outN n (sbL x cx) ≤ 70 ∧ (outL n (sbL x cx)).length ≤ 6 := by
  unfold sbL
  by_cases hy : x < cx
  · rw [if_pos hy]
    have h1 := runL_len (cx - x) 98 (by omega)
    have h2 := putL_len n (runL (cx - x) 98)
    refine ⟨putN_le (by omega), ?_⟩
    simp only [outL, List.append_nil]; omega
  · rw [if_neg hy]; exact ⟨hn, by simp [outL]⟩
theorem step_wrap (prev : Option (Nat × Nat)) (x y wd : Nat) (c : Nat × Nat) (r : List (Nat × Nat)) (T : List (List UInt8)) (hg : goesOn prev c = false) (hwd : wd ≤ 70) (_h1 : c.1 ≤ 1024) (h2 : c.2 ≤ 1024) :
    wrapL wd (segs prev x y (c :: r) ++ T) = outL wd (sdL y c.2) ++ (outL (outN wd (sdL y c.2)) (sbL (nxX x y c.2) c.1) ++ (putL (outN (outN wd (sdL y c.2)) (sbL (nxX x y c.2) c.1)) (runL (1 + stretch c r) 111) ++
      wrapL (putN (outN (outN wd (sdL y c.2)) (sbL (nxX x y c.2) c.1)) (runL (1 + stretch c r) 111)) (segs (some c) (c.1 + 1 + stretch c r) c.2 r ++ T))) := by
  obtain ⟨k1, _⟩ := sd_few wd y c.2 hwd h2
  simp only [segs]
  rw [if_neg (by rw [hg]; simp)]
  have e1 : (if y < c.2 then [runL (c.2 - y) 36] else []) = sdL y c.2 := rfl
  have e2 : (if y < c.2 then 0 else x) = nxX x y c.2 := rfl
  rw [e1, e2, List.append_assoc, List.append_assoc, wrapL_out]
  congr 1
  generalize outN wd (sdL y c.2) = n1 at *
  generalize nxX x y c.2 = x'
  simp only [List.cons_append, List.nil_append]
  rw [wrapL_cons]
  unfold sbL
  by_cases hx : x' < c.1
  · rw [if_pos hx]
    simp only [outL, outN, List.append_nil]
    rw [wrapL_cons]
  · have : runL (c.1 - x') 98 = [] := by rw [show c.1 - x' = 0 by omega]; rfl
    rw [if_neg hx, this, (put_nil k1).1, (put_nil k1).2]
    simp only [outL, outN, List.nil_append]
    rw [wrapL_cons]

/-! What a round keeps -/
/-- A point in a block of the call's own. -/
def PtAt (w : World) (b : Nat) (x y : Nat) : Prop := w.heap[b]? = some (.cells #[.int .i64 (x : Int), .int .i64 (y : Int)] 26 (0, 0))
theorem PtAt.cells {w : World} {b x y : Nat} (h : PtAt w b x y) : w.cell? ⟨b, 0, none⟩ = some (.int .i64 (x : Int)) ∧ w.cell? ⟨b, 1, none⟩ = some (.int .i64 (y : Int)) ∧ w.frozen? ⟨b, 0, none⟩ = false ∧ w.frozen? ⟨b, 1, none⟩ = false :=
  ⟨by rw [Lib.cell_of_heap h]; rfl, by rw [Lib.cell_of_heap h]; rfl, Lib.frozen_of_heap h 0, Lib.frozen_of_heap h 1⟩
theorem PtAt.kept {w w' : World} {b x y B bw : Nat} (h : PtAt w b x y) (hk : Kp B bw w w') (hne : b ≠ bw) : PtAt w' b x y :=
  hk.2 b _ h (fun e => hne (Option.some.inj e)) (fun c fz e => by injection e with _ e _; exact absurd e (by decide))
theorem PtAt.later {w w' : World} {b x y : Nat} (h : PtAt w b x y) (hb : Below w.heap.size w w') : PtAt w' b x y := by
  unfold PtAt
  rw [hb.block b (Array.getElem?_eq_some_iff.1 h).1]; exact h
theorem PtAt.lt {w : World} {b x y : Nat} (h : PtAt w b x y) : b < w.heap.size := (Array.getElem?_eq_some_iff.1 h).1
theorem PtAt.other {w : World} {b x y : Nat} (h : PtAt w b x y) (b' k : Nat) (v : Value) (hne : b ≠ b') : PtAt (w.setCell ⟨b', k, none⟩ v) b x y := by
  unfold PtAt
  rw [Below.heap_setCell _ _ _ _ (fun e => hne e)]; exact h
theorem PtAt.set0 {w : World} {b x y : Nat} (h : PtAt w b x y) (x' : Nat) : PtAt (w.setCell ⟨b, 0, none⟩ (.int .i64 (x' : Int))) b x' y := by
  unfold PtAt at h ⊢
  simp only [World.setCell, Array.getElem?_modify, h]
  simp
theorem PtAt.set1 {w : World} {b x y : Nat} (h : PtAt w b x y) (y' : Nat) : PtAt (w.setCell ⟨b, 1, none⟩ (.int .i64 (y' : Int))) b x y' := by
  unfold PtAt at h ⊢
  simp only [World.setCell, Array.getElem?_modify, h]
  simp
theorem Wr.other {w : World} {B b : Nat} {bs : List UInt8} {n : Int} (h : Wr w B b bs n) {nb x y : Nat} (hp : PtAt w nb x y) (hne : nb ≠ b) (k : Nat) (v : Value) : Wr (w.setCell ⟨nb, k, none⟩ v) B b bs n := by
  have H : ∀ p, WrAt p w B b bs n → WrAt p (w.setCell ⟨nb, k, none⟩ v) B b bs n := by
    rintro p ⟨hB, u, hbk, hown, hn⟩
    refine ⟨hB, u, ?_, ?_, hn⟩
    · rw [Below.heap_setCell _ _ _ _ (fun e => hne e.symm)]; exact hbk
    · refine hown.kept (row := some nb) ⟨rfl, rfl, rfl, by simp [World.setCell], fun k _ hk => Below.heap_setCell _ _ _ _ (fun e => hk (by simp [e]))⟩ (Or.inr (Own.ne hown hp (by decide)))
  exact h.elim (fun h => Or.inl (H _ h)) (fun h => Or.inr (H _ h))

/-- What a round knows: the base, the writer with its bytes, the next place. -/
structure TX (w : World) (bw nb : Nat) (bs : List UInt8) (n x y : Nat) (W : World) : Prop where
  bel : Below w.heap.size w W
  wr : Wr W w.heap.size bw bs (n : Int)
  nx : PtAt W nb x y
  ne : nb ≠ bw
  nB : w.heap.size ≤ nb
theorem TX.later {w W W' : World} {bw nb n x y : Nat} {bs : List UInt8} (h : TX w bw nb bs n x y W) (hb : Below W.heap.size W W') : TX w bw nb bs n x y W' :=
  ⟨h.bel.trans (hb.mono h.bel.size), h.wr.later hb, h.nx.later hb, h.ne, h.nB⟩
theorem TX.put {w W W' : World} {bw nb n x y : Nat} {bs : List UInt8} (h : TX w bw nb bs n x y W) {bs' : List UInt8} {n' : Nat} (hw : Wr W' w.heap.size bw bs' (n' : Int)) (hk : Kp w.heap.size bw W W') : TX w bw nb bs' n' x y W' :=
  ⟨h.bel.trans hk.1, hw, h.nx.kept hk h.ne, h.ne, h.nB⟩
theorem TX.set0 {w W : World} {bw nb n x y : Nat} {bs : List UInt8} (h : TX w bw nb bs n x y W) (x' : Nat) : TX w bw nb bs n x' y (W.setCell ⟨nb, 0, none⟩ (.int .i64 (x' : Int))) :=
  ⟨h.bel.setCell (p := ⟨nb, 0, none⟩) h.nB _, h.wr.other h.nx h.ne 0 _, h.nx.set0 x', h.ne, h.nB⟩
theorem TX.set1 {w W : World} {bw nb n x y : Nat} {bs : List UInt8} (h : TX w bw nb bs n x y W) (y' : Nat) : TX w bw nb bs n x y' (W.setCell ⟨nb, 1, none⟩ (.int .i64 (y' : Int))) :=
  ⟨h.bel.setCell (p := ⟨nb, 1, none⟩) h.nB _, h.wr.other h.nx h.ne 1 _, h.nx.set1 y', h.ne, h.nB⟩

theorem tx_start (w : World) (P : Array Value) : ∃ W0, (w.alloc (.cells P 28)).alloc (.cells #[.pointer none, .slice none 0 0, .int .i64 0] 60) = W0 ∧ Below w.heap.size w W0 ∧ Wr W0 w.heap.size (w.heap.size + 1) [] 0 ∧ W0.heap[w.heap.size]? = some (.cells P 28 (0, 0)) := by
  refine ⟨_, rfl, by go_grown, Or.inl ⟨by omega, .slice none 0 0, ?_, World.ownsRow_nil _ _ _ _, by simp [Value.ownBlock]⟩, ?_⟩
  · have := heap_alloc_new (w.alloc (.cells P 28)) (.cells #[.pointer none, .slice none 0 0, .int .i64 0] 60)
    rw [World.size_alloc] at this
    exact this
  · have := heap_alloc_new w (.cells P 28)
    rw [Lib.alloc_old _ _ _ (by simp)]
    exact this

set_option maxRecDepth 100000 in
set_option maxHeartbeats 2000000 in
theorem text_any (W H : Nat) (cs : List (Nat × Nat)) (w : World) (n cap : Nat) (a : Option Addr) (hp : Pts w w.heap.size a (cs.map zc)) (hn : n = cs.length) (hcap : n ≤ cap) (hcl : cap ≤ 9223372036854775807) (ht : Tab w) (hW : W ≤ 1024) (hH : H ≤ 1024) (ho : okFrom W H 0 0 cs) (hl : cs.length ≤ 20000) :
    Calls Tryz.prog 10 #[.agg #[.int .i64 (W : Int), .int .i64 (H : Int), .slice a n cap]] w fun e w' => e = .returned (.string ⟨(textL W H cs).toArray⟩) ∧ Below w.heap.size w w' := by
  have HP := Lib.hid hp
  have HT := Lib.hid ht
  have HO := Lib.hid ho
  have HN := Lib.hid hn
  have HL : Hid ((bodyL cs).length ≤ 1000000) := by have := bodyL_len W H hW hH cs ho; show _ ≤ _; omega
  have HHL := Lib.hid (headL_len W H hW hH)
  have hltab := ht.lt
  clear hp ht ho hn
  obtain ⟨W0, hW0, hb0, hw0, hpb⟩ := tx_start w #[.int .i64 (W : Int), .int .i64 (H : Int), .slice a n cap]
  have HW0 := Lib.hid hW0
  have H0 := Lib.hid hw0
  have HB0 := Lib.hid hb0
  have HPB := Lib.hid hpb
  clear hW0 hb0 hw0 hpb
  go_enter Tryz.func10, Tryz.ntmps10
  go_wp2_with fail
  rw [HW0.out]
  refine (wheader_any w.heap.size (w.heap.size + 1) W H _ H0.out (HT.out.later HB0.out hltab) hW hH HB0.out.size).mono ?_
  rintro e w1 ⟨rfl, h1, hk1⟩
  have hpb1 : w1.heap[w.heap.size]? = some (.cells #[.int .i64 (W : Int), .int .i64 (H : Int), .slice a n cap] 28 (0, 0)) := hk1.2 w.heap.size _ HPB.out (by simp) (fun c fz e => by injection e with _ e _; exact absurd e (by decide))
  have c2 : w1.cell? ⟨w.heap.size, 2, none⟩ = some (.slice a n cap) := by rw [Lib.cell_of_heap hpb1]; rfl
  have hsz : w.heap.size + 1 < w1.heap.size := by
    have : w.heap.size + 1 < W0.heap.size := by rcases H0.out with ⟨_, _, h, _⟩ | ⟨_, _, h, _⟩ <;> exact (Array.getElem?_eq_some_iff.1 h).1
    have h2 := hk1.1.size
    rcases h1 with ⟨_, _, h, _⟩ | ⟨_, _, h, _⟩ <;> exact (Array.getElem?_eq_some_iff.1 h).1
  have H1 := Lib.hid h1
  have HB1 : Hid (Below w.heap.size w w1) := HB0.out.trans hk1.1
  clear h1 hk1 hpb1 HPB H0 HB0 HW0 W0
  have HX1 : Hid (TX w (w.heap.size + 1) w1.heap.size (headL W H ++ [10]) 0 0 0 (w1.alloc (.cells #[.int .i64 0, .int .i64 0] 26))) :=
    ⟨HB1.out.alloc (by have := HB1.out.size; omega) _, by have := H1.out.later (bel1 w1 (.cells #[.int .i64 0, .int .i64 0] 26)); simpa using this, heap_alloc_new w1 _, by omega, HB1.out.size⟩
  have d2 : (w1.alloc (.cells #[.int .i64 0, .int .i64 0] 26)).cell? ⟨w.heap.size, 2, none⟩ = some (.slice a n cap) := by
    rw [(bel1 w1 (.cells #[.int .i64 0, .int .i64 0] 26)).cell (p := ⟨w.heap.size, 2, none⟩) (show w.heap.size < w1.heap.size by omega)]; exact c2
  go_upto_region 4 with fail
  clear c2 H1 HB1 hsz
  generalize (w1.alloc (.cells #[.int .i64 0, .int .i64 0] 26)) = w2 at HX1 d2 ⊢
  generalize w1.heap.size = nb at HX1 ⊢
  clear w1
  go_wp2_with fail
  clear d2
  go_loopg [5, 6, 7] cs.length (fun k v f nn wr => ∃ (rest : List (Nat × Nat)) (x y wd : Nat) (D : List UInt8) (a' : Option Addr) (m cap' : Nat) (prev : Option (Nat × Nat)), k = rest.length ∧ m = rest.length ∧ v = .slice a' m cap' ∧ m ≤ cap' ∧ cap' ≤ 9223372036854775807 ∧ Pts w w.heap.size a' (rest.map zc) ∧ TX w (w.heap.size + 1) nb (headL W H ++ [10] ++ D) wd x y wr ∧ wd ≤ 70 ∧ okFrom W H x y rest ∧ rest.length ≤ cs.length ∧ (∀ c r, rest = c :: r → goesOn prev c = false) ∧ wrapL 0 (segs none 0 0 cs ++ [[33]]) = D ++ wrapL wd (segs prev x y rest ++ [[33]]))
  case atStart => exact ⟨cs, 0, 0, 0, [], a, n, cap, none, rfl, HN.out, rfl, hcap, hcl, HP.out, by rw [List.append_nil]; exact HX1.out, by omega, HO.out, Nat.le_refl _, fun c r _ => rfl, rfl⟩
  case round =>
    obtain ⟨rest, x, y, wd, D, a', m, cap', prev, hk, hm, rfl, hmc, hcm, hpts, htx, hwd, hok, hrl, hgo, hwrap⟩ := hrel
    have HX := Lib.hid htx
    have HK := Lib.hid hk
    have HM := Lib.hid hm
    have HPT := Lib.hid hpts
    have HOK := Lib.hid hok
    have HGO := Lib.hid hgo
    have HWR := Lib.hid hwrap
    have HDL : Hid (D.length ≤ 1000000) := by
      show _ ≤ _
      have h1 := HL.out
      unfold bodyL at h1
      rw [hwrap] at h1
      simp only [List.length_append] at h1
      omega
    clear htx hk hm hpts hok hgo hwrap HX1 HP HO HN
    cases rest with
    | nil =>
      have hm0 : m = 0 := HM.out
      subst hm0
      go_wp2_with fail
      refine (put_any w.heap.size (w.heap.size + 1) (headL W H ++ [10] ++ D) [33] wd _ HX.out.wr (by omega) (by have := HDL.out; have := HHL.out; simp; omega) HX.out.bel.size).mono ?_
      rintro e w3 ⟨rfl, h3, hk3⟩
      have H3 := Lib.hid h3
      have HK3 := Lib.hid hk3
      clear h3 hk3
      go_wp2_with fail
      refine (endLine_any w.heap.size (w.heap.size + 1) _ _ _ H3.out (by
        have h1 := HDL.out; have h2 := HHL.out
        have h3 : (putL wd [33]).length ≤ 2 := by unfold putL; split <;> simp
        simp only [List.length_append, List.length_cons, List.length_nil]; omega) (by have := HK3.out.1.size; have := HX.out.bel.size; omega)).mono ?_
      rintro e w4 ⟨rfl, h4, hk4⟩
      have H4 := Lib.hid h4
      have HK4 := Lib.hid hk4
      clear h4 hk4
      go_wp2_with fail
      refine (bString_any w.heap.size (w.heap.size + 1) _ _ _ H4.out (by simp)).mono ?_
      rintro e w5 ⟨rfl, hb5⟩
      have HB5 := Lib.hid hb5
      clear hb5
      have HE : Hid (headL W H ++ [10] ++ D ++ putL wd [33] ++ [10] = textL W H cs) := by
        show _ = _
        have h1 := HWR.out
        simp only [segs, List.nil_append] at h1
        rw [wrapL_cons] at h1
        unfold textL bodyL
        rw [h1]
        simp [wrapL]
      go_wp2_with fail
      go_ret
      exact ⟨str_eq (by rw [← HE.out]; simp), ((HX.out.bel.trans HK3.out.1).trans HK4.out.1).trans HB5.out⟩
    | cons c r =>
      have hm0 : m = r.length + 1 := HM.out
      obtain ⟨hc1, hc2, hc3, hc4⟩ := HOK.out
      have HG0 := Lib.hid (HGO.out c r rfl)
      have HC4 := Lib.hid hc4
      have HC1 := Lib.hid hc1
      have hgt : decide ((0 : Int) < (m : Int)) = true := by simp; omega
      have hst := stretch_le c r
      have hsl := stretch_lt W H c r hc2 hc4
      have hrl2 : r.length + 1 ≤ cs.length := hrl
      clear hc1 hc4 HOK HGO
      obtain ⟨bk, off, rfl, hbk, x0, x1⟩ := (HPT.out.later HX.out.bel (Nat.le_refl _)).at0
      have HS : Hid (∀ W', Below wr.heap.size wr W' → Calls Tryz.prog 22 #[.slice (some ⟨bk, off, none⟩) m cap'] W' fun e w' => e = .returned (.int .i64 ((1 + stretch c r : Nat) : Int)) ∧ Below W'.heap.size W' w') :=
        fun W' hb => stretch_any c r W' w.heap.size m cap' hm0 _ ((HPT.out.later HX.out.bel (Nat.le_refl _)).later hb HX.out.bel.size) (by omega) (by omega)
      have hi0 : (0 : Int) < (m : Int) := by omega
      have hbkr : bk < wr.heap.size := by have := HX.out.bel.size; omega
      have HM0 := Lib.hid hm0
      clear hm0
      go_upto_region 6 with fail
      have y0 : wr.drew.cell? ⟨bk, off, none⟩ = some (.int .i64 (c.1 : Int)) := x0
      have y1 : wr.drew.cell? ⟨bk, off + 1, none⟩ = some (.int .i64 (c.2 : Int)) := x1
      have y2 : (wr.alloc (.cells #[.int .i64 0, .int .i64 0] 26)).drew.cell? ⟨bk, off, none⟩ = some (.int .i64 (c.1 : Int)) := ((bel1 wr _).cell (p := ⟨bk, off, none⟩) hbkr).trans x0
      have y3 : (wr.alloc (.cells #[.int .i64 0, .int .i64 0] 26)).drew.cell? ⟨bk, off + 1, none⟩ = some (.int .i64 (c.2 : Int)) := ((bel1 wr _).cell (p := ⟨bk, off + 1, none⟩) hbkr).trans x1
      have HPN : Hid (PtAt (wr.alloc (.cells #[.int .i64 0, .int .i64 0] 26)).drew wr.heap.size 0 0) := heap_alloc_new wr _
      obtain ⟨n0, n1, n2, n3⟩ := HPN.out.cells
      have HPS : Hid (PtAt (((wr.alloc (.cells #[.int .i64 0, .int .i64 0] 26)).drew.setCell ⟨wr.heap.size, 0, none⟩ (.int .i64 (c.1 : Int))).setCell ⟨wr.heap.size, 1, none⟩ (.int .i64 (c.2 : Int))) wr.heap.size c.1 c.2) := (HPN.out.set0 c.1).set1 c.2
      have HBS : Hid (Below wr.heap.size wr (((wr.alloc (.cells #[.int .i64 0, .int .i64 0] 26)).drew.setCell ⟨wr.heap.size, 0, none⟩ (.int .i64 (c.1 : Int))).setCell ⟨wr.heap.size, 1, none⟩ (.int .i64 (c.2 : Int)))) := ((Below.drew ((Below.refl _ _).alloc (Nat.le_refl _) _)).setCell (p := ⟨wr.heap.size, 0, none⟩) (Nat.le_refl _) _).setCell (p := ⟨wr.heap.size, 1, none⟩) (Nat.le_refl _) _
      have n4 : ¬ bk = wr.heap.size := by omega
      have n5 : ¬ wr.heap.size = bk := by omega
      go_cut [6, 7] from 18 to 25 (fun f nn wx => ∃ fb, f = .pointer (some ⟨fb, 0, none⟩) ∧ nn = .int .i64 ((1 + stretch c r : Nat) : Int) ∧ PtAt wx fb c.1 c.2 ∧ wr.heap.size ≤ fb ∧ Below wr.heap.size wr wx)
      case first =>
        go_region_held3 (fun w' => w'.cell? ⟨bk, off, none⟩ = some (.int .i64 (c.1 : Int)) ∧ w'.cell? ⟨bk, off + 1, none⟩ = some (.int .i64 (c.2 : Int))) (go_keep)
          (first | (go_at_call 22; refine (HS.out _ ?_).mono ?_; (first | exact Below.drew (Below.refl _ _) | exact Below.drew ((Below.refl _ _).alloc (Nat.le_refl _) _) | exact HBS.out); rintro e w3 ⟨rfl, hb3⟩; have hz3 : wr.heap.size ≤ w3.heap.size := (by have := hb3.size; simp at this; omega); have n6 : ¬ bk = w3.heap.size := (by omega); have n7 : ¬ w3.heap.size = bk := (by omega); have z0 := hb3.cell (p := ⟨bk, off, none⟩) (by first | exact hbkr | (simp; omega)); have z1 := hb3.cell (p := ⟨bk, off + 1, none⟩) (by first | exact hbkr | (simp; omega)); first | (have q := HPN.out.later hb3; obtain ⟨q0, q1, q2, q3⟩ := q.cells; have HR := Lib.hid q; have HQ := Lib.hid hb3; clear hb3 q) | (have HR := Lib.hid (HPS.out.later hb3); have HQ := Lib.hid hb3; clear hb3) | (have HQ := Lib.hid hb3; clear hb3)))
        all_goals go_wp2_with fail
        all_goals go_meet
        · exact ⟨_, rfl, by simp, heap_alloc_new w3 _, hz3, ((Below.drew (Below.refl _ _)).trans HQ.out).alloc hz3 _⟩
        · exact ⟨_, rfl, by simp, (HR.out.set0 c.1).set1 c.2, Nat.le_refl _, (((Below.drew ((Below.refl _ _).alloc (Nat.le_refl _) _)).trans (HQ.out.mono (by simp))).setCell (p := ⟨wr.heap.size, 0, none⟩) (Nat.le_refl _) _).setCell (p := ⟨wr.heap.size, 1, none⟩) (Nat.le_refl _) _⟩
      case rest =>
      obtain ⟨fb, rfl, rfl, hpf, hfb, hbx⟩ := hcut
      obtain ⟨N, hN⟩ : ∃ N, 1 + stretch c r = N := ⟨_, rfl⟩
      rw [hN]
      have HNN := Lib.hid hN
      have hN1 : 1 ≤ N := by omega
      have hN2 : N ≤ m := by have := HM0.out; omega
      have hN3 : c.1 + N ≤ 1024 := by omega
      have hN4 : N ≤ 1024 := by omega
      clear hN
      have HX2 := Lib.hid (HX.out.later hbx)
      have HF2 := Lib.hid hpf
      have hfn : fb ≠ nb := by have := HX.out.nx.lt; omega
      have hfw : fb ≠ w.heap.size + 1 := by
        have : w.heap.size + 1 < wr.heap.size := by rcases HX.out.wr with ⟨_, _, h, _⟩ | ⟨_, _, h, _⟩ <;> exact (Array.getElem?_eq_some_iff.1 h).1
        omega
      clear hbx hpf HPN HPS HBS n0 n1 n2 n3 n4 n5 y0 y1 y2 y3 x0 x1 HS HX
      obtain ⟨f0, f1, _⟩ := HF2.out.cells
      obtain ⟨p0, p1, p2, p3⟩ := HX2.out.nx.cells
      have hdiv := HC1.out
      go_upto_if 30 with fail
      go_cut [] from 26 to 40 (fun wx => TX w (w.heap.size + 1) nb (headL W H ++ [10] ++ D ++ outL wd (sdL y c.2)) (outN wd (sdL y c.2)) (nxX x y c.2) c.2 wx ∧ PtAt wx fb c.1 c.2)
      case first =>
        by_cases hy : y < c.2
        · have hg : decide ((y : Int) < (c.2 : Int)) = true := by simp; omega
          have HE1 : Hid (outL wd (sdL y c.2) = putL wd (runL (c.2 - y) 36)) := by show _ = _; unfold sdL; rw [if_pos hy]; simp [outL]
          have HE2 : Hid (outN wd (sdL y c.2) = putN wd (runL (c.2 - y) 36)) := by show _ = _; unfold sdL; rw [if_pos hy]; simp [outN]
          have HE3 : Hid (nxX x y c.2 = 0) := if_pos hy
          have hw : IntKind.i64.wrap ((c.2 : Int) - (y : Int)) = ((c.2 - y : Nat) : Int) := by rw [IntWalk.i64_in _ (by omega)]; omega
          go_wp2_with fail
          refine (wrun_any w.heap.size (w.heap.size + 1) (headL W H ++ [10] ++ D) (c.2 - y) wd 36 _ HX2.out.wr (HT.out.later HX2.out.bel hltab) (by omega) (by omega) (by omega) (by have := HDL.out; have := HHL.out; simp; omega) HX2.out.bel.size).mono ?_
          rintro e w4 ⟨rfl, h4, hk4⟩
          have HX4 := Lib.hid (HX2.out.put h4 hk4)
          have HF4 := Lib.hid (HF2.out.kept hk4 hfw)
          clear h4 hk4 f0 f1 p0 p1 p2 p3
          obtain ⟨f0, f1, _⟩ := HF4.out.cells
          obtain ⟨p0, p1, p2, p3⟩ := HX4.out.nx.cells
          go_wp2_with fail
          go_meet
          rw [HE1.out, HE2.out, HE3.out]
          exact ⟨(HX4.out.set0 0).set1 c.2, (HF4.out.other nb 0 _ hfn).other nb 1 _ hfn⟩
        · have hg : decide ((y : Int) < (c.2 : Int)) = false := by simp; omega
          have hy2 : y = c.2 := by omega
          have HE1 : Hid (outL wd (sdL y c.2) = []) := by show _ = _; unfold sdL; rw [if_neg hy]; simp [outL]
          have HE2 : Hid (outN wd (sdL y c.2) = wd) := by show _ = _; unfold sdL; rw [if_neg hy]; simp [outN]
          have HE3 : Hid (nxX x y c.2 = x) := if_neg hy
          have HY := Lib.hid hy2
          clear hy2
          go_wp2_with fail
          go_meet
          rw [HE1.out, HE2.out, HE3.out, List.append_nil]
          have := HX2.out
          rw [HY.out] at this
          exact ⟨this, HF2.out⟩
      case rest =>
      obtain ⟨hx3, hf3⟩ := hcut
      have HX3 := Lib.hid hx3
      have HF3 := Lib.hid hf3
      obtain ⟨q1, q2⟩ := sd_few wd y c.2 hwd (by omega)
      have HSW := Lib.hid (step_wrap prev x y wd c r [[33]] HG0.out hwd (by omega) (by omega))
      rw [HNN.out] at HSW
      clear hx3 hf3 HX2 HF2 f0 f1 p0 p1 p2 p3
      generalize hOL1 : outL wd (sdL y c.2) = L1 at *
      generalize hON1 : outN wd (sdL y c.2) = n1 at *
      generalize hNX : nxX x y c.2 = x' at *
      have hx'1 : x' ≤ c.1 := by have := HC1.out; rw [← hNX]; unfold nxX; split <;> omega
      clear hOL1 hON1 hNX
      obtain ⟨f0, f1, _⟩ := HF3.out.cells
      obtain ⟨p0, p1, p2, p3⟩ := HX3.out.nx.cells
      go_upto_if 45 with fail
      go_cut [] from 41 to 52 (fun wx => TX w (w.heap.size + 1) nb (headL W H ++ [10] ++ D ++ L1 ++ outL n1 (sbL x' c.1)) (outN n1 (sbL x' c.1)) x' c.2 wx ∧ PtAt wx fb c.1 c.2)
      case first =>
        by_cases hy : x' < c.1
        · have hg : decide ((x' : Int) < (c.1 : Int)) = true := by simp; omega
          have HE1 : Hid (outL n1 (sbL x' c.1) = putL n1 (runL (c.1 - x') 98)) := by show _ = _; unfold sbL; rw [if_pos hy]; simp [outL]
          have HE2 : Hid (outN n1 (sbL x' c.1) = putN n1 (runL (c.1 - x') 98)) := by show _ = _; unfold sbL; rw [if_pos hy]; simp [outN]
          have hw : IntKind.i64.wrap ((c.1 : Int) - (x' : Int)) = ((c.1 - x' : Nat) : Int) := by rw [IntWalk.i64_in _ (by omega)]; omega
          go_wp2_with fail
          refine (wrun_any w.heap.size (w.heap.size + 1) (headL W H ++ [10] ++ D ++ L1) (c.1 - x') n1 98 _ HX3.out.wr (HT.out.later HX3.out.bel hltab) (by omega) (by omega) (by omega) (by have := HDL.out; have := HHL.out; simp; omega) HX3.out.bel.size).mono ?_
          rintro e w4 ⟨rfl, h4, hk4⟩
          have HX4 := Lib.hid (HX3.out.put h4 hk4)
          have HF4 := Lib.hid (HF3.out.kept hk4 hfw)
          clear h4 hk4 f0 f1 p0 p1 p2 p3
          go_wp2_with fail
          go_meet
          rw [HE1.out, HE2.out]
          exact ⟨HX4.out, HF4.out⟩
        · have hg : decide ((x' : Int) < (c.1 : Int)) = false := by simp; omega
          have HE1 : Hid (outL n1 (sbL x' c.1) = []) := by show _ = _; unfold sbL; rw [if_neg hy]; simp [outL]
          have HE2 : Hid (outN n1 (sbL x' c.1) = n1) := by show _ = _; unfold sbL; rw [if_neg hy]; simp [outN]
          go_wp2_with fail
          go_meet
          rw [HE1.out, HE2.out, List.append_nil]
          exact ⟨HX3.out, HF3.out⟩
      case rest =>
      obtain ⟨hx3, hf3⟩ := hcut
      clear HX3 HF3 f0 f1 p0 p1 p2 p3
      have HX3 := Lib.hid hx3
      have HF3 := Lib.hid hf3
      obtain ⟨q3, q4⟩ := sb_few n1 x' c.1 q1 (by omega)
      clear hx3 hf3
      generalize outL n1 (sbL x' c.1) = L2 at *
      generalize outN n1 (sbL x' c.1) = n2 at *
      obtain ⟨f0, f1, _⟩ := HF3.out.cells
      go_wp2_with fail
      refine (wrun_any w.heap.size (w.heap.size + 1) (headL W H ++ [10] ++ D ++ L1 ++ L2) N n2 111 _ HX3.out.wr (HT.out.later HX3.out.bel hltab) (by omega) (by omega) (by omega) (by have := HDL.out; have := HHL.out; simp; omega) HX3.out.bel.size).mono ?_
      rintro e w4 ⟨rfl, h4, hk4⟩
      have HX4 := Lib.hid (HX3.out.put h4 hk4)
      have HF4 := Lib.hid (HF3.out.kept hk4 hfw)
      clear h4 hk4 f0 f1 HX3 HF3
      obtain ⟨f0, f1, _⟩ := HF4.out.cells
      obtain ⟨p0, p1, p2, p3⟩ := HX4.out.nx.cells
      obtain ⟨a2, hcut2, hpts2⟩ := cut_pts HPT.out m (by rw [List.length_map]; exact HM.out) hmc N hN2
      have HP2 := Lib.hid hpts2
      clear hpts2
      have hw : IntKind.i64.wrap ((c.1 : Int) + (N : Int)) = ((c.1 + N : Nat) : Int) := by rw [IntWalk.i64_in _ (by omega)]; omega
      go_wp2_with fail
      go_roundg (r.drop (stretch c r)).length
      case measure => rw [HK.out]; simp only [List.length_drop, List.length_cons]; omega
      case rel =>
        obtain ⟨q, hq1, hq2⟩ := segs_skip r c (c.1 + 1 + stretch c r) c.2
        have hNN := HNN.out
        have hmm := HM0.out
        have hrun := runL_len N 111 hN4
        refine ⟨r.drop (stretch c r), c.1 + N, c.2, putN n2 (runL N 111), D ++ L1 ++ L2 ++ putL n2 (runL N 111), a2, m - N, cap' - N, some q, rfl, ?_, rfl, by omega, by omega, ?_, ?_, putN_le (by omega), ?_, ?_, hq2, ?_⟩
        · rw [List.length_drop]; omega
        · have h1 := HP2.out
          rw [← List.map_drop, ← hNN, Nat.add_comm 1, List.drop_succ_cons] at h1
          exact h1
        · have h1 := HX4.out.set0 (c.1 + N)
          rw [Int.natCast_add] at h1
          simp only [List.append_assoc] at h1 ⊢
          exact h1
        · have h1 := okFrom_drop W H r c HC4.out
          rw [show c.1 + N = c.1 + 1 + stretch c r by omega]
          exact h1
        · rw [List.length_drop]; omega
        · rw [HWR.out, HSW.out, show c.1 + N = c.1 + 1 + stretch c r by omega, ← hq1]
          simp only [List.append_assoc]
end Go.Proofs.YtjndfdhjipfijaaGreatDoor
