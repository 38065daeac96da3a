/- The law GridPoints: its walk. -/
import Derived.Test.YtlafbkehlglfoaaDoorGr
import Derived.Test.YtlafbkehlglfoaaDoorFis
import Derived.Deep.DeepCutAuto
import Derived.Deep.CutRange
import Derived.Deep.CutBlock
namespace Go.Proofs.YtlafbkehlglfoaaDoor
open Go.RowKit

theorem onP_bounds {n : Int} (h : onP n = true) : -2305843009213693952 < n ∧ n < 2305843009213693952 := by
  unfold onP at h
  simpa using h
theorem and_parts {a b : Bool} (h : (a && b) = true) : a = true ∧ b = true := by simpa using h

/-- What Shift returns: the point, and the error. -/
def shiftV (x y u v : Int) : Value :=
  if (onP x && onP y) && (onP u && onP v) then
    if onP (x + u) && onP (y + v) then .tuple #[.agg #[.int .i64 (x + u), .int .i64 (y + v)], .nilIface]
    else .tuple #[.agg #[.int .i64 0, .int .i64 0], .iface 31 (.int .i64 8)]
  else .tuple #[.agg #[.int .i64 0, .int .i64 0], .iface 31 (.int .i64 1)]

/-- Blocks laid, a point's room in the last. -/
theorem shift_start (w : World) (x y u v : Int) (t : TypeId) : ∃ W, ((w.alloc (.cells #[.int .i64 x, .int .i64 y] t)).alloc (.cells #[.int .i64 u, .int .i64 v] t)).alloc (.cells #[.int .i64 0, .int .i64 0] t) = W ∧ W.heap.size = w.heap.size + 3 ∧ Below w.heap.size w W ∧ Nums W w.heap.size [x, y] ∧ Nums W (w.heap.size + 1) [u, v] ∧ Nums W (w.heap.size + 1 + 1) [0, 0] := by
  refine ⟨_, rfl, by simp, by go_grown, ((pt_new w x y t).later (bel1 _ _)).later (bel1 _ _), ?_, ?_⟩
  · have := (pt_new (w.alloc (.cells #[.int .i64 x, .int .i64 y] t)) u v t).later (bel1 _ (.cells #[.int .i64 0, .int .i64 0] t))
    simpa using this
  · have := pt_new ((w.alloc (.cells #[.int .i64 x, .int .i64 y] t)).alloc (.cells #[.int .i64 u, .int .i64 v] t)) 0 0 t
    simpa using this

set_option maxRecDepth 100000 in
set_option maxHeartbeats 1000000 in
theorem shift_any (x y u v : Int) (w : World) :
    Calls Tryd.prog 9 #[.agg #[.int .i64 x, .int .i64 y], .agg #[.int .i64 u, .int .i64 v]] w fun e w' => e = .returned (shiftV x y u v) ∧ Below w.heap.size w w' := by
  obtain ⟨W0, hW0, hs0, hb0, p0, p1, p2⟩ := shift_start w x y u v 23
  have H0 := Lib.hid (show _ ∧ _ ∧ _ ∧ _ ∧ _ from ⟨hs0, hb0, p0, p1, p2⟩)
  have HW := Lib.hid hW0
  clear hs0 hb0 p0 p1 p2 hW0
  go_enter Tryd.func9, Tryd.ntmps9
  go_wp2_with fail
  rw [HW.out]
  refine (pright_any x y _).mono ?_
  rintro e w1 ⟨rfl, hb⟩
  have HB : Hid (Below w.heap.size w w1) := H0.out.2.1.trans (hb.mono H0.out.2.1.size)
  have HP0 : Hid (Nums w1 w.heap.size [x, y]) := H0.out.2.2.1.later hb
  have HP1 : Hid (Nums w1 (w.heap.size + 1) [u, v]) := H0.out.2.2.2.1.later hb
  have HP2 : Hid (Nums w1 (w.heap.size + 1 + 1) [0, 0]) := H0.out.2.2.2.2.later hb
  clear hb H0 HW W0
  obtain ⟨a0, a1, _, _⟩ := HP0.out.two
  obtain ⟨b0, b1, _, _⟩ := HP1.out.two
  obtain ⟨c0, c1, c2, c3⟩ := HP2.out.two
  cases hx : onP x && onP y with
  | false =>
    have e : shiftV x y u v = .tuple #[.agg #[.int .i64 0, .int .i64 0], .iface 31 (.int .i64 1)] := by unfold shiftV; rw [hx]; rfl
    have HE := Lib.hid e
    clear e
    go_wp2
    obtain ⟨W, hW, hbW, hn⟩ := put_two HP2.out HB.out (by omega) 0 0
    rw [hW]
    obtain ⟨q0, q1, _, _⟩ := hn.two
    refine bodyPost_ret (v := _) (by simp [results, Tryd.results9, go_sem, q0, q1]; rfl) rfl ?_
    exact ⟨by rw [HE.out], hbW⟩
  | true =>
    obtain ⟨x0, x1⟩ := onP_bounds (and_parts hx).1
    obtain ⟨y0, y1⟩ := onP_bounds (and_parts hx).2
    have HX := Lib.hid hx
    clear hx
    go_wp2_with fail
    refine (pright_any u v _).mono ?_
    rintro e w2 ⟨rfl, hb⟩
    have HB2 : Hid (Below w.heap.size w w2) := HB.out.trans (hb.mono HB.out.size)
    have HQ0 : Hid (Nums w2 w.heap.size [x, y]) := HP0.out.later hb
    have HQ1 : Hid (Nums w2 (w.heap.size + 1) [u, v]) := HP1.out.later hb
    have HQ2 : Hid (Nums w2 (w.heap.size + 1 + 1) [0, 0]) := HP2.out.later hb
    clear hb HP0 HP1 HP2 HB a0 a1 b0 b1 c0 c1 c2 c3
    obtain ⟨a0, a1, _, _⟩ := HQ0.out.two
    obtain ⟨b0, b1, _, _⟩ := HQ1.out.two
    obtain ⟨c0, c1, c2, c3⟩ := HQ2.out.two
    cases hu : onP u && onP v with
    | false =>
      have e : shiftV x y u v = .tuple #[.agg #[.int .i64 0, .int .i64 0], .iface 31 (.int .i64 1)] := by unfold shiftV; rw [HX.out, hu]; rfl
      have HE := Lib.hid e
      clear e
      go_wp2
      obtain ⟨W, hW, hbW, hn⟩ := put_two HQ2.out HB2.out (by omega) 0 0
      rw [hW]
      obtain ⟨q0, q1, _, _⟩ := hn.two
      refine bodyPost_ret (v := _) (by simp [results, Tryd.results9, go_sem, q0, q1]; rfl) rfl ?_
      exact ⟨by rw [HE.out], hbW⟩
    | true =>
      obtain ⟨u0, u1⟩ := onP_bounds (and_parts hu).1
      obtain ⟨v0, v1⟩ := onP_bounds (and_parts hu).2
      have HU := Lib.hid hu
      have hlt := HQ2.out.1
      clear hu
      go_wp2_with fail
      refine (pright_any (x + u) (y + v) _).mono ?_
      rintro e w3 ⟨rfl, hb⟩
      have hal := bel1 w2 (.cells #[.int .i64 (x + u), .int .i64 (y + v)] 23)
      have HB3 : Hid (Below w.heap.size w w3) := (HB2.out.trans (hal.mono HB2.out.size)).trans (hb.mono (by have := HB2.out.size; simp; omega))
      have HR2 : Hid (Nums w3 (w.heap.size + 1 + 1) [0, 0]) := (HQ2.out.later hal).later hb
      have HR3 : Hid (Nums w3 w2.heap.size [x + u, y + v]) := (pt_new w2 (x + u) (y + v) 23).later hb
      clear hb hal HQ0 HQ1 HQ2 HB2 a0 a1 b0 b1 c0 c1 c2 c3
      obtain ⟨a0, a1, _, _⟩ := HR3.out.two
      obtain ⟨c0, c1, c2, c3⟩ := HR2.out.two
      cases hs : onP (x + u) && onP (y + v) with
      | false =>
        have e : shiftV x y u v = .tuple #[.agg #[.int .i64 0, .int .i64 0], .iface 31 (.int .i64 8)] := by unfold shiftV; rw [HX.out, HU.out, hs]; rfl
        have HE := Lib.hid e
        clear e
        go_wp2
        obtain ⟨W, hW, hbW, hn⟩ := put_two HR2.out HB3.out (by omega) 0 0
        rw [hW]
        obtain ⟨q0, q1, _, _⟩ := hn.two
        refine bodyPost_ret (v := _) (by simp [results, Tryd.results9, go_sem, q0, q1]; rfl) rfl ?_
        exact ⟨by rw [HE.out], hbW⟩
      | true =>
        have e : shiftV x y u v = .tuple #[.agg #[.int .i64 (x + u), .int .i64 (y + v)], .nilIface] := by unfold shiftV; rw [HX.out, HU.out, hs]; rfl
        have HE := Lib.hid e
        clear e
        go_wp2
        obtain ⟨W, hW, hbW, hn⟩ := put_two HR2.out HB3.out (by omega) (x + u) (y + v)
        rw [hW]
        obtain ⟨q0, q1, _, _⟩ := hn.two
        refine bodyPost_ret (v := _) (by simp [results, Tryd.results9, go_sem, q0, q1]; rfl) rfl ?_
        exact ⟨by rw [HE.out], hbW⟩

theorem gp_start (w : World) (x y u v : Int) (t : TypeId) : ∃ W, (w.alloc (.cells #[.int .i64 x, .int .i64 y] t)).alloc (.cells #[.int .i64 u, .int .i64 v] t) = W ∧ Below w.heap.size w W ∧ Nums W w.heap.size [x, y] ∧ Nums W (w.heap.size + 1) [u, v] := by
  refine ⟨_, rfl, by go_grown, (pt_new w x y t).later (bel1 _ _), ?_⟩
  have := pt_new (w.alloc (.cells #[.int .i64 x, .int .i64 y] t)) u v t
  simpa using this

set_option maxRecDepth 100000 in
set_option maxHeartbeats 4000000 in
theorem gpoints_any (x y u v : Int) (w : World) (h : Tab16 w) :
    Calls Tryd.prog 3 #[.agg #[.int .i64 x, .int .i64 y], .agg #[.int .i64 u, .int .i64 v]] w fun e w' => e = .returned (.bool true) ∧ Below w.heap.size w w' := by
  obtain ⟨W0, hW0, hb0, p0, p1⟩ := gp_start w x y u v 23
  have H0 := Lib.hid (show _ ∧ _ ∧ _ from ⟨hb0, p0, p1⟩)
  have HW := Lib.hid hW0
  have HT := Lib.hid (h.later hb0 h.lt)
  clear h hb0 p0 p1 hW0
  go_enter Tryd.func3, Tryd.ntmps3
  go_wp2_with fail
  rw [HW.out]
  refine (lives4_any _ HT.out).mono ?_
  rintro e w1 ⟨rfl, hb⟩
  have HB : Hid (Below w.heap.size w w1) := H0.out.1.trans (hb.mono H0.out.1.size)
  have HP0 : Hid (Nums w1 w.heap.size [x, y]) := H0.out.2.1.later hb
  have HP1 : Hid (Nums w1 (w.heap.size + 1) [u, v]) := H0.out.2.2.later hb
  clear hb H0 HW HT W0
  obtain ⟨a0, a1, _, _⟩ := HP0.out.two
  obtain ⟨b0, b1, _, _⟩ := HP1.out.two
  go_upto_region 3 with fail
  go_cut [5] (fun a wx => a = .bool (onP x && onP y) ∧ wx = w1)
  case first =>
    go_wp2_with fail
    refine (rright_any x _).mono ?_
    rintro e w' ⟨rfl, rfl⟩
    cases hx : onP x with
    | true =>
      go_wp2_with fail
      refine (rright_any y _).mono ?_
      rintro e w' ⟨rfl, rfl⟩
      go_wp2_with fail
      go_meet
      exact ⟨by rw [hx, Bool.true_and], rfl⟩
    | false =>
      go_wp2_with fail
      go_meet
      exact ⟨by rw [hx, Bool.false_and], rfl⟩
  case rest =>
  obtain ⟨rfl, rfl⟩ := hcut
  go_upto_region 4 with fail
  go_cut [6] (fun a wx => a = .bool (onP u && onP v) ∧ wx = wc)
  case first =>
    go_wp2_with fail
    refine (rright_any u _).mono ?_
    rintro e w' ⟨rfl, rfl⟩
    cases hx : onP u with
    | true =>
      go_wp2_with fail
      refine (rright_any v _).mono ?_
      rintro e w' ⟨rfl, rfl⟩
      go_wp2_with fail
      go_meet
      exact ⟨by rw [hx, Bool.true_and], rfl⟩
    | false =>
      go_wp2_with fail
      go_meet
      exact ⟨by rw [hx, Bool.false_and], rfl⟩
  case rest =>
  obtain ⟨rfl, rfl⟩ := hcut
  have HS := Lib.hid (shift_any x y u v wc)
  have HR0 := Lib.hid (fun w => pright_any x y w)
  have HR1 := Lib.hid (fun w => pright_any u v w)
  obtain ⟨S, hS⟩ : ∃ S, shiftV x y u v = S := ⟨_, rfl⟩
  have HSV := Lib.hid hS
  rw [hS] at HS
  clear hS
  unfold shiftV at HSV
  cases hx : onP x && onP y with
  | false =>
    as_aux_lemma =>
    have e1 : S = .tuple #[.agg #[.int .i64 0, .int .i64 0], .iface 31 (.int .i64 1)] := by
      rw [← HSV.out, hx]; rfl
    subst e1
    rw [hx] at HR0
    clear HSV hx
    generalize (onP u && onP v) = U at *
    have hn : (U != U) = false := by simp
    go_wp2_with fail
    refine HS.out.mono ?_
    rintro e w2 ⟨rfl, hb⟩
    have HB2 : Hid (Below w.heap.size w w2) := HB.out.trans (hb.mono HB.out.size)
    have HQ0 : Hid (Nums w2 w.heap.size [x, y]) := HP0.out.later hb
    have HQ1 : Hid (Nums w2 (w.heap.size + 1) [u, v]) := HP1.out.later hb
    clear hb HS HP0 HP1 HB a0 a1 b0 b1
    obtain ⟨a0, a1, _, _⟩ := HQ0.out.two
    obtain ⟨b0, b1, _, _⟩ := HQ1.out.two
    have hl0 := HQ0.out.1
    have hl1 := HQ1.out.1
    go_wp2_with fail
    refine (HR0.out _).mono ?_
    rintro e w3 ⟨rfl, hb⟩
    have hal := bel1 w2 (.cells #[.int .i64 0, .int .i64 0] 23)
    have HB3 : Hid (Below w.heap.size w w3) := (HB2.out.trans (hal.mono HB2.out.size)).trans (hb.mono (by have := HB2.out.size; simp; omega))
    have HS0 : Hid (Nums w3 w.heap.size [x, y]) := (HQ0.out.later hal).later hb
    have HS1 : Hid (Nums w3 (w.heap.size + 1) [u, v]) := (HQ1.out.later hal).later hb
    have HS2 : Hid (Nums w3 w2.heap.size [0, 0]) := (pt_new w2 0 0 23).later hb
    have hsz := HB2.out.size
    clear hb hal HQ0 HQ1 HB2 a0 a1 b0 b1 hl0 hl1
    obtain ⟨a0, a1, _, _⟩ := HS0.out.two
    obtain ⟨b0, b1, _, _⟩ := HS1.out.two
    go_wp2_with fail
    refine (HR1.out _).mono ?_
    rintro e w4 ⟨rfl, hb⟩
    have HB4 : Hid (Below w.heap.size w w4) := HB3.out.trans (hb.mono HB3.out.size)
    have HT0 : Hid (Nums w4 w.heap.size [x, y]) := HS0.out.later hb
    have HT1 : Hid (Nums w4 (w.heap.size + 1) [u, v]) := HS1.out.later hb
    have HT2 : Hid (Nums w4 w2.heap.size [0, 0]) := HS2.out.later hb
    clear hb HB3 HS0 HS1 HS2 a0 a1 b0 b1
    obtain ⟨a0, a1, _, _⟩ := HT0.out.two
    obtain ⟨b0, b1, _, _⟩ := HT1.out.two
    obtain ⟨c0, c1, _, _⟩ := HT2.out.two
    have hl2 := HT2.out.1
    go_wp2_with fail
    refine (fis_one 1 (by decide) w4.heap.size _ _ (by simp)).mono ?_
    rintro e w5 ⟨rfl, rfl⟩
    go_wp2
    go_ret
    exact ⟨rfl, HB4.out.alloc HB4.out.size _⟩
  | true =>
    obtain ⟨x0, x1⟩ := onP_bounds (and_parts hx).1
    obtain ⟨y0, y1⟩ := onP_bounds (and_parts hx).2
    rw [hx] at HR0
    cases hu : onP u && onP v with
    | false =>
      as_aux_lemma =>
      have e1 : S = .tuple #[.agg #[.int .i64 0, .int .i64 0], .iface 31 (.int .i64 1)] := by
        rw [← HSV.out, hx, hu]; rfl
      subst e1
      rw [hu] at HR1
      clear HSV hx hu
      go_wp2_with fail
      refine HS.out.mono ?_
      rintro e w2 ⟨rfl, hb⟩
      have HB2 : Hid (Below w.heap.size w w2) := HB.out.trans (hb.mono HB.out.size)
      have HQ0 : Hid (Nums w2 w.heap.size [x, y]) := HP0.out.later hb
      have HQ1 : Hid (Nums w2 (w.heap.size + 1) [u, v]) := HP1.out.later hb
      clear hb HS HP0 HP1 HB a0 a1 b0 b1
      obtain ⟨a0, a1, _, _⟩ := HQ0.out.two
      obtain ⟨b0, b1, _, _⟩ := HQ1.out.two
      have hl0 := HQ0.out.1
      have hl1 := HQ1.out.1
      go_wp2_with fail
      refine (HR0.out _).mono ?_
      rintro e w3 ⟨rfl, hb⟩
      have hal := bel1 w2 (.cells #[.int .i64 0, .int .i64 0] 23)
      have HB3 : Hid (Below w.heap.size w w3) := (HB2.out.trans (hal.mono HB2.out.size)).trans (hb.mono (by have := HB2.out.size; simp; omega))
      have HS0 : Hid (Nums w3 w.heap.size [x, y]) := (HQ0.out.later hal).later hb
      have HS1 : Hid (Nums w3 (w.heap.size + 1) [u, v]) := (HQ1.out.later hal).later hb
      have HS2 : Hid (Nums w3 w2.heap.size [0, 0]) := (pt_new w2 0 0 23).later hb
      have hsz := HB2.out.size
      clear hb hal HQ0 HQ1 HB2 a0 a1 b0 b1 hl0 hl1
      obtain ⟨a0, a1, _, _⟩ := HS0.out.two
      obtain ⟨b0, b1, _, _⟩ := HS1.out.two
      go_wp2_with fail
      refine (HR1.out _).mono ?_
      rintro e w4 ⟨rfl, hb⟩
      have HB4 : Hid (Below w.heap.size w w4) := HB3.out.trans (hb.mono HB3.out.size)
      have HT0 : Hid (Nums w4 w.heap.size [x, y]) := HS0.out.later hb
      have HT1 : Hid (Nums w4 (w.heap.size + 1) [u, v]) := HS1.out.later hb
      have HT2 : Hid (Nums w4 w2.heap.size [0, 0]) := HS2.out.later hb
      clear hb HB3 HS0 HS1 HS2 a0 a1 b0 b1
      obtain ⟨a0, a1, _, _⟩ := HT0.out.two
      obtain ⟨b0, b1, _, _⟩ := HT1.out.two
      obtain ⟨c0, c1, _, _⟩ := HT2.out.two
      have hl2 := HT2.out.1
      go_wp2_with fail
      refine (fis_one 1 (by decide) w4.heap.size _ _ (by simp)).mono ?_
      rintro e w5 ⟨rfl, rfl⟩
      go_wp2
      go_ret
      exact ⟨rfl, HB4.out.alloc HB4.out.size _⟩
    | true =>
      obtain ⟨u0, u1⟩ := onP_bounds (and_parts hu).1
      obtain ⟨v0, v1⟩ := onP_bounds (and_parts hu).2
      rw [hu] at HR1
      cases hs : onP (x + u) && onP (y + v) with
      | false =>
        as_aux_lemma =>
        have e1 : S = .tuple #[.agg #[.int .i64 0, .int .i64 0], .iface 31 (.int .i64 8)] := by
          rw [← HSV.out, hx, hu, hs]; rfl
        subst e1
        have HSS := Lib.hid hs
        clear HSV hx hu hs
        go_wp2_with fail
        refine HS.out.mono ?_
        rintro e w2 ⟨rfl, hb⟩
        have HB2 : Hid (Below w.heap.size w w2) := HB.out.trans (hb.mono HB.out.size)
        have HQ0 : Hid (Nums w2 w.heap.size [x, y]) := HP0.out.later hb
        have HQ1 : Hid (Nums w2 (w.heap.size + 1) [u, v]) := HP1.out.later hb
        clear hb HS HP0 HP1 HB a0 a1 b0 b1
        obtain ⟨a0, a1, _, _⟩ := HQ0.out.two
        obtain ⟨b0, b1, _, _⟩ := HQ1.out.two
        have hl0 := HQ0.out.1
        have hl1 := HQ1.out.1
        go_wp2_with fail
        refine (HR0.out _).mono ?_
        rintro e w3 ⟨rfl, hb⟩
        have hal := bel1 w2 (.cells #[.int .i64 0, .int .i64 0] 23)
        have HB3 : Hid (Below w.heap.size w w3) := (HB2.out.trans (hal.mono HB2.out.size)).trans (hb.mono (by have := HB2.out.size; simp; omega))
        have HS0 : Hid (Nums w3 w.heap.size [x, y]) := (HQ0.out.later hal).later hb
        have HS1 : Hid (Nums w3 (w.heap.size + 1) [u, v]) := (HQ1.out.later hal).later hb
        have HS2 : Hid (Nums w3 w2.heap.size [0, 0]) := (pt_new w2 0 0 23).later hb
        have hsz := HB2.out.size
        clear hb hal HQ0 HQ1 HB2 a0 a1 b0 b1 hl0 hl1
        obtain ⟨a0, a1, _, _⟩ := HS0.out.two
        obtain ⟨b0, b1, _, _⟩ := HS1.out.two
        go_wp2_with fail
        refine (HR1.out _).mono ?_
        rintro e w4 ⟨rfl, hb⟩
        have HB4 : Hid (Below w.heap.size w w4) := HB3.out.trans (hb.mono HB3.out.size)
        have HT0 : Hid (Nums w4 w.heap.size [x, y]) := HS0.out.later hb
        have HT1 : Hid (Nums w4 (w.heap.size + 1) [u, v]) := HS1.out.later hb
        have HT2 : Hid (Nums w4 w2.heap.size [0, 0]) := HS2.out.later hb
        clear hb HB3 HS0 HS1 HS2 a0 a1 b0 b1
        obtain ⟨a0, a1, _, _⟩ := HT0.out.two
        obtain ⟨b0, b1, _, _⟩ := HT1.out.two
        obtain ⟨c0, c1, _, _⟩ := HT2.out.two
        have hl2 := HT2.out.1
        go_wp2_with fail
        go_quiet (fail)
        have d0 : (w4.drewN nq).cell? ⟨w2.heap.size, 0, none⟩ = some (.int .i64 0) := c0
        have d1 : (w4.drewN nq).cell? ⟨w2.heap.size, 1, none⟩ = some (.int .i64 0) := c1
        have d2 : w2.heap.size < (w4.drewN nq).heap.size := hl2
        have HD : Hid (Below w.heap.size w (w4.drewN nq)) := ⟨HB4.out.os, HB4.out.tape, HB4.out.output, HB4.out.size, HB4.out.block⟩
        generalize w4.drewN nq = w5 at *
        clear a0 a1 b0 b1 c0 c1 HT0 HT1 HT2 HB4 HR0 HR1
        go_upto_region 11 with fail
        go_cut [76] (fun a wx => a = .bool true ∧ wx = w5)
        case first =>
          go_wp2_with fail
          refine (rright_any (x + u) _).mono ?_
          rintro e w' ⟨rfl, rfl⟩
          cases hxu : onP (x + u) with
          | false =>
            go_wp2_with fail
            go_meet
            exact ⟨rfl, rfl⟩
          | true =>
            have hyv : onP (y + v) = false := by have := HSS.out; rw [hxu, Bool.true_and] at this; exact this
            have HY := Lib.hid (fun w => rright_any (y + v) w)
            rw [hyv] at HY
            clear hyv
            go_wp2_with fail
            refine (HY.out _).mono ?_
            rintro e w' ⟨rfl, rfl⟩
            go_wp2_with fail
            go_meet
            exact ⟨rfl, rfl⟩
        case rest =>
        obtain ⟨rfl, rfl⟩ := hcut
        go_wp2_with fail
        refine (fis_one 8 (by decide) wc.heap.size _ _ (by simp)).mono ?_
        rintro e w5 ⟨rfl, rfl⟩
        go_wp2
        go_ret
        exact ⟨rfl, HD.out.alloc HD.out.size _⟩
      | true =>
        as_aux_lemma =>
        have e1 : S = .tuple #[.agg #[.int .i64 (x + u), .int .i64 (y + v)], .nilIface] := by
          rw [← HSV.out, hx, hu, hs]; rfl
        subst e1
        have HSS := Lib.hid hs
        clear HSV hx hu hs
        go_wp2_with fail
        refine HS.out.mono ?_
        rintro e w2 ⟨rfl, hb⟩
        have HB2 : Hid (Below w.heap.size w w2) := HB.out.trans (hb.mono HB.out.size)
        have HQ0 : Hid (Nums w2 w.heap.size [x, y]) := HP0.out.later hb
        have HQ1 : Hid (Nums w2 (w.heap.size + 1) [u, v]) := HP1.out.later hb
        clear hb HS HP0 HP1 HB a0 a1 b0 b1
        obtain ⟨a0, a1, _, _⟩ := HQ0.out.two
        obtain ⟨b0, b1, _, _⟩ := HQ1.out.two
        have hl0 := HQ0.out.1
        have hl1 := HQ1.out.1
        go_wp2_with fail
        refine (HR0.out _).mono ?_
        rintro e w3 ⟨rfl, hb⟩
        have hal := bel1 w2 (.cells #[.int .i64 (x + u), .int .i64 (y + v)] 23)
        have HB3 : Hid (Below w.heap.size w w3) := (HB2.out.trans (hal.mono HB2.out.size)).trans (hb.mono (by have := HB2.out.size; simp; omega))
        have HS0 : Hid (Nums w3 w.heap.size [x, y]) := (HQ0.out.later hal).later hb
        have HS1 : Hid (Nums w3 (w.heap.size + 1) [u, v]) := (HQ1.out.later hal).later hb
        have HS2 : Hid (Nums w3 w2.heap.size [(x + u), (y + v)]) := (pt_new w2 (x + u) (y + v) 23).later hb
        have hsz := HB2.out.size
        clear hb hal HQ0 HQ1 HB2 a0 a1 b0 b1 hl0 hl1
        obtain ⟨a0, a1, _, _⟩ := HS0.out.two
        obtain ⟨b0, b1, _, _⟩ := HS1.out.two
        go_wp2_with fail
        refine (HR1.out _).mono ?_
        rintro e w4 ⟨rfl, hb⟩
        have HB4 : Hid (Below w.heap.size w w4) := HB3.out.trans (hb.mono HB3.out.size)
        have HT0 : Hid (Nums w4 w.heap.size [x, y]) := HS0.out.later hb
        have HT1 : Hid (Nums w4 (w.heap.size + 1) [u, v]) := HS1.out.later hb
        have HT2 : Hid (Nums w4 w2.heap.size [(x + u), (y + v)]) := HS2.out.later hb
        clear hb HB3 HS0 HS1 HS2 a0 a1 b0 b1
        obtain ⟨a0, a1, _, _⟩ := HT0.out.two
        obtain ⟨b0, b1, _, _⟩ := HT1.out.two
        obtain ⟨c0, c1, _, _⟩ := HT2.out.two
        have hl2 := HT2.out.1
        go_wp2_with fail
        go_quiet (fail)
        have d0 : (w4.drewN nq).cell? ⟨w2.heap.size, 0, none⟩ = some (.int .i64 (x + u)) := c0
        have d1 : (w4.drewN nq).cell? ⟨w2.heap.size, 1, none⟩ = some (.int .i64 (y + v)) := c1
        have d2 : w2.heap.size < (w4.drewN nq).heap.size := hl2
        have HD : Hid (Below w.heap.size w (w4.drewN nq)) := ⟨HB4.out.os, HB4.out.tape, HB4.out.output, HB4.out.size, HB4.out.block⟩
        generalize w4.drewN nq = w5 at *
        clear a0 a1 b0 b1 c0 c1 HT0 HT1 HT2 HB4 HR0 HR1
        go_upto_region 11 with fail
        go_cut [76] (fun a wx => a = .bool false ∧ wx = w5)
        case first =>
          go_wp2_with fail
          refine (rright_any (x + u) _).mono ?_
          rintro e w' ⟨rfl, rfl⟩
          rw [(and_parts HSS.out).1]
          have HY := Lib.hid (fun w => rright_any (y + v) w)
          rw [(and_parts HSS.out).2] at HY
          go_wp2_with fail
          refine (HY.out _).mono ?_
          rintro e w' ⟨rfl, rfl⟩
          go_wp2_with fail
          go_meet
          exact ⟨rfl, rfl⟩
        case rest =>
        obtain ⟨rfl, rfl⟩ := hcut
        go_wp2
        go_ret
        exact ⟨rfl, HD.out⟩
end Go.Proofs.YtlafbkehlglfoaaDoor
