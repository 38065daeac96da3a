-- Mny
import Derived.Test.YtchbdkadoamikaaMe
import Derived.Maps.OwnSet
import Derived.Test.YtchbdkadoamikaaFi10
section
namespace Go.Proofs.Ytchbdkadoamikaa
open Go.RowKit Go.Maps
set_option maxRecDepth 100000

/-- A memo asked. -/
theorem Me.look2 {w : World} {sb g tb most mb : Nat} {N : List Nd} {fb : Option Nat} {m : Stp → Option Value} (h : Me w sb g tb most N mb fb m) {x p : Nat} (ha : SeOk ⟨x, p⟩) :
    ∃ (y : Nat) (ok : Bool), (Instr.lookup 65 (.map fb) (.agg #[.int .u32 (x : Int), .int .i64 (p : Int)]) true).run Try.prog w = .ok (.tuple #[.int .u32 (y : Int), .bool ok]) w ∧
      (ok = true → m ⟨x, p⟩ = some (.int .u32 (y : Int)) ∧ ∃ n, Sc N n x p y) ∧ (ok = false → m ⟨x, p⟩ = none) := by
  rcases h.mp with ⟨rfl, hn⟩ | ⟨b', rfl, h1⟩
  · exact ⟨0, false, Maps.look_nil true Try.keyedE Try.underlying65 (Try.zeroID w) (keyE ⟨x, p⟩ ha), fun h => (by cases h), fun _ => hn _⟩
  · cases hm : m ⟨x, p⟩ with
    | some v =>
      obtain ⟨n, y, rfl, hc⟩ := h.tr _ v hm
      exact ⟨y, true, (h1.look _ ha).1 _ hm, fun _ => ⟨rfl, n, hc⟩, fun h => (by cases h)⟩
    | none => exact ⟨0, false, (h1.look _ ha).2 hm, fun h => (by cases h), fun _ => rfl⟩
/-- A memo's first map. -/
theorem Me.first {w : World} {sb g tb most mb : Nat} {N : List Nd} {m : Stp → Option Value} (h : Me w sb g tb most N mb none m) :
    Mx sb tb mb most w g N none m 0 ((w.alloc (.map #[] 0)).setCell ⟨mb, 1, none⟩ (.map (some w.heap.size))) g N (some w.heap.size) m := by
  obtain ⟨cap, hst⟩ := h.st
  obtain ⟨l1, l2, l3⟩ := hst.lt
  obtain ⟨th, t1, t2⟩ := h.blk
  obtain ⟨a1, a2, a3⟩ := h.ap
  have hml := h.mlt
  have hb := bel1 w (.map #[] 0)
  have hne : ∀ q, q ≠ mb → q < w.heap.size → ((w.alloc (.map #[] 0)).setCell ⟨mb, 1, none⟩ (.map (some w.heap.size))).heap[q]? = w.heap[q]? := fun q h1 h2 => by
    rw [Below.heap_setCell _ _ _ _ (by show q ≠ mb; exact h1), hb.block q h2]
  have hmn : ∀ a, m a = none := by
    rcases h.mp with ⟨_, hn⟩ | ⟨b, e, _⟩
    · exact hn
    · cases e
  refine ⟨⟨⟨cap, hst.keep (hne sb (Ne.symm a1) l1) (hne g (Ne.symm a2) l2) (hne tb (Ne.symm a3) l3)⟩, ⟨th, t1, ?_⟩, Or.inr ⟨_, rfl, ?_⟩, h.tr, h.ap, fun b e => by cases e; omega⟩, ⟨rfl, rfl, rfl, by simp, fun b h1 h2 => ?_⟩, Or.inl rfl, Or.inr ⟨_, rfl, Nat.le_refl _⟩, ⟨[], by simp, by simp⟩, fun _ _ h => h⟩
  · have : (w.alloc (.map #[] 0)).heap[mb]? = some (meO sb none th) := by rw [hb.block mb hml]; exact t2
    simp only [World.setCell, Array.getElem?_modify, this, meO]
    simp
  · have e : m = fun _ => none := funext hmn
    rw [e]
    refine (gmap_new mkE w).blk ?_
    rw [Below.heap_setCell _ _ _ _ (by show w.heap.size ≠ mb; omega)]
  · exact hne b (fun e => h2 (by simp [e])) h1
/-- A memo remembers. -/
theorem Me.put2 {w : World} {sb g tb most mb : Nat} {N : List Nd} {b : Nat} {m : Stp → Option Value} (h : Me w sb g tb most N mb (some b) m) {n x p y : Nat} (hs : Sc N n x p y) :
    ∃ w', (Instr.mapUpdate 65 (.map (some b)) (.agg #[.int .u32 (x : Int), .int .i64 (p : Int)]) (.int .u32 (y : Int))).run Try.prog w = .ok () w' ∧
      Mx sb tb mb most w g N (some b) m 0 w' g N (some b) (fun a => if a = ⟨x, p⟩ then some (.int .u32 (y : Int)) else m a) := by
  have ha := hs.ok h
  obtain ⟨cap, hst⟩ := h.st
  obtain ⟨l1, l2, l3⟩ := hst.lt
  obtain ⟨th, t1, t2⟩ := h.blk
  obtain ⟨q1, q2, q3, q4⟩ := h.apf b rfl
  rcases h.mp with ⟨e, _⟩ | ⟨b', e, h1⟩
  · cases e
  cases e
  obtain ⟨w', r1, r2, r3⟩ := h1.put ⟨x, p⟩ ha (.int .u32 (y : Int))
  have hne : ∀ q, q < w.heap.size → q ≠ b → w'.heap[q]? = w.heap[q]? := fun q hq hn => r3.block q hq (fun e => hn (Option.some.inj e))
  refine ⟨w', r1, ⟨⟨⟨cap, hst.keep (hne sb l1 (Ne.symm q1)) (hne g l2 (Ne.symm q2)) (hne tb l3 (Ne.symm q3))⟩, ⟨th, t1, by rw [hne mb h.mlt (Ne.symm q4)]; exact t2⟩, Or.inr ⟨b, rfl, r2⟩, fun a v hv => ?_, h.ap, h.apf⟩, Frm.of_grown r3 (fun c e => by cases e; simp), Or.inl rfl, Or.inl rfl, ⟨[], by simp, by simp⟩, fun a v hv => ?_⟩⟩
  · by_cases e : a = ⟨x, p⟩
    · subst e
      rw [if_pos rfl] at hv
      exact ⟨n, y, (Option.some.inj hv).symm, hs⟩
    · rw [if_neg e] at hv
      exact h.tr a v hv
  · show (if a = ⟨x, p⟩ then _ else m a) = some v
    by_cases e : a = ⟨x, p⟩
    · subst e
      obtain ⟨n', z, rfl, hz⟩ := h.tr _ v hv
      rw [if_pos rfl, hz.uniq h.wf hs]
    · rw [if_neg e]
      exact hv
end Go.Proofs.Ytchbdkadoamikaa
end

section
namespace Go.Proofs.Ytchbdkadoamikaa
open Go.RowKit Go.Maps
set_option maxRecDepth 100000

/-- The contract of find, at a level and a power. -/
def Finds (sb tb mb most n p c : Nat) : Prop := ∀ (w : World) (g : Nat) (N : List Nd) (fb : Option Nat) (m : Stp → Option Value), Me w sb g tb most N mb fb m → ∀ (x : Nat), Sq N (n + 2) x →
    Calls Try.prog 38 #[.pointer (some ⟨mb, 0, none⟩), .agg #[.int .u32 (x : Int), .int .i64 (p : Int)]] w fun e w' => ∃ g' N' fb' m', Mx sb tb mb most w g N fb m c w' g' N' fb' m' ∧ Find most e N' n x p
theorem Sq.seOk {w : World} {sb g tb most mb : Nat} {N : List Nd} {fb : Option Nat} {m : Stp → Option Value} (h : Me w sb g tb most N mb fb m) {n x p : Nat} (hx : Sq N (n + 2) x) (hp : p ≤ n) : SeOk ⟨x, p⟩ := by
  obtain ⟨cap, hst⟩ := h.st
  have h1 := hx.lt
  have h2 := hst.room
  have h3 := hst.most_le
  have h4 := Sq.le62 hst.wf (n := n + 1) hx
  exact ⟨by show x < _; omega, by show p < _; omega⟩
theorem eqMapNo (b : Nat) (w : World) : (binOp .eql 65 (.map (some b)) (.map none)).run Try.prog w = .ok (.bool false) w := by kernel_rfl
theorem eqMapYes (w : World) : (binOp .eql 65 (.map none) (.map none)).run Try.prog w = .ok (.bool true) w := by kernel_rfl
set_option maxHeartbeats 4000000 in
theorem next_of {sb tb mb most n p c : Nat} (hp : p ≤ n) (HFD : Finds sb tb mb most n p c) : Nexts sb tb mb most n p c := by
  intro w g N fb m h x hx
  have HM := Lib.hid h
  have HX := Lib.hid hx
  have HFI := Lib.hid HFD
  have HB := Lib.hid (bel1 w (.cells #[.int .u32 (x : Int), .int .i64 (p : Int)] 71))
  have HO : Hid (Oe (w.alloc (.cells #[.int .u32 (x : Int), .int .i64 (p : Int)] 71)) sb g tb mb fb w.heap.size (seO x p)) := Oe.new h _ _
  have HM0 := Lib.hid (h.later HB.out)
  have HOK := Lib.hid (Sq.seOk h hx hp)
  clear h hx HFD
  go_enter Try.func28, Try.ntmps28
  go_upto_region 1 with fail
  generalize w.alloc (.cells #[.int .u32 (x : Int), .int .i64 (p : Int)] 71) = W0 at *
  obtain ⟨th, hth, m0, m1, m2, m3⟩ := HM0.out.cells
  obtain ⟨e0, e1⟩ := se_cells HO.out.at_
  obtain ⟨y, ok, hlk, hyes, hno⟩ := HM0.out.drew.look2 HOK.out
  have HY := Lib.hid hyes
  clear hth m0 m2 m3 hyes hno
  refine region_sq 10 (fun W => W = W0.drew) [(0, 1), (1, 1), (2, 1), (3, 2), (4, 2), (5, 2), (6, 1), (7, 1), (8, 1), (9, 1), (10, 3)] (by kernel_rfl) (by kernel_rfl) rfl (by intro c a d v w h; cases d <;> exact h) (by kernel_rfl) rfl ?_
  refine ⟨_, ?_, rfl, by rfl, ?_, ?_⟩
  rotate_left
  · intro W; go_simp; first | done | rfl
  conv => arg 6; simp only [Act.put, List.setIfInBounds_toArray, List.set_cons_zero, List.set_cons_succ]
  refine ⟨_, ?_, rfl, by rfl, ?_, ?_⟩
  rotate_left
  · intro W; go_simp; first | done | rfl
  conv => arg 6; simp only [Act.put, List.setIfInBounds_toArray, List.set_cons_zero, List.set_cons_succ]
  refine ⟨_, ?_, rfl, by rfl, ?_, ?_⟩
  rotate_left
  · intro W; go_simp; first | done | rfl
  conv => arg 6; simp only [Act.put, List.setIfInBounds_toArray, List.set_cons_zero, List.set_cons_succ]
  refine ⟨_, ?_, rfl, by rfl, ?_, ?_⟩
  rotate_left
  · rintro W rfl
    skip
    go_simp; first | done | rfl
  conv => arg 6; simp only [Act.put, List.setIfInBounds_toArray, List.set_cons_zero, List.set_cons_succ]
  refine ⟨_, ?_, rfl, by rfl, ?_, ?_⟩
  rotate_left
  · rintro W rfl
    skip
    go_simp; first | done | rfl
  conv => arg 6; simp only [Act.put, List.setIfInBounds_toArray, List.set_cons_zero, List.set_cons_succ]
  refine ⟨_, ?_, rfl, by rfl, ?_, ?_⟩
  rotate_left
  · rintro W rfl
    skip
    go_simp; first | done | rfl
  conv => arg 6; simp only [Act.put, List.setIfInBounds_toArray, List.set_cons_zero, List.set_cons_succ]
  refine ⟨_, ?_, rfl, by rfl, ?_, ?_⟩
  rotate_left
  · intro W; go_simp; first | done | rfl
  conv => arg 6; simp only [Act.put, List.setIfInBounds_toArray, List.set_cons_zero, List.set_cons_succ]
  refine ⟨_, ?_, rfl, by rfl, ?_, ?_⟩
  rotate_left
  · intro W; go_simp; first | done | rfl
  conv => arg 6; simp only [Act.put, List.setIfInBounds_toArray, List.set_cons_zero, List.set_cons_succ]
  refine ⟨_, ?_, rfl, by rfl, ?_, ?_⟩
  rotate_left
  · intro W; go_simp; first | done | rfl
  conv => arg 6; simp only [Act.put, List.setIfInBounds_toArray, List.set_cons_zero, List.set_cons_succ]
  refine ⟨_, ?_, rfl, by rfl, ?_, ?_⟩
  rotate_left
  · intro W; go_simp; first | done | rfl
  conv => arg 6; simp only [Act.put, List.setIfInBounds_toArray, List.set_cons_zero, List.set_cons_succ]
  refine ⟨_, rfl, by rfl, fun K hK => ?_⟩
  go_simp
  refine hK _ _ ?_
  clear hK K
  conv => arg 6; simp only [Act.put, List.setIfInBounds_toArray, List.set_cons_zero, List.set_cons_succ]
  unfold wpSq
  have m1' : W0.drew.cell? ⟨mb, 1, none⟩ = some (.map fb) := m1
  clear hlk
  cases ok with
  | true =>
    have HY1 := Lib.hid (HY.out rfl)
    clear HY
    go_wp2_with fail
    go_ret2
    obtain ⟨h1, n', h2⟩ := HY1.out
    have : n' = n := by
      have e1 : lvZ N x = ((n' + 2 : Nat) : Int) := h2.sq
      have e2 : lvZ N x = ((n + 2 : Nat) : Int) := HX.out
      omega
    subst this
    exact ⟨g, N, fb, m, ((Mx.of_below HM.out HB.out).drew).mono (Nat.zero_le _), Or.inl ⟨y, rfl, h2, h1⟩⟩
  | false =>
    clear HY
    have HC := Lib.hid (HFI.out _ _ _ _ _ HM0.out.drew _ HX.out)
    have e0' : W0.drew.cell? ⟨w.heap.size, 0, none⟩ = some (.int .u32 (x : Int)) := e0
    have e1' : W0.drew.cell? ⟨w.heap.size, 1, none⟩ = some (.int .i64 (p : Int)) := e1
    go_wp2_with fail
    refine HC.out.mono ?_
    rintro e w5 ⟨g5, N5, fb5, m5, hmx, hres⟩
    have HMX := Lib.hid (((Mx.of_below HM.out HB.out).trans hmx.undrew).mono (show 0 + c ≤ c by omega))
    have HO5 := Lib.hid (HO.out.drew.mx hmx)
    clear HC m1 m1' e0 e1 e0' e1' hmx
    rcases hres with ⟨z, rfl, hsc⟩ | ⟨rfl, hfull⟩
    · have HSC := Lib.hid hsc
      clear hsc
      cases fb5 with
      | some b =>
        have heq := eqMapNo b
        obtain ⟨th, hth, m0, m1, m2, m3⟩ := HMX.out.me.cells
        clear hth m0 m2 m3
        go_upto_region 9 with fail
        have HMZ := Lib.hid HMX.out
        have HOZ := Lib.hid HO5.out
        clear m1
        have HSC9 : Hid (Sc N5 n x p z) := HSC.out
        obtain ⟨wp, hup, hmp⟩ := HMZ.out.me.drew.put2 HSC.out
        have HUP := Lib.hid hup
        have HMP := Lib.hid hmp
        clear hup hmp
        obtain ⟨th, hth, m0, m1, m2, m3⟩ := HMZ.out.me.cells
        obtain ⟨e0, e1⟩ := se_cells HOZ.out.at_
        clear hth m0 m2 m3
        refine region_sq 6 (fun W => W = w5.drew) [(0, 1), (1, 1), (2, 1), (3, 2), (4, 2), (5, 1), (6, 3)] (by kernel_rfl) (by kernel_rfl) rfl (by intro c a d v w h; cases d <;> exact h) (by kernel_rfl) rfl ?_
        refine ⟨_, ?_, rfl, by rfl, ?_, ?_⟩
        rotate_left
        · intro W; go_simp; first | done | rfl
        conv => arg 6; simp only [Act.put, List.setIfInBounds_toArray, List.set_cons_zero, List.set_cons_succ]
        refine ⟨_, ?_, rfl, by rfl, ?_, ?_⟩
        rotate_left
        · intro W; go_simp; first | done | rfl
        conv => arg 6; simp only [Act.put, List.setIfInBounds_toArray, List.set_cons_zero, List.set_cons_succ]
        refine ⟨_, ?_, rfl, by rfl, ?_, ?_⟩
        rotate_left
        · intro W; go_simp; first | done | rfl
        conv => arg 6; simp only [Act.put, List.setIfInBounds_toArray, List.set_cons_zero, List.set_cons_succ]
        refine ⟨_, ?_, rfl, by rfl, ?_, ?_⟩
        rotate_left
        · rintro W rfl
          skip
          go_simp; first | done | rfl
        conv => arg 6; simp only [Act.put, List.setIfInBounds_toArray, List.set_cons_zero, List.set_cons_succ]
        refine ⟨_, ?_, rfl, by rfl, ?_, ?_⟩
        rotate_left
        · rintro W rfl
          skip
          go_simp; first | done | rfl
        conv => arg 6; simp only [Act.put, List.setIfInBounds_toArray, List.set_cons_zero, List.set_cons_succ]
        refine ⟨_, ?_, rfl, by rfl, ?_, ?_⟩
        rotate_left
        · intro W; go_simp; first | done | rfl
        conv => arg 6; simp only [Act.put, List.setIfInBounds_toArray, List.set_cons_zero, List.set_cons_succ]
        refine ⟨_, rfl, by rfl, fun K hK => ?_⟩
        go_simp
        rw [HUP.out]
        go_simp
        refine hK _ _ ?_
        clear hK K
        conv => arg 6; simp only [Act.put, List.setIfInBounds_toArray, List.set_cons_zero, List.set_cons_succ]
        unfold wpSq
        go_wp2_with fail
        go_ret2
        exact ⟨g5, N5, _, _, (HMZ.out.trans HMP.out.undrew).mono (by omega), Or.inl ⟨z, rfl, HSC.out, by simp⟩⟩
      | none =>
        have heq := eqMapYes
        have hmm := @run_makeMap Try.prog
        obtain ⟨th, hth, m0, m1, m2, m3⟩ := HMX.out.me.cells
        clear hth m0 m2 m3
        obtain ⟨th', hth', m5, m6, m7, m8⟩ := (HMX.out.me.later (bel1 w5 (.map #[] 0))).cells
        have m9 := m8 1
        clear hth' m5 m7 m8
        go_upto_region 9 with fail
        have HMZ := Lib.hid (HMX.out.trans HMX.out.me.first)
        have HOZ := Lib.hid (HO5.out.mx HMX.out.me.first)
        clear m1 m6 m9
        generalize (w5.alloc (.map #[] 0)).setCell ⟨mb, 1, none⟩ (.map (some w5.heap.size)) = w6 at *
        have HSC9 : Hid (Sc N5 n x p z) := HSC.out
        obtain ⟨wp, hup, hmp⟩ := HMZ.out.me.drew.put2 HSC.out
        have HUP := Lib.hid hup
        have HMP := Lib.hid hmp
        clear hup hmp
        obtain ⟨th, hth, m0, m1, m2, m3⟩ := HMZ.out.me.cells
        obtain ⟨e0, e1⟩ := se_cells HOZ.out.at_
        clear hth m0 m2 m3
        refine region_sq 6 (fun W => W = w6.drew) [(0, 1), (1, 1), (2, 1), (3, 2), (4, 2), (5, 1), (6, 3)] (by kernel_rfl) (by kernel_rfl) rfl (by intro c a d v w h; cases d <;> exact h) (by kernel_rfl) rfl ?_
        refine ⟨_, ?_, rfl, by rfl, ?_, ?_⟩
        rotate_left
        · intro W; go_simp; first | done | rfl
        conv => arg 6; simp only [Act.put, List.setIfInBounds_toArray, List.set_cons_zero, List.set_cons_succ]
        refine ⟨_, ?_, rfl, by rfl, ?_, ?_⟩
        rotate_left
        · intro W; go_simp; first | done | rfl
        conv => arg 6; simp only [Act.put, List.setIfInBounds_toArray, List.set_cons_zero, List.set_cons_succ]
        refine ⟨_, ?_, rfl, by rfl, ?_, ?_⟩
        rotate_left
        · intro W; go_simp; first | done | rfl
        conv => arg 6; simp only [Act.put, List.setIfInBounds_toArray, List.set_cons_zero, List.set_cons_succ]
        refine ⟨_, ?_, rfl, by rfl, ?_, ?_⟩
        rotate_left
        · rintro W rfl
          skip
          go_simp; first | done | rfl
        conv => arg 6; simp only [Act.put, List.setIfInBounds_toArray, List.set_cons_zero, List.set_cons_succ]
        refine ⟨_, ?_, rfl, by rfl, ?_, ?_⟩
        rotate_left
        · rintro W rfl
          skip
          go_simp; first | done | rfl
        conv => arg 6; simp only [Act.put, List.setIfInBounds_toArray, List.set_cons_zero, List.set_cons_succ]
        refine ⟨_, ?_, rfl, by rfl, ?_, ?_⟩
        rotate_left
        · intro W; go_simp; first | done | rfl
        conv => arg 6; simp only [Act.put, List.setIfInBounds_toArray, List.set_cons_zero, List.set_cons_succ]
        refine ⟨_, rfl, by rfl, fun K hK => ?_⟩
        go_simp
        rw [HUP.out]
        go_simp
        refine hK _ _ ?_
        clear hK K
        conv => arg 6; simp only [Act.put, List.setIfInBounds_toArray, List.set_cons_zero, List.set_cons_succ]
        unfold wpSq
        go_wp2_with fail
        go_ret2
        exact ⟨g5, N5, _, _, (HMZ.out.trans HMP.out.undrew).mono (by omega), Or.inl ⟨z, rfl, HSC.out, by simp⟩⟩
    · have HF := Lib.hid hfull
      clear hfull
      go_wp2_with fail
      go_ret2
      exact ⟨g5, N5, fb5, m5, HMX.out, Or.inr ⟨rfl, HF.out⟩⟩
end Go.Proofs.Ytchbdkadoamikaa
end

section
namespace Go.Proofs.Ytchbdkadoamikaa
open Go.RowKit Go.Maps
set_option maxRecDepth 100000

/-- How many squares a successor makes, at most. -/
def cE : Nat → Nat
  | 0 => 1
  | n + 1 => 9 * (1 + cE n) + 4 * (1 + cE n) + 1
theorem nexts_all (sb tb mb most : Nat) : ∀ n p, p ≤ n → Nexts sb tb mb most n p (cE n)
  | 0, p, hp => by
    obtain rfl : p = 0 := by omega
    refine next_of (Nat.le_refl _) fun w g N fb m h x hx => ?_
    exact find_zero h hx
  | n + 1, p, hp => by
    refine next_of hp fun w g N fb m h x hx => ?_
    by_cases e : p = n + 1
    · exact find_top e (nexts_all sb tb mb most n n (Nat.le_refl _)) h hx
    · refine (find_low (p := p) (by omega) (nexts_all sb tb mb most n p (by omega)) h hx).mono ?_
      rintro e w' ⟨g', N', fb', m', h1, h2⟩
      exact ⟨g', N', fb', m', h1.mono (by show _ ≤ 9 * (1 + cE n) + 4 * (1 + cE n) + 1; omega), h2⟩
theorem Me.there {w : World} {sb g tb most mb : Nat} {N : List Nd} {fb : Option Nat} {m : Stp → Option Value} (h : Me w sb g tb most N mb fb m) : Mx sb tb mb most w g N fb m 0 (w.setCell ⟨mb, 2, none⟩ (.int .i64 (N.length : Int))) g N fb m := by
  obtain ⟨cap, hst⟩ := h.st
  obtain ⟨th, t1, t2⟩ := h.blk
  obtain ⟨a1, a2, a3⟩ := h.ap
  have hne : ∀ q, q ≠ mb → (w.setCell ⟨mb, 2, none⟩ (.int .i64 (N.length : Int))).heap[q]? = w.heap[q]? := fun q h1 => Below.heap_setCell _ _ _ _ h1
  refine ⟨⟨⟨cap, hst.keep (hne sb (Ne.symm a1)) (hne g (Ne.symm a2)) (hne tb (Ne.symm a3))⟩, ⟨N.length, Nat.le_refl _, ?_⟩, h.mp.imp id (fun ⟨b, e, hb⟩ => ⟨b, e, hb.blk (hne b (h.apf b e).2.2.2)⟩), h.tr, h.ap, h.apf⟩, ⟨rfl, rfl, rfl, by simp, fun b h1 h2 => hne b (fun e => h2 (by simp [e]))⟩, Or.inl rfl, Or.inl rfl, ⟨[], by simp, by simp⟩, fun _ _ h => h⟩
  simp only [World.setCell, Array.getElem?_modify, t2, meO]
  simp
theorem res_out {most : Nat} {e : Ending} {N' : List Nd} {m' : Stp → Option Value} {n x p : Nat} (h : Res10 most e N' m' n x p) : ∃ (r : Nat) (ev : Value), e = .returned (.tuple #[.int .u32 (r : Int), ev]) := by
  rcases h with ⟨z, rfl, _⟩ | ⟨rfl, _⟩
  · exact ⟨_, _, rfl⟩
  · exact ⟨0, _, rfl⟩
set_option maxHeartbeats 2000000 in
theorem enext_any {w : World} {sb g tb most mb : Nat} {N : List Nd} {fb : Option Nat} {m : Stp → Option Value} (h : Me w sb g tb most N mb fb m) {n x p : Nat} (hx : Sq N (n + 2) x) (hp : p ≤ n) :
    Calls Try.prog 11 #[.pointer (some ⟨mb, 0, none⟩), .int .u32 (x : Int), .int .i64 (p : Int)] w fun e w' => ∃ g' N' fb' m', Mx sb tb mb most w g N fb m (cE n) w' g' N' fb' m' ∧ Res10 most e N' m' n x p := by
  have HM := Lib.hid h
  have HX := Lib.hid hx
  have hxu : x < 4294967296 := by obtain ⟨cap, hs⟩ := h.st; exact Sq.u32 hs hx
  have HLV := Lib.hid (by obtain ⟨cap, hs⟩ := h.st; exact level_any hs x hxu)
  rw [show lvZ N x = ((n + 2 : Nat) : Int) from hx] at HLV
  have w1 : IntKind.i64.wrap (((n + 2 : Nat) : Int) - 2) = ((n : Nat) : Int) := by rw [show ((n + 2 : Nat) : Int) - 2 = ((n : Nat) : Int) by omega]; exact IntWalk.i64_in _ (by have := Sq.le62 h.wf (n := n + 1) hx; omega)
  have g1 : decide ((p : Int) < 0) = false := by simp
  have g2 : decide (n < p) = false := by simp; omega
  obtain ⟨th, hth, m0, m1, m2, m3⟩ := h.cells
  have HPP := Lib.hid hp
  clear h hx hth m1 m2 m3
  generalize hlv : ((n + 2 : Nat) : Int) = lv at *
  go_enter Try.func11, Try.ntmps11
  go_wp2_with fail
  refine HLV.out.mono ?_
  rintro e w5 ⟨rfl, rfl⟩
  clear HLV hlv
  go_wp2_with fail
  refine (prune_any HM.out).mono ?_
  rintro e w5 ⟨rfl, hb⟩
  have HB5 := Lib.hid hb
  have HNX := Lib.hid (nexts_all sb tb mb most n p HPP.out _ _ _ _ _ (HM.out.later hb) _ HX.out)
  clear hb m0
  go_wp2_with fail
  refine HNX.out.mono ?_
  rintro e w6 ⟨g6, N6, fb6, m6, hmx, hres⟩
  have HMX := Lib.hid (((Mx.of_below HM.out HB5.out).trans hmx).mono (show 0 + cE n ≤ cE n by omega))
  have HR := Lib.hid hres
  clear hmx hres HNX
  obtain ⟨r, ev, rfl⟩ := res_out HR.out
  obtain ⟨th, hth, m0, m1, m2, m3⟩ := HMX.out.me.cells
  have m4 := m3 2
  obtain ⟨cap6, hs6⟩ := HMX.out.me.st
  have HS6 := Lib.hid hs6
  clear hs6 hth m1 m3
  go_wp2_with fail
  refine (len_any HS6.out).mono ?_
  rintro e w7 ⟨rfl, rfl⟩
  go_wp2_with fail
  go_ret2
  exact ⟨g6, N6, fb6, m6, (HMX.out.trans HMX.out.me.there).mono (by omega), HR.out⟩
theorem enext_bad {w : World} {sb g tb most mb : Nat} {N : List Nd} {fb : Option Nat} {m : Stp → Option Value} (h : Me w sb g tb most N mb fb m) (x : Nat) (hxu : x < 4294967296) (p : Int) (hp : p < 0 ∨ p > lvZ N x - 2) :
    Calls Try.prog 11 #[.pointer (some ⟨mb, 0, none⟩), .int .u32 (x : Int), .int .i64 p] w fun e w' => e = .returned (.tuple #[.int .u32 0, .iface 56 (.int .i64 1)]) ∧ w = w' := by
  obtain ⟨cap, hs⟩ := h.st
  have HLV := Lib.hid (level_any hs x hxu)
  obtain ⟨th, hth, m0, m1, m2, m3⟩ := h.cells
  have hl1 : -1 ≤ lvZ N x := by
    unfold lvZ; split <;> omega
  have hl2 : lvZ N x ≤ 62 := by
    unfold lvZ
    split
    · rename_i nd hnd
      have := hs.wf.lv_le hnd
      omega
    · omega
  have w1 : IntKind.i64.wrap (lvZ N x - 2) = lvZ N x - 2 := IntWalk.i64_in _ (by omega)
  clear h hs hth m1 m2 m3
  generalize lvZ N x = lv at *
  by_cases h0 : p < 0
  · have g1 : decide (p < 0) = true := by simp; omega
    clear hp
    go_enter Try.func11, Try.ntmps11
    go_wp2_with fail
    go_ret2
    exact ⟨rfl, rfl⟩
  · have g1 : decide (p < 0) = false := by simp; omega
    have g2 : decide (lv - 2 < p) = true := by simp; omega
    clear hp
    go_enter Try.func11, Try.ntmps11
    go_wp2_with fail
    refine HLV.out.mono ?_
    rintro e w5 ⟨rfl, rfl⟩
    go_wp2_with fail
    go_ret2
    exact ⟨rfl, rfl⟩
end Go.Proofs.Ytchbdkadoamikaa
end
