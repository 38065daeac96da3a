/- Package base: square, Square: contracts. -/
import Derived.Test.YtgaakpdmkgigaaaBb
namespace Go.Proofs.Ytgaakpdmkgigaaa
open Go.RowKit Go.Maps
set_option maxRecDepth 100000

theorem two_out9 {e : Ending} {A : Nat → Prop} {B : Prop} (h : (∃ r : Nat, e = .returned (.tuple #[.int .u32 (r : Int), .nilIface]) ∧ A r) ∨ (e = .returned (.tuple #[.int .u32 0, .iface 58 (.int .i64 7)]) ∧ B)) :
    ∃ (r : Nat) (ev : Value), e = .returned (.tuple #[.int .u32 (r : Int), ev]) ∧ ((ev = .nilIface ∧ A r) ∨ (ev = .iface 58 (.int .i64 7) ∧ r = 0 ∧ B)) := by
  rcases h with ⟨r, rfl, h⟩ | ⟨rfl, h⟩
  · exact ⟨r, _, rfl, Or.inl ⟨rfl, h⟩⟩
  · exact ⟨0, _, rfl, Or.inr ⟨rfl, rfl, h⟩⟩
/-- A square of level 2 has these cells. -/
def Fr (N : List Nd) (x f : Nat) : Prop := Sq N 2 x ∧ ∀ i, i < 4 → kidZ N (kAt (kidZ N x) i) = qK f i
theorem qK_fo {N : List Nd} (hw : Wf N) (f i : Nat) : Fo N 0 (qK f i) := by
  refine fo_iff.2 fun j hj => ?_
  unfold qK
  rw [kAt_mk4 _ hj]
  split
  · exact sq_alive hw
  · exact sq_dead hw
theorem Fr.app {N : List Nd} (hw : Wf N) {x f : Nat} (E : List Nd) (h : Fr N x f) : Fr (N ++ E) x f := by
  refine ⟨h.1.app E, fun i hi => ?_⟩
  rw [kid_app E h.1.lt, kid_app E (fo_iff.1 (h.1.kid hw) i hi).lt]
  exact h.2 i hi
set_option maxHeartbeats 2000000 in
theorem square9_any {w : World} {sb g tb cap most : Nat} {N : List Nd} (h : St w sb g tb cap most N) (f : Nat) (hf : f < 65536) :
    Calls Try.prog 24 #[.int .u16 (f : Int), .pointer (some ⟨sb, 0, none⟩)] w fun e w' => ∃ g' N', Nx sb tb most w g N 5 w' g' N' ∧
      ((∃ r : Nat, e = .returned (.tuple #[.int .u32 (r : Int), .nilIface]) ∧ Fr N' r f) ∨ (e = .returned (.tuple #[.int .u32 0, .iface 58 (.int .i64 7)]) ∧ most ≤ N'.length)) := by
  have HB := Lib.hid (bel1 w (.cells #[.int .u32 0, .int .u32 0, .int .u32 0, .int .u32 0] 49))
  have HS0 := Lib.hid h
  have HO := Lib.hid (Ob.new h #[.int .u32 0, .int .u32 0, .int .u32 0, .int .u32 0] 49)
  clear h
  go_enter Try.func24, Try.ntmps24
  go_wp2_with fail
  generalize w.alloc (.cells #[.int .u32 0, .int .u32 0, .int .u32 0, .int .u32 0] 49) = W0 at *
  go_loopg [7, 8, 9] 4 (fun m v7 v8 cnt wr => ∃ (j gg : Nat) (M : List Nd) (q : Nat → Nat), m = 4 - j ∧ j ≤ 4 ∧ cnt = .int .i64 (j : Int) ∧ Nx sb tb most w g N j wr gg M ∧ Ob wr sb gg tb w.heap.size (kO (mk4 q)) ∧ (∀ i, i < j → Sq M 1 (q i) ∧ kidZ M (q i) = qK f i))
  case atStart => exact ⟨0, g, N, fun _ => 0, rfl, Nat.zero_le _, rfl, Nx.of_below HS0.out HB.out, HO.out, fun i hi => by omega⟩
  case round =>
    clear HO HB
    obtain ⟨j, gg, M, q, hm, hj, rfl, hN, hO, hq⟩ := hrel
    have HM := Lib.hid hm
    have HN := Lib.hid hN
    have HO := Lib.hid hO
    have HQ := Lib.hid hq
    clear hm hN hO hq
    obtain ⟨cap1, hS1⟩ := HN.out.st
    have HS1 := Lib.hid hS1
    clear hS1
    by_cases hlt : j < 4
    · have hgj : decide ((j : Int) < 4) = true := by simp; omega
      have HQT := Lib.hid (quarter9_any f hf j hlt)
      go_wp2_with fail
      refine (HQT.out _).mono ?_
      rintro e w5 ⟨rfl, hb⟩
      have HS5 := Lib.hid (HS1.out.later hb)
      have HN5 := Lib.hid (HN.out.trans (Nx.of_below HS1.out hb))
      have HO5 := Lib.hid (HO.out.later hb)
      clear hb HS1 HN HO HQT
      unfold kV
      go_wp2_with fail
      have HMK := Lib.hid (make_sq HS5.out (n := 0) (by omega) (qK_fo HS5.out.wf f j))
      refine HMK.out.mono ?_
      rintro e w6 ⟨g6, M6, hnx, hres⟩
      obtain ⟨r, ev, rfl, hres2⟩ := two_out9 hres
      clear hres
      have HN6 := Lib.hid (HN5.out.trans hnx)
      have HO6 := Lib.hid (HO5.out.nx hnx)
      have HX6 : Hid (∃ E, M6 = M ++ E) := by
        obtain ⟨E, hE, _⟩ := hnx.ext
        exact ⟨E, hE⟩
      clear hnx HN5 HO5 HMK
      obtain ⟨t3, t4⟩ := k_cell HO6.out.at_ hlt
      have i3 : (0 : Int) ≤ (j : Int) := by omega
      have i4 : (j : Int) < 4 := by omega
      rcases hres2 with ⟨rfl, hsq, hkd, _⟩ | ⟨rfl, rfl, hfull⟩
      · have HR := Lib.hid (And.intro hsq hkd)
        clear hsq hkd
        go_wp2_with fail
        go_roundg (4 - (j + 1))
        case measure => rw [HM.out]; omega
        case rel =>
          refine ⟨j + 1, g6, M6, fun i => if i = j then r else q i, rfl, by omega, by go_num, (HN6.out.mono (by omega)).set HO6.out (Nat.le_refl _) _, ?_, fun i hi => ?_⟩
          · have := HO6.out.set hlt r
            rw [show (mk4 fun i => if i = j then r else kAt (mk4 q) i) = mk4 (fun i => if i = j then r else q i) from mk4_ext fun i hi => by show (if i = j then r else kAt (mk4 q) i) = _; rw [kAt_mk4 _ hi]] at this
            exact this
          · by_cases e : i = j
            · subst e
              simp only [if_true]
              exact ⟨HR.out.1, HR.out.2⟩
            · simp only [if_neg e]
              obtain ⟨F, rfl⟩ := HX6.out
              obtain ⟨h1, h2⟩ := HQ.out i (by omega)
              exact ⟨h1.app F, by rw [kid_app F h1.lt]; exact h2⟩
      · have HF := Lib.hid hfull
        clear hfull
        go_wp2_with fail
        go_ret2
        exact ⟨g6, M6, ((HN6.out.mono (by omega)).set HO6.out (Nat.le_refl _) _), Or.inr ⟨rfl, HF.out⟩⟩
    · obtain rfl : j = 4 := by omega
      have hgj : decide (((4 : Nat) : Int) < 4) = false := by simp
      obtain ⟨c0, c1, c2, c3⟩ := k_cells HO.out.at_
      have HFO : Hid (Fo M 1 (mk4 q)) := by
        refine fo_iff.2 fun i hi => ?_
        rw [kAt_mk4 _ hi]
        exact (HQ.out i hi).1
      have HMK := Lib.hid (make_sq HS1.out (n := 1) (by omega) HFO.out)
      go_wp2_with fail
      refine HMK.out.mono ?_
      rintro e w6 ⟨g6, M6, hnx, hres⟩
      obtain ⟨r, ev, rfl, hres2⟩ := two_out9 hres
      clear hres
      have HN6 := Lib.hid (HN.out.trans hnx)
      have HX6 : Hid (∃ E, M6 = M ++ E) := by
        obtain ⟨E, hE, _⟩ := hnx.ext
        exact ⟨E, hE⟩
      clear hnx HMK
      rcases hres2 with ⟨rfl, hsq, hkd, _⟩ | ⟨rfl, rfl, hfull⟩
      · have HR := Lib.hid (And.intro hsq hkd)
        clear hsq hkd
        go_wp2_with fail
        go_ret2
        refine ⟨g6, M6, HN6.out.mono (by omega), Or.inl ⟨r, rfl, HR.out.1, fun i hi => ?_⟩⟩
        obtain ⟨F, rfl⟩ := HX6.out
        obtain ⟨h1, h2⟩ := HQ.out i hi
        rw [HR.out.2, kAt_mk4 _ hi, kid_app F h1.lt]
        exact h2
      · have HF := Lib.hid hfull
        clear hfull
        go_wp2_with fail
        go_ret2
        exact ⟨g6, M6, HN6.out.mono (by omega), Or.inr ⟨rfl, HF.out⟩⟩
/-- Square: made; or full, and as it was. -/
theorem sqr_any {w : World} {sb g tb cap most : Nat} {N : List Nd} (h : St w sb g tb cap most N) (f : Nat) (hf : f < 65536) :
    Calls Try.prog 13 #[.pointer (some ⟨sb, 0, none⟩), .int .u16 (f : Int)] w fun e w' => ∃ g' N', Nx sb tb most w g N 5 w' g' N' ∧
      ((∃ r : Nat, e = .returned (.tuple #[.int .u32 (r : Int), .nilIface]) ∧ Fr N' r f) ∨ (e = .returned (.tuple #[.int .u32 0, .iface 58 (.int .i64 7)]) ∧ N' = N ∧ most ≤ N.length + 5)) := by
  have HS0 := Lib.hid h
  clear h
  go_enter Try.func13, Try.ntmps13
  go_wp2_with fail
  refine (mark_any HS0.out).mono ?_
  rintro e w5 ⟨rfl, rfl⟩
  go_wp2_with fail
  refine (square9_any HS0.out f hf).mono ?_
  rintro e w6 ⟨g6, M6, hnx, hres⟩
  obtain ⟨r, ev, rfl, hres2⟩ := two_out9 hres
  clear hres
  have HN6 := Lib.hid hnx
  clear hnx
  rcases hres2 with ⟨rfl, hsq⟩ | ⟨rfl, rfl, hfull⟩
  · have HR := Lib.hid hsq
    clear hsq
    go_wp2_with fail
    go_ret2
    exact ⟨g6, M6, HN6.out, Or.inl ⟨r, rfl, HR.out⟩⟩
  · obtain ⟨cap6, hS6⟩ := HN6.out.st
    obtain ⟨E, hE, hEl⟩ := HN6.out.ext
    have HBK := Lib.hid (back_yes hS6 N.length HS0.out.wf.two (by rw [hE]; simp))
    have hl : most ≤ N.length + 5 := by rw [hE, List.length_append] at hfull; omega
    rw [show M6.take N.length = N by rw [hE]; simp] at HBK
    clear hS6
    go_wp2_with fail
    refine HBK.out.mono ?_
    rintro e w7 ⟨rfl, hS, hF⟩
    have HZ := Lib.hid (And.intro hS hF)
    clear hS hF HBK
    go_wp2_with fail
    go_ret2
    refine ⟨g6, N, ⟨⟨_, HZ.out.1⟩, HN6.out.frm.trans HZ.out.2 (fun b hb => ?_), HN6.out.gin, [], by simp, by simp⟩, Or.inr ⟨rfl, rfl, hl⟩⟩
    simp only [List.mem_cons, List.not_mem_nil, or_false] at hb
    rcases hb with e | e | e
    · exact Or.inl (by simp [e])
    · rcases HN6.out.gin with e' | e'
      · exact Or.inl (by simp [e, e'])
      · exact Or.inr (by omega)
    · exact Or.inl (by simp [e])
end Go.Proofs.Ytgaakpdmkgigaaa
