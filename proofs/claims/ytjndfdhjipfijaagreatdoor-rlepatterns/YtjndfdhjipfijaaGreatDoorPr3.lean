/- Package rle: one run read; all the runs; Parse of a pattern's text: contracts. -/
import Derived.Test.YtjndfdhjipfijaaGreatDoorPr2
namespace Go.Proofs.YtjndfdhjipfijaaGreatDoor
open Go.RowKit

theorem do_any (rb : Nat) (S : ByteArray) (p W H m : Nat) (s s' : RSt) (c : UInt8) (w : World) (h : RdAt w rb S p s.x s.y W H s.cells) (hm : m ≤ 1024) (hW : W ≤ 1024) (hr : runTo W H s m c s') :
    Calls Tryz.prog 70 #[.pointer (some ⟨rb, 0, none⟩), .int .i64 (m : Int), .int .u8 (c.toNat : Int)] w fun e w' => e = .returned (.bool true) ∧ RdAt w' rb S p s'.x s'.y W H s'.cells ∧ Below rb w w' := by
  rcases hr with ⟨rfl, h1, rfl⟩ | ⟨rfl, h1, rfl⟩ | ⟨rfl, h1, h2, h3, rfl⟩
  · exact do_d rb S p s.x s.y W H m s.cells w h hm h1
  · exact do_b rb S p s.x s.y W H m s.cells w h hm hW h1
  · exact do_o rb S p s.x s.y W H m s.cells w h hm hW h1 h2 h3

set_option maxRecDepth 100000 in
set_option maxHeartbeats 2000000 in
theorem run_any (rb : Nat) (T : List UInt8) (p W H m : Nat) (s s' : RSt) (d : List UInt8) (c : UInt8) (r : List UInt8) (w : World) (h : RdAt w rb ⟨T.toArray⟩ p s.x s.y W H s.cells) (hT : T.length ≤ 1000000) (hp : p ≤ T.length) (ht : T.drop p = d ++ c :: r) (hd : (T.drop p).takeWhile isDig = d) (h4 : d.length ≤ 4) (h0 : d = [] → m = 1) (hv : d ≠ [] → valL d = m) (hz : ∀ c e, d = c :: e → c ≠ 48) (hm : m ≤ 1024) (hW : W ≤ 1024) (hr : runTo W H s m c s') :
    Calls Tryz.prog 48 #[.pointer (some ⟨rb, 0, none⟩)] w fun e w' => e = .returned .nilIface ∧ RdAt w' rb ⟨T.toArray⟩ (p + d.length + 1) s'.x s'.y W H s'.cells ∧ Below rb w w' := by
  have hall : d.all isDig = true := by rw [← hd]; exact List.all_takeWhile
  have hlen : p + d.length + 1 ≤ T.length := by
    have h := congrArg List.length ht
    rw [List.length_drop, List.length_append, List.length_cons] at h
    omega
  have hat : T[p + d.length]? = some c := by
    have h := congrArg (fun l => l[d.length]?) ht
    simp only [List.getElem?_drop] at h
    rw [h, List.getElem?_append_right (Nat.le_refl _), Nat.sub_self]; rfl
  have HD : Hid (∀ w, Calls Tryz.prog 67 #[.string ⟨(T.drop p).toArray⟩] w fun e w' => e = .returned (.string ⟨d.toArray⟩) ∧ Below w.heap.size w w') := fun w => by rw [← hd]; exact digits_any _ w (by rw [List.length_drop]; omega)
  have hcut := cut_from T p hp
  have hix := str_at hat
  have hTs := mk_size T
  have hds := mk_size d
  have HDO : Hid (∀ w, RdAt w rb ⟨T.toArray⟩ (p + d.length) s.x s.y W H s.cells → Calls Tryz.prog 70 #[.pointer (some ⟨rb, 0, none⟩), .int .i64 (m : Int), .int .u8 (c.toNat : Int)] w fun e w' => e = .returned (.bool true) ∧ RdAt w' rb ⟨T.toArray⟩ (p + d.length) s'.x s'.y W H s'.cells ∧ Below rb w w') := fun w h => do_any rb _ _ W H m s s' c w h hm hW hr
  have HSI : Hid (d ≠ [] → ∀ w, Calls Tryz.prog 68 #[.string ⟨d.toArray⟩] w fun e w' => e = .returned (.tuple #[.int .i64 (m : Int), .bool true]) ∧ Below w.heap.size w w') := fun he w => pside_any d m w he h4 hall (hv he) hm
  have HI0 : Hid (d ≠ [] → ∀ h : 0 < (⟨d.toArray⟩ : ByteArray).size, ((((⟨d.toArray⟩ : ByteArray)[0]'h).toNat : Int) == 48) = false) := fun he => by
    cases hdd : d with
    | nil => exact absurd hdd he
    | cons c0 e =>
      intro h
      have : (⟨(c0 :: e).toArray⟩ : ByteArray)[0]'h = c0 := rfl
      rw [this, show (48 : Int) = ((48 : UInt8).toNat : Int) from rfl, u8_is, decide_eq_false (hz c0 e hdd)]
  have hemp := str_empty d
  have HR := Lib.hid h
  have H0 := Lib.hid h0
  obtain ⟨c0, c1, _⟩ := h.cells
  clear h ht hd hv hz hr hat hall h0
  generalize (⟨(T.drop p).toArray⟩ : ByteArray) = S1 at *
  generalize (⟨d.toArray⟩ : ByteArray) = S2 at *
  generalize (⟨T.toArray⟩ : ByteArray) = S at *
  go_enter Tryz.func48, Tryz.ntmps48
  go_upto_region 2 with fail
  go_cut [4] from 6 to 15 (fun dv wx => dv = .string S2 ∧ RdAt wx rb S p s.x s.y W H s.cells ∧ Below rb w wx)
  case first =>
    go_region_with (first | (go_at_call 67; refine (HD.out _).mono ?_; rintro e w2 ⟨rfl, hb2⟩; have HQ := Lib.hid hb2; clear hb2))
    all_goals go_wp2_with fail
    all_goals go_meet
    all_goals exact ⟨rfl, RdAt.later (w := w.drew) HR.out HQ.out, (Below.drew (Below.refl _ _)).trans (HQ.out.mono (by have := HR.out.lt; show rb ≤ w.heap.size; omega))⟩
  case rest =>
  obtain ⟨rfl, h2, hb2⟩ := hcut
  have HR2 := Lib.hid h2
  have HB2 := Lib.hid hb2
  clear h2 hb2 c0 c1
  go_upto_if 17 with fail
  go_cut [3, 5] from 16 to 43 (fun nv ov wx => nv = .int .i64 (m : Int) ∧ RdAt wx rb S (p + d.length) s.x s.y W H s.cells ∧ Below rb w wx)
  case first =>
    by_cases hde : d = []
    · rw [decide_eq_true hde, Bool.not_true]
      have hm1 := H0.out hde
      have HL : Hid (d.length = 0) := by show _ = _; rw [hde]; rfl
      subst hm1
      clear hde
      go_wp2_with fail
      go_meet
      exact ⟨rfl, by rw [HL.out]; exact HR2.out, HB2.out⟩
    · rw [decide_eq_false hde, Bool.not_false]
      have hz0 := HI0.out hde
      have hpos : 0 < d.length := List.length_pos_iff.2 hde
      have HS1 := Lib.hid (HSI.out hde)
      clear hde
      go_wp2_with fail
      refine (HS1.out _).mono ?_
      rintro e w3 ⟨rfl, hb3⟩
      have HR3 := Lib.hid (HR2.out.later hb3)
      have HB3 := Lib.hid (HB2.out.trans (hb3.mono (by have := HR2.out.lt; omega)))
      clear hb3
      obtain ⟨c0, c1, _⟩ := HR3.out.cells
      have f1 := HR3.out.frozen 1
      have hw : IntKind.i64.wrap ((p : Int) + (d.length : Int)) = ((p + d.length : Nat) : Int) := by rw [IntWalk.i64_in _ (by omega)]; omega
      go_wp2_with fail
      go_meet
      have h5 := HR3.out.setP (p + d.length)
      rw [Int.natCast_add] at h5
      exact ⟨rfl, h5, HB3.out.setCell (p := ⟨rb, 1, none⟩) (Nat.le_refl _) _⟩
  case rest =>
  obtain ⟨rfl, h3, hb3⟩ := hcut
  clear HR2 HB2
  have HR3 := Lib.hid h3
  have HB3 := Lib.hid hb3
  clear h3 hb3
  obtain ⟨c0, c1, _⟩ := HR3.out.cells
  have hne : (((p + d.length : Nat) : Int) == (T.length : Int)) = false := by rw [beq_eq_false_iff_ne]; omega
  have hwn : IntKind.i64.wrap (((p + d.length : Nat) : Int) + 1) = ((p + d.length + 1 : Nat) : Int) := by rw [IntWalk.i64_in _ (by omega)]; omega
  generalize hq : p + d.length = q at *
  have HQ5 := Lib.hid hq
  clear hq
  go_wp2_with fail
  go_quiet (fail)
  go_upto_region 11 with fail
  go_cut [71] from 59 to 70 (fun bv wx => bv = .bool false ∧ RdAt wx rb S q s'.x s'.y W H s'.cells ∧ Below rb w wx)
  case first =>
    go_region_with (first | (go_at_call 70; refine (HDO.out _ ?_).mono ?_; (exact HR3.out); rintro e w4 ⟨rfl, h4, hb4⟩; have HR4 := Lib.hid h4; have HB4 := Lib.hid hb4; clear h4 hb4))
    all_goals go_wp2_with fail
    all_goals go_meet
    all_goals exact ⟨rfl, HR4.out, (below_drewN HB3.out _).drew.trans HB4.out⟩
  case rest =>
  obtain ⟨rfl, h5, hb5⟩ := hcut
  have HR5 := Lib.hid h5
  have HB5 := Lib.hid hb5
  clear h5 hb5 c0 c1
  obtain ⟨c0, c1, _⟩ := HR5.out.cells
  have f1 := HR5.out.frozen 1
  go_wp2_with fail
  go_ret
  refine ⟨rfl, ?_, HB5.out.setCell (p := ⟨rb, 1, none⟩) (Nat.le_refl _) _⟩
  have h6 := HR5.out.setP (q + 1)
  rw [Int.natCast_add] at h6
  rw [HQ5.out]
  exact h6

/-! rest, runs -/
theorem drop_all {p : UInt8 → Bool} : ∀ (l : List UInt8), (∀ x ∈ l, p x = true) → l.dropWhile p = []
  | [], _ => rfl
  | c :: r, h => by rw [List.dropWhile_cons, if_pos (h c (by simp)), drop_all r (fun x hx => h x (by simp [hx]))]
theorem trim_all : ∀ (r : List UInt8), r.all blank = true → Lib.trimS r [32, 10] = [] := by
  intro r h
  have hc : ∀ b : UInt8, b ∈ r → ([32, 10] : List UInt8).contains b = true := fun b hb => by
    have := List.all_eq_true.1 h b hb
    unfold blank at this
    simp only [Bool.or_eq_true, beq_iff_eq] at this
    rcases this with rfl | rfl <;> rfl
  have h1 : Lib.trimRightS r [32, 10] = [] := by
    unfold Lib.trimRightS
    rw [List.reverse_eq_nil_iff]
    exact drop_all _ (fun x hx => hc x (List.mem_reverse.1 hx))
  unfold Lib.trimS
  rw [h1]; rfl
set_option maxRecDepth 100000 in
theorem Tryz.asciiInfo2 : (Tryz.prog.info? (Tryz.lays160_ren.t 116)).map (fun i => (i.zero, i.size)) = some (some (.agg (Array.replicate 256 (.bool false))), 256) := by kernel_rfl
set_option maxRecDepth 100000 in
set_option maxHeartbeats 1000000 in
theorem rest_any (rb : Nat) (T : List UInt8) (p x y W H : Nat) (cs : List (Nat × Nat)) (w : World) (h : RdAt w rb ⟨T.toArray⟩ p x y W H cs) (hT : T.length ≤ 1000000) (hp : p + 1 ≤ T.length) (hr : (T.drop (p + 1)).all blank = true) :
    Calls Tryz.prog 47 #[.pointer (some ⟨rb, 0, none⟩)] w fun e w' => e = .returned .nilIface ∧ RdAt w' rb ⟨T.toArray⟩ p x y W H cs ∧ Below rb w w' := by
  have hcut := cut_from T (p + 1) hp
  have HTR : Hid (∀ w, Calls Tryz.prog 69 #[.string ⟨(T.drop (p + 1)).toArray⟩, .string ⟨#[32, 10]⟩] w fun e w' => e = .returned (.string ⟨#[]⟩) ∧ Below w.heap.size w w') := fun w => by
    refine (Any.strings_Trim_laid Tryz.lays160 Tryz.asciiInfo2 ⟨(T.drop (p + 1)).toArray⟩ ⟨[32, 10].toArray⟩ w (by rw [mk_size, List.length_drop]; omega) (by decide) (ascii_of_all (by decide))).mono ?_
    rintro e w' ⟨rfl, hb⟩
    refine ⟨?_, hb⟩
    have : Lib.trimS (T.drop (p + 1)) [32, 10] = [] := trim_all _ hr
    exact str_eq this
  obtain ⟨c0, c1, _⟩ := h.cells
  have HR := Lib.hid h
  have hw : IntKind.i64.wrap ((p : Int) + 1) = ((p + 1 : Nat) : Int) := by rw [IntWalk.i64_in _ (by omega)]; omega
  clear h hr
  generalize (⟨(T.drop (p + 1)).toArray⟩ : ByteArray) = S1 at *
  generalize (⟨T.toArray⟩ : ByteArray) = S at *
  generalize p + 1 = q at *
  go_enter Tryz.func47, Tryz.ntmps47
  go_wp2_with fail
  refine (HTR.out _).mono ?_
  rintro e w1 ⟨rfl, hb⟩
  have HB := Lib.hid hb
  clear hb
  go_wp2_with fail
  go_ret
  exact ⟨rfl, HR.out.later HB.out, HB.out.mono (by have := HR.out.lt; omega)⟩

set_option maxRecDepth 100000 in
set_option maxHeartbeats 2000000 in
theorem runs_any (rb : Nat) (T : List UInt8) (p W H k : Nat) (L : List (Nat × Nat)) (w : World) (h : RdAt w rb ⟨T.toArray⟩ p 0 0 W H []) (hT : T.length ≤ 1000000) (hp : p ≤ T.length) (hW : W ≤ 1024) (hr : runsP W H (T.drop p) p ⟨0, 0, 0, []⟩ = (L, 0, k)) :
    Calls Tryz.prog 31 #[.pointer (some ⟨rb, 0, none⟩)] w fun e w' => e = .returned .nilIface ∧ (∃ q x y, RdAt w' rb ⟨T.toArray⟩ q x y W H L) ∧ Below rb w w' := by
  have HRN : Hid (∀ (q : Nat) (s : RSt), q ≤ T.length → s.n = 0 → runsP W H (T.drop q) q s = (L, 0, k) → (∀ r, T.drop q ≠ 32 :: r ∧ T.drop q ≠ 10 :: r ∧ T.drop q ≠ 33 :: r) → ∃ (q' : Nat) (s' : RSt), q < q' ∧ q' ≤ T.length ∧ s'.n = 0 ∧ runsP W H (T.drop q') q' s' = (L, 0, k) ∧
      ∀ w, RdAt w rb ⟨T.toArray⟩ q s.x s.y W H s.cells → Calls Tryz.prog 48 #[.pointer (some ⟨rb, 0, none⟩)] w fun e w' => e = .returned .nilIface ∧ RdAt w' rb ⟨T.toArray⟩ q' s'.x s'.y W H s'.cells ∧ Below rb w w') := by
    intro q s hq hs hrr hb
    obtain ⟨d, c', r', m, s', h1, h2, h3, h4, h5, h6, h7, h8, h9, h10, h11⟩ := run_split W H L k q (T.drop q) s hs hrr hb
    have hlen : q + d.length + 1 ≤ T.length := by
      have h := congrArg List.length h2
      rw [List.length_drop, List.length_append, List.length_cons] at h
      omega
    refine ⟨q + d.length + 1, s', by omega, hlen, h10, ?_, fun w hw => run_any rb T q W H m s s' d c' r' w hw hT hq h2 h1 h3 h4 h5 h6 h8 hW h9⟩
    have : T.drop (q + d.length + 1) = r' := by
      rw [show q + d.length + 1 = q + (d.length + 1) by omega, ← List.drop_drop, h2, List.drop_append, List.drop_eq_nil_of_le (by omega), List.nil_append, show d.length + 1 - d.length = 1 by omega]
      rfl
    rw [this]; exact h11
  have HRS : Hid (∀ w q x y cs, RdAt w rb ⟨T.toArray⟩ q x y W H cs → q + 1 ≤ T.length → (T.drop (q + 1)).all blank = true → Calls Tryz.prog 47 #[.pointer (some ⟨rb, 0, none⟩)] w fun e w' => e = .returned .nilIface ∧ RdAt w' rb ⟨T.toArray⟩ q x y W H cs ∧ Below rb w w') := fun w q x y cs h hq hr => rest_any rb T q x y W H cs w h hT hq hr
  have HX := Lib.hid (fun (j : Nat) (c : UInt8) (h : T[j]? = some c) => str_at h)
  have hTs := mk_size T
  have HR := Lib.hid h
  have HRR := Lib.hid hr
  clear h hr
  generalize (⟨T.toArray⟩ : ByteArray) = S at *
  go_enter Tryz.func31, Tryz.ntmps31
  go_wp2_with fail
  go_loopg [3] (T.length - p) (fun kk v wr => ∃ (q : Nat) (s : RSt), kk = T.length - q ∧ q ≤ T.length ∧ s.n = 0 ∧ runsP W H (T.drop q) q s = (L, 0, k) ∧ RdAt wr rb S q s.x s.y W H s.cells ∧ Below rb w wr)
  case atStart => exact ⟨p, ⟨0, 0, 0, []⟩, rfl, hp, rfl, HRR.out, HR.out, Below.refl _ _⟩
  case round =>
    obtain ⟨q, s, hk, hq, hs, hrun, hrd, hb⟩ := hrel
    have HK := Lib.hid hk
    have HS := Lib.hid hs
    have HRUN := Lib.hid hrun
    have HRD := Lib.hid hrd
    have HB := Lib.hid hb
    clear hk hs hrun hrd hb HR HRR
    have hlt : q < T.length := by
      rcases Nat.lt_or_ge q T.length with h | h
      · exact h
      · have := HRUN.out
        rw [List.drop_eq_nil_of_le h] at this
        simp [runsP] at this
    obtain ⟨c, hc⟩ : ∃ c, T[q]? = some c := ⟨T[q], List.getElem?_eq_getElem hlt⟩
    have hx := HX.out q c hc
    have HDR : Hid (T.drop q = c :: T.drop (q + 1)) := by
      show _ = _
      obtain ⟨hj, he⟩ := List.getElem?_eq_some_iff.1 hc
      rw [List.drop_eq_getElem_cons hj, he]
    have h32 : ((c.toNat : Int) == 32) = decide (c = 32) := u8_is c 32
    have h10 : ((c.toNat : Int) == 10) = decide (c = 10) := u8_is c 10
    have h33 : ((c.toNat : Int) == 33) = decide (c = 33) := u8_is c 33
    have hg : decide ((q : Int) < (T.length : Int)) = true := by simp; omega
    obtain ⟨c0, c1, _⟩ := HRD.out.cells
    have f1 := HRD.out.frozen 1
    clear hc
    have hi0 : (q : Int) < (T.length : Int) := by omega
    have hwq : IntKind.i64.wrap ((q : Int) + 1) = (q : Int) + 1 := IntWalk.i64_in _ (by omega)
    by_cases hbl : c = 32 ∨ c = 10
    · have HN : Hid (runsP W H (T.drop (q + 1)) (q + 1) s = (L, 0, k)) := by
        have h1 := HRUN.out
        have hc33 : c ≠ 33 := by rcases hbl with rfl | rfl <;> decide
        rw [HDR.out] at h1
        simp only [runsP] at h1
        rw [if_neg (fun e => hc33 e.1)] at h1
        have hst : rstep W H s c = some s := by unfold rstep; rw [if_pos hbl, if_neg (by have := HS.out; omega)]
        rw [hst] at h1
        exact h1
      have HRD2 : Hid (RdAt (wr.setCell ⟨rb, 1, none⟩ (.int .i64 ((q : Int) + 1))) rb S (q + 1) s.x s.y W H s.cells) := by
        have := HRD.out.setP (q + 1)
        rw [Int.natCast_add] at this
        exact this
      have HB2 : Hid (Below rb w (wr.setCell ⟨rb, 1, none⟩ (.int .i64 ((q : Int) + 1)))) := HB.out.setCell (p := ⟨rb, 1, none⟩) (Nat.le_refl _) _
      by_cases hc1 : c = 32
      · rw [decide_eq_true hc1] at h32
        clear hbl hc1
        go_wp2_with fail
        go_quiet (fail)
        go_wp2_with fail
        go_quiet (fail)
        go_wp2_with fail
        go_roundg (T.length - (q + 1))
        case measure => rw [HK.out]; omega
        case rel => exact ⟨q + 1, s, rfl, hlt, HS.out, HN.out, HRD2.out, ⟨HB2.out.os, HB2.out.tape, HB2.out.output, HB2.out.size, HB2.out.block⟩⟩
      · have hc2 : c = 10 := by rcases hbl with h | h; exact absurd h hc1; exact h
        rw [decide_eq_false hc1] at h32
        rw [decide_eq_true hc2] at h10
        clear hbl hc1 hc2
        go_wp2_with fail
        go_quiet (fail)
        go_wp2_with fail
        go_quiet (fail)
        go_wp2_with fail
        go_roundg (T.length - (q + 1))
        case measure => rw [HK.out]; omega
        case rel => exact ⟨q + 1, s, rfl, hlt, HS.out, HN.out, HRD2.out, ⟨HB2.out.os, HB2.out.tape, HB2.out.output, HB2.out.size, HB2.out.block⟩⟩
    · rw [decide_eq_false (fun e => hbl (Or.inl e))] at h32
      rw [decide_eq_false (fun e => hbl (Or.inr e))] at h10
      by_cases hc3 : c = 33
      · have HN : Hid ((T.drop (q + 1)).all blank = true ∧ s.cells = L) := by
          have h1 := HRUN.out
          rw [HDR.out] at h1
          simp only [runsP] at h1
          rw [if_pos ⟨hc3, HS.out⟩] at h1
          by_cases hall : (T.drop (q + 1)).all blank = true
          · rw [if_pos hall] at h1
            simp only [Prod.mk.injEq] at h1
            exact ⟨hall, h1.1⟩
          · rw [if_neg hall] at h1; simp at h1
        rw [decide_eq_true hc3] at h33
        clear hbl hc3
        go_wp2_with fail
        go_quiet (fail)
        go_wp2_with fail
        go_quiet (fail)
        go_wp2_with fail
        refine (HRS.out _ q s.x s.y s.cells ?_ hlt HN.out.1).mono ?_
        · exact HRD.out
        rintro e w2 ⟨rfl, h2, hb2⟩
        have HR2 := Lib.hid h2
        have HB2 := Lib.hid hb2
        clear h2 hb2
        go_wp2_with fail
        go_ret
        refine ⟨rfl, ⟨q, s.x, s.y, ?_⟩, ?_⟩
        · rw [← HN.out.2]; exact HR2.out
        · exact (below_drewN HB.out _).trans HB2.out
      · obtain ⟨q', s', g1, g2, g3, g4, g5⟩ := HRN.out q s hq HS.out HRUN.out (fun r => by
          rw [HDR.out]
          exact ⟨fun e => hbl (Or.inl (List.cons.inj e).1), fun e => hbl (Or.inr (List.cons.inj e).1), fun e => hc3 (List.cons.inj e).1⟩)
        rw [decide_eq_false hc3] at h33
        have G3 := Lib.hid g3
        have G4 := Lib.hid g4
        have G5 := Lib.hid g5
        clear hbl hc3 g3 g4 g5
        go_wp2_with fail
        go_quiet (fail)
        go_wp2_with fail
        go_quiet (fail)
        go_wp2_with fail
        refine (G5.out _ ?_).mono ?_
        · exact HRD.out
        rintro e w2 ⟨rfl, h2, hb2⟩
        have HR2 := Lib.hid h2
        have HB2 := Lib.hid hb2
        clear h2 hb2
        go_wp2_with fail
        go_roundg (T.length - q')
        case measure => rw [HK.out]; omega
        case rel => exact ⟨q', s', rfl, g2, G3.out, G4.out, HR2.out, (below_drewN HB.out _).trans HB2.out⟩
end Go.Proofs.YtjndfdhjipfijaaGreatDoor
