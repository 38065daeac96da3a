/- The law CollectPlanes: its walk. -/
import Derived.Test.YtgciceogggldhaaMd13
import Derived.Test.YtgciceogggldhaaLn13
import Derived.Test.YtgciceogggldhaaCN13
namespace Go.Proofs.Ytgciceogggldhaa
open Go.RowKit Go.Maps
set_option maxRecDepth 100000

theorem and_one13 (n : Int) (h0 : 0 ≤ n) (h1 : n ≤ 18446744073709551615) : Go.bits .and .u64 n 1 = n % 2 := by
  rw [u64_and n 1 h0 (by omega) (by decide) (by decide)]
  rw [show (1 : Int).toNat = 1 from rfl, Nat.and_one_is_mod]
  omega
/-- Is the root at this place kept? -/
def kp13 (K j : Nat) : Bool := decide (K / 2 ^ j % 2 = 1)
theorem kp_and (K j : Nat) (hK : K < 18446744073709551616) : Go.bits .and .u64 ((K : Int) / 2 ^ j) 1 = if kp13 K j then 1 else 0 := by
  have e : ((K : Int) / 2 ^ j) = ((K / 2 ^ j : Nat) : Int) := by push_cast; rfl
  have hle : K / 2 ^ j ≤ K := Nat.div_le_self _ _
  rw [e]
  unfold kp13
  generalize K / 2 ^ j = d at *
  rw [and_one13 _ (by omega) (by omega)]
  by_cases h : d % 2 = 1
  · rw [if_pos (by simpa using h)]; omega
  · rw [if_neg (by simpa using h)]; omega
theorem Pt13.up {w : World} {B B' : Nat} {a : Option Addr} {cs : List (Int × Int)} (h : Pt13 w B a cs) (hB : B ≤ B') : Pt13 w B' a cs := fun j c hc => by
  obtain ⟨bk, off, h1, h2, h3⟩ := h j c hc
  exact ⟨bk, off, h1, Nat.lt_of_lt_of_le h2 hB, h3⟩
theorem IdRow.lrow {w : World} {B : Nat} {v : Value} {xs : List Nat} (h : IdRow w B v xs) (hu : ∀ x ∈ xs, x < 4294967296) : ∃ a cap, v = .slice a xs.length cap ∧ LRow w a xs := by
  rcases Nat.eq_zero_or_pos xs.length with h0 | h0
  · obtain rfl := List.eq_nil_of_length_eq_zero h0
    rcases h.2 with ⟨hv, _⟩ | ⟨g', cp, cur, hv, _⟩
    · exact ⟨none, 0, hv, LRow.nil _ _⟩
    · exact ⟨_, cp, hv, LRow.nil _ _⟩
  · obtain ⟨b, cap, rfl⟩ := h.slice h0
    refine ⟨_, cap, rfl, fun j x hj => ⟨hu x (List.mem_of_getElem? hj), b, 0, rfl, (h.blk rfl).2.1, ?_⟩⟩
    rw [Nat.zero_add]
    exact (h.at rfl hj).1
theorem len_to {w : World} {sb g tb cap most : Nat} {N : List Nd} (h : St w sb g tb cap most N) {n : Nat} (hn : N.length = n) : Calls Try.prog 8 #[.pointer (some ⟨sb, 0, none⟩)] w fun e w' => e = .returned (.int .i64 (n : Int)) ∧ w = w' := by
  subst hn
  exact len_any h
theorem room_to {w : World} {sb g tb cap most : Nat} {N : List Nd} (h : St w sb g tb cap most N) {r : Nat} (hr : r + N.length = most) : Calls Try.prog 9 #[.pointer (some ⟨sb, 0, none⟩)] w fun e w' => e = .returned (.int .i64 (r : Int)) ∧ Below w.heap.size w w' := by
  refine (room_any h).mono ?_
  rintro e w' ⟨rfl, q, rfl⟩
  exact ⟨by rw [show ((most : Int) - (N.length : Int)) = (r : Int) by omega], below_drewN (Below.refl _ _) q⟩
theorem lv_to {w : World} {sb g tb cap most : Nat} {N : List Nd} (h : St w sb g tb cap most N) (x : Nat) (hx : x < 4294967296) {v : Int} (hv : lvZ N x = v) : Calls Try.prog 13 #[.pointer (some ⟨sb, 0, none⟩), .int .u32 (x : Int)] w fun e w' => e = .returned (.int .i64 v) ∧ w = w' := by
  subst hv
  exact level_any h x hx
theorem ct_to {w : World} {sb g tb cap most : Nat} {N : List Nd} (h : St w sb g tb cap most N) (x : Nat) (hx : x < 4294967296) {v : Nat} (hv : ctZ N x = v) : Calls Try.prog 14 #[.pointer (some ⟨sb, 0, none⟩), .int .u32 (x : Int)] w fun e w' => e = .returned (.int .u64 (v : Int)) ∧ w = w' := by
  subst hv
  exact count_any h x hx
/-- All that is there behind Collect and Reach. -/
structure Cp13 (W : World) (sb g tb scap : Nat) (N : List Nd) (fb fg ftb fcap : Nat) (F : List Bool) (tc qb ib gP cP B : Nat) (P : List (Nat × Nat)) : Prop where
  so : St W sb g tb scap 65536 N
  sn : St W fb fg ftb fcap 65536 (cmpN N F)
  no : ∃ mb, W.cell? ⟨tc, 0, none⟩ = some (.map (some mb)) ∧ GMap mkI W mb (nowA F) ∧ tc < W.heap.size
  re : GMap mkQ W qb (inQ (ndL F N.length))
  ba : BAt W ib F
  row : W.ownsRow B 36 2 (.slice (some ⟨gP, 0, none⟩) P.length cP) P.length (plR sb P)
theorem Cp13.later {W W' : World} {sb g tb scap : Nat} {N : List Nd} {fb fg ftb fcap : Nat} {F : List Bool} {tc qb ib gP cP B : Nat} {P : List (Nat × Nat)} (h : Cp13 W sb g tb scap N fb fg ftb fcap F tc qb ib gP cP B P) (hb : Below W.heap.size W W') : Cp13 W' sb g tb scap N fb fg ftb fcap F tc qb ib gP cP B P := by
  obtain ⟨mb, h1, h2, h3⟩ := h.no
  exact ⟨h.so.later hb, h.sn.later hb, ⟨mb, by rw [hb.cell (p := ⟨tc, 0, none⟩) h3]; exact h1, h2.later hb, Nat.lt_of_lt_of_le h3 hb.size⟩, h.re.later hb, h.ba.later hb, own_blk h.row (hb.block _ (own_lt h.row).2)⟩
theorem Cp13.now {W : World} {sb g tb scap : Nat} {N : List Nd} {fb fg ftb fcap : Nat} {F : List Bool} {tc qb ib gP cP B : Nat} {P : List (Nat × Nat)} (h : Cp13 W sb g tb scap N fb fg ftb fcap F tc qb ib gP cP B P) (x : Nat) (hx : x < 4294967296) {b : Bool} {y : Nat} (hb : nd13 F x = b) (hy : (if b then rk13 F x else 0) = y) :
    Calls Try.prog 23 #[.int .u32 (x : Int), .pointer (some ⟨tc, 0, none⟩)] W fun e w' => e = .returned (.tuple #[.int .u32 (y : Int), .bool b]) ∧ W = w' := by
  obtain ⟨mb, h1, h2, _⟩ := h.no
  have := now_any h1 h2 x hx
  unfold nowA at this
  rw [hb] at this
  cases b with
  | true =>
    simp only [if_true, Option.getD_some, Option.isSome_some] at this hy
    subst hy
    exact this
  | false =>
    simp only [Bool.false_eq_true, if_false, Option.getD_none, Option.isSome_none] at this hy
    subst hy
    exact this
set_option maxHeartbeats 16000000 in
theorem cplanes_any {w : World} {a a2 : Option Addr} {cap cap2 : Nat} (cs : List (Int × Int)) (os : List Nat) (K : Nat) (hK : K < 18446744073709551616) (hp : Pt13 w w.heap.size a cs) (ho : LRow w a2 os) :
    Calls Try.prog 3 #[.slice a cs.length cap, .int .u64 (K : Int), .slice a2 os.length cap2] w fun e w' => e = .returned (.bool true) ∧ Below w.heap.size w w' := by
  have HP := Lib.hid hp
  have HO := Lib.hid ho
  have HKK := Lib.hid hK
  clear hp ho hK
  go_enter Try.func3, Try.ntmps3
  go_wp2_with fail
  refine (lives13_any w).mono ?_
  rintro e W1 ⟨rfl, hb⟩
  have HB1 := Lib.hid hb
  clear hb
  by_cases h40 : cs.length ≤ 40
  · have hg40 : decide ((40 : Int) < (cs.length : Int)) = false := by simp; omega
    by_cases h10 : os.length ≤ 10
    · have hg10 : decide ((10 : Int) < (os.length : Int)) = false := by simp; omega
      go_wp2_with fail
      go_loopg [8, 54] cs.length (fun mm v8 cnt wr => ∃ j : Nat, mm = cs.length - j ∧ j ≤ cs.length ∧ cnt = .int .i64 (j : Int) ∧ (∀ i c, i < j → cs[i]? = some c → (onP c.1 && onP c.2) = true) ∧ Below w.heap.size w wr)
      case atStart => exact ⟨0, rfl, Nat.zero_le _, rfl, fun i c hi => by omega, HB1.out⟩
      case round =>
        clear HB1
        obtain ⟨j, hm, hj, rfl, hon, hW⟩ := hrel
        have HMM := Lib.hid hm
        have HON := Lib.hid hon
        have HW := Lib.hid hW
        clear hm hon hW
        by_cases hlt : j < cs.length
        · have hgj : decide ((j : Int) < (cs.length : Int)) = true := by simp; omega
          obtain ⟨c, hc⟩ : ∃ c, cs[j]? = some c := ⟨cs[j], List.getElem?_eq_getElem hlt⟩
          obtain ⟨bk, off, ha, hbk, c0, c1⟩ := (HP.out.later HW.out) j c hc
          subst ha
          have HC := Lib.hid hc
          have i1 : (0 : Int) ≤ (j : Int) := by omega
          have i2 : (j : Int) < (cs.length : Int) := by omega
          have HBA := Lib.hid (HW.out.trans ((bel1 wr (.cells #[.int .i64 c.1, .int .i64 c.2] 27)).mono HW.out.size))
          have w5 : IntKind.i64.wrap ((j : Int) + 1) = ((j + 1 : Nat) : Int) := by rw [IntWalk.i64_in _ (by omega)]; omega
          clear hc
          go_wp2_with fail
          generalize wr.alloc (.cells #[.int .i64 c.1, .int .i64 c.2] 27) = WA at *
          refine (pright_any c.1 c.2 _).mono ?_
          rintro e W2 ⟨rfl, hb⟩
          have HB2 := Lib.hid (HBA.out.trans (hb.mono HBA.out.size))
          clear hb
          cases hoc : (onP c.1 && onP c.2) with
          | true =>
            have HOC := Lib.hid hoc
            clear hoc
            go_wp2_with fail
            go_roundg (cs.length - (j + 1))
            case measure => rw [HMM.out]; omega
            case rel =>
              refine ⟨j + 1, rfl, hlt, by go_num, fun i d hi hd => ?_, HB2.out⟩
              by_cases e : i = j
              · subst e
                obtain rfl : c = d := by have := HC.out; rw [hd] at this; exact (Option.some.inj this).symm
                exact HOC.out
              · exact HON.out i d (by omega) hd
          | false =>
            clear hoc
            go_wp2_with fail
            go_ret
            exact ⟨rfl, HB2.out⟩
        · obtain rfl : cs.length = j := by omega
          have hgj : decide ((cs.length : Int) < (cs.length : Int)) = false := by simp
          have HONA : Hid (∀ c ∈ cs, (onP c.1 && onP c.2) = true) := fun c hc => by
            obtain ⟨i, hi⟩ := List.getElem?_of_mem hc
            exact HON.out i c (List.getElem?_eq_some_iff.1 hi).1 hi
          have HW1 := Lib.hid HW.out
          clear HON HMM HW
          go_wp2_with fail
          clear hgj
          generalize wr = WB at *
          refine (made13_any (w := WB) cs ((HP.out.later HW1.out).up HW1.out.size) h40 HONA.out).mono ?_
          rintro e W9 ⟨sb, g, tb, scap, N, gP, cP, P, rfl, hst, hown, hall, hpl, hb, hlo, hgp⟩
          have HS9 := Lib.hid hst
          have HR9 := Lib.hid hown
          have HPZ := Lib.hid hall
          have HPL := Lib.hid hpl
          have HB9 := Lib.hid (HW1.out.trans (hb.mono HW1.out.size))
          clear hst hown hall hpl hb hlo hgp HW1 HONA
          go_wp2_with fail
          go_loopg [12, 13, 14, 72] P.length (fun mm v12 v13 v14 cnt wr => ∃ (j : Nat) (R : List Nat), mm = P.length - j ∧ j ≤ P.length ∧ cnt = .int .i64 (j : Int) ∧ IdRow wr W9.heap.size v12 R ∧ R.length ≤ j ∧ (∀ x ∈ R, x < 4294967296) ∧ (∀ i z, i < j → P[i]? = some z → kp13 K i = true → z.2 ∈ R) ∧ Below W9.heap.size W9 wr)
          case atStart =>
            exact ⟨0, [], rfl, Nat.zero_le _, rfl, IdRow.nil _ _, Nat.le_refl _, by simp, fun i z hi => by omega, Below.refl _ _⟩
          case round =>
            obtain ⟨j, R, hm, hj, rfl, hR, hRl, hRu, hRk, hW⟩ := hrel
            have HMM := Lib.hid hm
            have HR := Lib.hid hR
            have HRL := Lib.hid hRl
            have HRU := Lib.hid hRu
            have HRK := Lib.hid hRk
            have HW := Lib.hid hW
            clear hm hR hRl hRu hRk hW
            by_cases hlt : j < P.length
            · have hgj : decide ((j : Int) < (P.length : Int)) = true := by simp; omega
              obtain ⟨z, hz⟩ : ∃ z, P[j]? = some z := ⟨P[j], List.getElem?_eq_getElem hlt⟩
              have HZ := Lib.hid hz
              obtain ⟨e1, e2⟩ := plR_at sb P j
              rw [hz] at e1 e2
              have p0 : wr.cell? ⟨gP, j * 2, none⟩ = some (.pointer (some ⟨sb, 0, none⟩)) := by
                rw [HW.out.cell (p := ⟨gP, j * 2, none⟩) (own_lt HR9.out).2, HR9.out.cellAt (j * 2) (by omega)]; exact e1
              have p1 : wr.cell? ⟨gP, j * 2 + 1, none⟩ = some (.int .u32 (z.2 : Int)) := by
                rw [HW.out.cell (p := ⟨gP, j * 2 + 1, none⟩) (own_lt HR9.out).2, HR9.out.cellAt (j * 2 + 1) (by omega)]; exact e2
              have i1 : (0 : Int) ≤ (j : Int) := by omega
              have i2 : (j : Int) < (P.length : Int) := by omega
              have hr : Int.tmod (j : Int) 64 = (j : Int) := by
                rw [Int.tmod_eq_emod_of_nonneg i1]; have := HPL.out; omega
              have hj41 : j ≤ 40 := by have := HPL.out; omega
              have hr2 : (j : Int) % 64 = (j : Int) := by omega
              have hka := kp_and K j HKK.out
              clear e1 e2 hz
              have w5 : IntKind.i64.wrap ((j : Int) + 1) = ((j + 1 : Nat) : Int) := by rw [IntWalk.i64_in _ (by have := HPL.out; omega)]; omega
              have hbA := bel1 wr (.cells #[.pointer (some ⟨sb, 0, none⟩), .int .u32 (z.2 : Int)] 36)
              have HWA := Lib.hid (HW.out.trans (hbA.mono HW.out.size))
              have HRA := Lib.hid (HR.out.later hbA)
              have HPO : Hid ((wr.alloc (.cells #[.pointer (some ⟨sb, 0, none⟩), .int .u32 (z.2 : Int)] 36)).heap[wr.heap.size]? = some (plO sb z.2)) := heap_alloc_new wr _
              have HZU : Hid (z.2 < 4294967296) := Sq.u32 HS9.out (HPZ.out z (List.mem_of_getElem? HZ.out)).sq
              clear hbA
              go_upto_region 16 with fail
              generalize wr.alloc (.cells #[.pointer (some ⟨sb, 0, none⟩), .int .u32 (z.2 : Int)] 36) = WA at *
              generalize wr.heap.size = pa at *
              clear p0 p1 HR HW
              obtain ⟨p0, p1⟩ := pl_cells HPO.out
              clear HPO
              cases hk : kp13 K j with
              | true =>
                rw [hk, if_pos rfl] at hka
                have HK1 := Lib.hid hk
                clear hk
                obtain ⟨ti, hi, hz0, hz1, hz2⟩ := infoId
                have HI := Lib.hid hi
                have HZ0 := Lib.hid hz0
                have HZ1 := Lib.hid hz1
                have HZ2 := Lib.hid hz2
                clear hi hz0 hz1 hz2
                have hbB := bel1 WA (.cells #[.int .u32 (z.2 : Int)] 34)
                have HI1 := Lib.hid (HRA.out.later hbB)
                have HW1 := Lib.hid (HWA.out.trans (hbB.mono HWA.out.size))
                have HPL2 : Hid (P.length ≤ 41) := by have := HPL.out; unfold Hid; omega
                clear hbB HWA HRA
                go_wp2_with (at_builtin; refine wpList_append_lies _ rfl _ _ 32 rfl W9.heap.size 34 ti (.int .u32 0) 1 4 Try.underlying32 HI.out HZ0.out HZ1.out HZ2.out rfl (by decide) _ _ _ rfl HI1.out ⟨WA.heap.size, 0, none⟩ 1 1 [.int .u32 (z.2 : Int)] rfl rfl (World.news_of_block (heap_alloc_new WA _)) (by intro u hu; simp at hu; subst hu; rfl) (by decide) (by have := HRL.out; have := HPL2.out; unfold maxLen; omega) (by have := HRL.out; have := HPL2.out; omega) (by have := HW1.out.size; exact this) _ rfl ?_; intro g4 c4 W2 hown hgrow hat hlt4; have HOW := Lib.hid hown; have HGR := Lib.hid hgrow; have HAT := Lib.hid hat; clear hown hgrow hat hlt4)
                go_roundg (P.length - (j + 1))
                case measure => rw [HMM.out]; omega
                case rel =>
                  refine ⟨j + 1, R ++ [z.2], rfl, by omega, by go_num, ?_, by have := HRL.out; rw [List.length_append, List.length_singleton]; omega, fun x hx => ?_, fun i q hi hq hkq => ?_, ?_⟩
                  · have := HOW.out
                    unfold IdRow
                    simpa using this
                  · rw [List.mem_append, List.mem_singleton] at hx
                    rcases hx with hx | rfl
                    · exact HRU.out x hx
                    · exact HZU.out
                  · rw [List.mem_append, List.mem_singleton]
                    by_cases e : i = j
                    · subst e
                      obtain rfl : z = q := by have := HZ.out; rw [hq] at this; exact (Option.some.inj this).symm
                      exact Or.inr rfl
                    · exact Or.inl (HRK.out i q (by omega) hq hkq)
                  · exact HW1.out.grown HGR.out HW1.out.size (fun k hk => (HI1.out.blk hk).1)
              | false =>
                rw [hk, if_neg (by simp)] at hka
                have HK1 := Lib.hid hk
                clear hk
                go_wp2_with fail
                go_roundg (P.length - (j + 1))
                case measure => rw [HMM.out]; omega
                case rel =>
                  refine ⟨j + 1, R, rfl, by omega, by go_num, HRA.out, by have := HRL.out; omega, HRU.out, fun i q hi hq hkq => ?_, HWA.out⟩
                  by_cases e : i = j
                  · subst e
                    have := HK1.out
                    rw [hkq] at this
                    cases this
                  · exact HRK.out i q (by omega) hq hkq
            · obtain rfl : P.length = j := by omega
              have hgj : decide ((P.length : Int) < (P.length : Int)) = false := by simp
              have HRKA : Hid (∀ i q, P[i]? = some q → kp13 K i = true → q.2 ∈ R) := fun i q hq hk => HRK.out i q (List.getElem?_eq_some_iff.1 hq).1 hq hk
              have HPL2 : Hid (P.length ≤ 41) := by have := HPL.out; unfold Hid; omega
              clear HRK HMM
              go_wp2_with fail
              clear hgj
              have HWB := Lib.hid HW.out
              have HRB := Lib.hid HR.out
              have HOB := Lib.hid (HO.out.later (HB9.out.trans (HW.out.mono HB9.out.size)))
              have HSL := Lib.hid HW.out.size
              generalize wr = WD at *
              clear HW HR
              go_loopg [12, 16, 91] os.length (fun mm v12 v16 cnt wr => ∃ (j : Nat) (R' : List Nat), mm = os.length - j ∧ j ≤ os.length ∧ cnt = .int .i64 (j : Int) ∧ IdRow wr W9.heap.size v12 R' ∧ R'.length ≤ 41 + j ∧ (∀ x ∈ R', x < 4294967296) ∧ (∀ x ∈ R, x ∈ R') ∧ Below W9.heap.size W9 wr ∧ Below w.heap.size w wr)
              case atStart =>
                exact ⟨0, R, rfl, Nat.zero_le _, rfl, HRB.out, by have := HRL.out; have := HPL2.out; omega, HRU.out, fun x hx => hx, HWB.out, HB9.out.trans (HWB.out.mono HB9.out.size)⟩
              case round =>
                clear HRB HWB HRL HRU
                obtain ⟨j, R', hm, hj, rfl, hR, hRl, hRu, hRk, hW, hB⟩ := hrel
                have HMM := Lib.hid hm
                have HR := Lib.hid hR
                have HRL := Lib.hid hRl
                have HRU := Lib.hid hRu
                have HRS := Lib.hid hRk
                have HW := Lib.hid hW
                have HBW := Lib.hid hB
                clear hm hR hRl hRu hRk hW hB
                by_cases hlt2 : j < os.length
                · have hgj : decide ((j : Int) < (os.length : Int)) = true := by simp; omega
                  obtain ⟨x, hx⟩ : ∃ x, os[j]? = some x := ⟨os[j], List.getElem?_eq_getElem hlt2⟩
                  obtain ⟨hxu, bk, off, rfl, hbk, hcell⟩ := HO.out j x hx
                  have cx : wr.cell? ⟨bk, off + j, none⟩ = some (.int .u32 (x : Int)) := by rw [HBW.out.cell (p := ⟨bk, off + j, none⟩) hbk]; exact hcell
                  have i1 : (0 : Int) ≤ (j : Int) := by omega
                  have i2 : (j : Int) < (os.length : Int) := by omega
                  have w5 : IntKind.i64.wrap ((j : Int) + 1) = ((j + 1 : Nat) : Int) := by rw [IntWalk.i64_in _ (by omega)]; omega
                  obtain ⟨ti, hi, hz0, hz1, hz2⟩ := infoId
                  have HI := Lib.hid hi
                  have HZ0 := Lib.hid hz0
                  have HZ1 := Lib.hid hz1
                  have HZ2 := Lib.hid hz2
                  have HXU := Lib.hid hxu
                  have hbB := bel1 wr (.cells #[.int .u32 (x : Int)] 34)
                  have HI1 := Lib.hid (HR.out.later hbB)
                  have HW1 := Lib.hid (HW.out.trans (hbB.mono HW.out.size))
                  have HBW1 := Lib.hid (HBW.out.trans (hbB.mono HBW.out.size))
                  clear hi hz0 hz1 hz2 hx hcell hbB HW HR HBW hxu
                  go_wp2_with (at_builtin; refine wpList_append_lies _ rfl _ _ 32 rfl W9.heap.size 34 ti (.int .u32 0) 1 4 Try.underlying32 HI.out HZ0.out HZ1.out HZ2.out rfl (by decide) _ _ _ rfl HI1.out ⟨wr.heap.size, 0, none⟩ 1 1 [.int .u32 (x : Int)] rfl rfl (World.news_of_block (heap_alloc_new wr _)) (by intro u hu; simp at hu; subst hu; rfl) (by decide) (by have := HRL.out; unfold maxLen; omega) (by have := HRL.out; omega) (by have := HW1.out.size; exact this) _ rfl ?_; intro g4 c4 W2 hown hgrow hat hlt4; have HOW := Lib.hid hown; have HGR := Lib.hid hgrow; have HAT := Lib.hid hat; clear hown hgrow hat hlt4)
                  go_roundg (os.length - (j + 1))
                  case measure => rw [HMM.out]; omega
                  case rel =>
                    refine ⟨j + 1, R' ++ [x], rfl, by omega, by go_num, ?_, by have := HRL.out; rw [List.length_append, List.length_singleton]; omega, fun y hy => ?_, fun y hy => List.mem_append_left _ (HRS.out y hy), ?_, ?_⟩
                    · have := HOW.out
                      unfold IdRow
                      simpa using this
                    · rw [List.mem_append, List.mem_singleton] at hy
                      rcases hy with hy | rfl
                      · exact HRU.out y hy
                      · exact HXU.out
                    · exact HW1.out.grown HGR.out HW1.out.size (fun k hk => (HI1.out.blk hk).1)
                    · exact HBW1.out.grown HGR.out HBW1.out.size (fun k hk => Nat.le_trans HB9.out.size (HI1.out.blk hk).1)
                · obtain rfl : os.length = j := by omega
                  have hgj : decide ((os.length : Int) < (os.length : Int)) = false := by simp
                  obtain ⟨ra, rc, hv, hlr⟩ := HR.out.lrow HRU.out
                  subst hv
                  have HLR := Lib.hid hlr
                  have HKR : Hid (∀ i q, P[i]? = some q → kp13 K i = true → q.2 ∈ R') := fun i q hq hk => HRS.out _ (HRKA.out i q hq hk)
                  have HRL2 : Hid (R'.length ≤ 1000000) := by have := HRL.out; unfold Hid; omega
                  have HBW2 := Lib.hid HBW.out
                  have HS0 := Lib.hid (HS9.out.later HW.out)
                  have HP0 := Lib.hid (own_blk HR9.out (HW.out.block _ (own_lt HR9.out).2))
                  clear HMM HR HRL HRU HRS hlr HRKA HOB HSL HS9 HR9 HB9 HBW
                  go_wp2_with fail
                  clear hgj HW
                  generalize wr = WC at *
                  have hNm := HS0.out.room
                  obtain ⟨r, hr⟩ : ∃ r, r + N.length = 65536 := ⟨65536 - N.length, by omega⟩
                  have HRO := Lib.hid hr
                  refine (len_any HS0.out).mono ?_
                  rintro e W1 ⟨rfl, rfl⟩
                  go_wp2_with fail
                  refine (room_to HS0.out hr).mono ?_
                  clear hr
                  rintro e W1 ⟨rfl, hb⟩
                  have HS1 := Lib.hid (HS0.out.later hb)
                  have HP1 := Lib.hid (own_blk HP0.out (hb.block _ (own_lt HP0.out).2))
                  have HL1 := Lib.hid (HLR.out.later hb)
                  have HB1 := Lib.hid (HBW2.out.trans (hb.mono HBW2.out.size))
                  clear hb HS0 HP0 HLR HBW2
                  go_wp2_with fail
                  refine (lneed_any HS1.out (c := rc) HL1.out rfl HRL2.out).mono ?_
                  rintro e W2 ⟨ib, rfl, hba, hb⟩
                  obtain ⟨F, hF⟩ : ∃ F, nedF N R' = F := ⟨_, rfl⟩
                  have hc := ned_cl HS1.out.wf R'
                  have hrt : ∀ i q, P[i]? = some q → kp13 K i = true → nd13 F q.2 = true := fun i q hq hk => by
                    rw [← hF]
                    exact ned_root HS1.out.wf (HKR.out i q hq hk) (HPZ.out q (List.mem_of_getElem? hq)).sq.lt
                  rw [hF] at hba hc
                  have HFF := Lib.hid hF
                  have HC := Lib.hid hc
                  have HRT := Lib.hid hrt
                  have HBA2 := Lib.hid hba
                  have HS2 := Lib.hid (HS1.out.later hb)
                  have HP2 := Lib.hid (own_blk HP1.out (hb.block _ (own_lt HP1.out).2))
                  have HL2 := Lib.hid (HL1.out.later hb)
                  have HB2 := Lib.hid (HB1.out.trans (hb.mono HB1.out.size))
                  clear hF hc hrt hba hb HS1 HP1 HL1 HB1 HKR
                  go_wp2_with fail
                  refine (collect_any HS2.out (c := rc) HL2.out rfl HRL2.out).mono ?_
                  rintro e W3 ⟨v, fb, fg, ftb, fcap, rfl, hst, hno, hb, _⟩
                  rw [HFF.out] at hst hno
                  obtain ⟨tc, mb, rfl, hn1, hn2, hn3⟩ := hno.ex
                  have HNO : Hid (∃ mb, W3.cell? ⟨tc, 0, none⟩ = some (.map (some mb)) ∧ GMap mkI W3 mb (nowA F) ∧ tc < W3.heap.size) := ⟨mb, hn1, hn2, hn3⟩
                  have HSN := Lib.hid hst
                  have HBA3 := Lib.hid (HBA2.out.later hb)
                  have HS3 := Lib.hid (HS2.out.later hb)
                  have HP3 := Lib.hid (own_blk HP2.out (hb.block _ (own_lt HP2.out).2))
                  have HL3 := Lib.hid (HL2.out.later hb)
                  have HB3 := Lib.hid (HB2.out.trans (hb.mono HB2.out.size))
                  clear hst hno hn1 hn2 hn3 hb HBA2 HS2 HP2 HL2 HB2
                  go_wp2_with fail
                  refine (reach13_any HS3.out (c := rc) HL3.out rfl HRL2.out).mono ?_
                  rintro e W4 ⟨qb, rfl, hre, hb⟩
                  rw [HFF.out] at hre
                  obtain ⟨mb2, hn1, hn2, hn3⟩ := HNO.out
                  have HX : Hid (Cp13 W4 sb g tb scap N fb fg ftb fcap F tc qb ib gP cP WB.heap.size P) :=
                    ⟨HS3.out.later hb, HSN.out.later hb, ⟨mb2, by rw [hb.cell (p := ⟨tc, 0, none⟩) hn3]; exact hn1, hn2.later hb, Nat.lt_of_lt_of_le hn3 hb.size⟩, hre, HBA3.out.later hb, own_blk HP3.out (hb.block _ (own_lt HP3.out).2)⟩
                  have HB4 := Lib.hid (HB3.out.trans (hb.mono HB3.out.size))
                  clear hn1 hn2 hn3 hre hb HNO HSN HBA3 HS3 HP3 HL3 HB3 HFF HRL2
                  have hnr := HX.out.sn.room
                  obtain ⟨m, hm⟩ : ∃ m, (cmpN N F).length = m := ⟨_, rfl⟩
                  rw [hm] at hnr
                  obtain ⟨r2, hr2⟩ : ∃ r2, r2 + (cmpN N F).length = 65536 := ⟨65536 - m, by omega⟩
                  have HR2 := Lib.hid hr2
                  have HMm := Lib.hid hm
                  have wA : IntKind.i64.wrap ((m : Int) + (r2 : Int)) = 65536 := by rw [IntWalk.i64_in _ (by omega)]; omega
                  have wB : IntKind.i64.wrap ((N.length : Int) + (r : Int)) = 65536 := by have := HRO.out; rw [IntWalk.i64_in _ (by omega)]; omega
                  clear hm hr2
                  go_wp2_with fail
                  refine (len_to HX.out.so rfl).mono ?_
                  rintro e W5 ⟨rfl, rfl⟩
                  go_wp2_with fail
                  refine (room_to HX.out.so HRO.out).mono ?_
                  rintro e W5 ⟨rfl, hb⟩
                  have HX5 := Lib.hid (HX.out.later hb)
                  have HB5 := Lib.hid (HB4.out.trans (hb.mono HB4.out.size))
                  clear hb HX HB4
                  go_wp2_with fail
                  refine (len_to HX5.out.sn HMm.out).mono ?_
                  rintro e W6 ⟨rfl, rfl⟩
                  go_wp2_with fail
                  refine (room_to HX5.out.sn HR2.out).mono ?_
                  rintro e W6 ⟨rfl, hb⟩
                  have HX6 := Lib.hid (HX5.out.later hb)
                  have HB6 := Lib.hid (HB5.out.trans (hb.mono HB5.out.size))
                  clear hb HX5 HB5
                  go_wp2_with fail
                  clear wA wB
                  go_loopg [24, 25, 26, 27, 28, 29, 144] N.length (fun mm v24 v25 v26 v27 v28 v29 cnt wr => ∃ (j : Nat), mm = N.length - j ∧ j ≤ N.length ∧ cnt = .int .i64 (j : Int) ∧ v24 = .int .i64 (rk13 F j : Int) ∧ Cp13 wr sb g tb scap N fb fg ftb fcap F tc qb ib gP cP WB.heap.size P ∧ Below w.heap.size w wr)
                  case atStart => exact ⟨0, rfl, Nat.zero_le _, rfl, rfl, HX6.out, HB6.out⟩
                  case round =>
                    clear HX6 HB6
                    obtain ⟨j, hm, hj, rfl, rfl, hX, hB⟩ := hrel
                    have HMM := Lib.hid hm
                    have HX := Lib.hid hX
                    have HBW := Lib.hid hB
                    clear hm hX hB
                    by_cases hlt3 : j < N.length
                    · have hgj : decide ((j : Int) < (N.length : Int)) = true := by simp; omega
                      obtain ⟨b0, bf⟩ := HX.out.ba.cell (j := j) (by rw [HC.out.len]; exact hlt3)
                      have i1 : (0 : Int) ≤ (j : Int) := by omega
                      have i2 : (j : Int) < (N.length : Int) := by omega
                      have hc : ((j : Int) % 4294967296) = (j : Int) := by omega
                      have w5 : IntKind.i64.wrap ((j : Int) + 1) = ((j + 1 : Nat) : Int) := by rw [IntWalk.i64_in _ (by omega)]; omega
                      have hyj := rk_le F j
                      have HRS : Hid (rk13 F (j + 1) = rk13 F j + (if nd13 F j then 1 else 0)) := rfl
                      have hlk := (HX.out.re.look1 j (show j < 4294967296 by omega))
                      cases hnd : nd13 F j with
                      | true =>
                        rw [hnd] at b0 HRS
                        have HNOW := Lib.hid (HX.out.now j (by omega) hnd (y := rk13 F j) (if_pos rfl))
                        have hlook := hlk.1 (.bool true) (by unfold inQ; rw [if_pos (ndL_mem.2 ⟨hlt3, hnd⟩)])
                        have hlook' : (Instr.lookup 45 (.map (some qb)) (.int .u32 (j : Int)) false).run Try.prog wr = .ok (.bool true) wr := hlook
                        have HLV := Lib.hid (lv_all (N := N) hnd hlt3)
                        have HCT := Lib.hid (ct_all (N := N) hnd hlt3)
                        clear hnd hlk hlook
                        have HRY : Hid (rk13 F (j + 1) = rk13 F j + 1) := HRS.out
                        generalize rk13 F j = y at *
                        have wy : IntKind.i64.wrap (y : Int) = (y : Int) := IntWalk.i64_in _ (by omega)
                        have w6 : IntKind.i64.wrap ((y : Int) + 1) = ((y + 1 : Nat) : Int) := by rw [IntWalk.i64_in _ (by omega)]; omega
                        clear HRS
                        obtain ⟨lv, hlv⟩ : ∃ lv, lvZ N j = lv := ⟨_, rfl⟩
                        obtain ⟨ct, hct⟩ : ∃ ct, ctZ N j = ct := ⟨_, rfl⟩
                        have HLV1 := Lib.hid hlv
                        have HLV2 := Lib.hid (HLV.out.trans hlv)
                        have HCT1 := Lib.hid hct
                        have HCT2 := Lib.hid (HCT.out.trans hct)
                        clear hlv hct HLV HCT
                        go_wp2_with fail
                        refine HNOW.out.mono ?_
                        rintro e W7 ⟨rfl, rfl⟩
                        go_wp2_with fail
                        refine (lv_to HX.out.so j (by omega) HLV1.out).mono ?_
                        rintro e W7 ⟨rfl, rfl⟩
                        go_wp2_with fail
                        refine (lv_to HX.out.sn y (by omega) HLV2.out).mono ?_
                        rintro e W7 ⟨rfl, rfl⟩
                        go_wp2_with fail
                        refine (ct_to HX.out.so j (by omega) HCT1.out).mono ?_
                        rintro e W7 ⟨rfl, rfl⟩
                        go_wp2_with fail
                        refine (ct_to HX.out.sn y (by omega) HCT2.out).mono ?_
                        rintro e W7 ⟨rfl, rfl⟩
                        go_wp2_with fail
                        go_roundg (N.length - (j + 1))
                        case measure => rw [HMM.out]; omega
                        case rel => exact ⟨j + 1, rfl, by omega, by go_num, by rw [HRY.out]; push_cast; rfl, HX.out, HBW.out⟩
                      | false =>
                        rw [hnd] at b0 HRS
                        have HNOW := Lib.hid (HX.out.now j (by omega) hnd (y := 0) (if_neg (by simp)))
                        have hlook := hlk.2 (by unfold inQ; rw [if_neg (fun h => by have := (ndL_mem.1 h).2; rw [hnd] at this; cases this)])
                        have hlook' : (Instr.lookup 45 (.map (some qb)) (.int .u32 (j : Int)) false).run Try.prog wr = .ok (.bool false) wr := hlook
                        clear hnd hlk hlook
                        have HRY : Hid (rk13 F (j + 1) = rk13 F j) := HRS.out
                        generalize rk13 F j = y at *
                        clear HRS
                        go_wp2_with fail
                        refine HNOW.out.mono ?_
                        rintro e W7 ⟨rfl, rfl⟩
                        go_wp2_with fail
                        go_roundg (N.length - (j + 1))
                        case measure => rw [HMM.out]; omega
                        case rel => exact ⟨j + 1, rfl, by omega, by go_num, by rw [HRY.out], HX.out, HBW.out⟩
                    · obtain rfl : N.length = j := by omega
                      have hgj : decide ((N.length : Int) < (N.length : Int)) = false := by simp
                      have hc : ((N.length : Int) % 4294967296) = (N.length : Int) := by omega
                      have hnl : nd13 F N.length = false := by
                        cases h : nd13 F N.length with
                        | false => rfl
                        | true => have := nd_lt h; rw [HC.out.len] at this; omega
                      have HNOW := Lib.hid (HX.out.now N.length (by omega) hnl (y := 0) (if_neg (by simp)))
                      have hym : rk13 F N.length = m := by rw [← HMm.out, cmp_len]
                      have hlen := HX.out.re.len_ (ndL F N.length) (ndL_nodup F N.length) (fun x => by
                        unfold inQ
                        by_cases h : x ∈ ndL F N.length
                        · rw [if_pos h]; exact ⟨fun _ => rfl, fun _ => h⟩
                        · rw [if_neg h]; exact ⟨fun hh => absurd hh h, fun hh => by cases hh⟩)
                      rw [ndL_len] at hlen
                      have HLEN := Lib.hid hlen
                      generalize rk13 F N.length = y at *
                      subst hym
                      clear hnl hlen HMM
                      go_wp2_with fail
                      refine HNOW.out.mono ?_
                      rintro e W7 ⟨rfl, rfl⟩
                      go_wp2_with fail
                      refine (len_to HX.out.sn HMm.out).mono ?_
                      rintro e W7 ⟨rfl, rfl⟩
                      have hlen := HLEN.out
                      go_wp2_with fail
                      clear hlen HLEN HNOW hc hgj
                      have HXB := Lib.hid HX.out
                      have HBB := Lib.hid HBW.out
                      generalize wr = WE at *
                      clear HX HBW
                      go_loopg [32, 33, 34, 35, 36, 38, 220] P.length (fun mm v32 v33 v34 v35 v36 v38 cnt wr => ∃ (j : Nat), mm = P.length - j ∧ j ≤ P.length ∧ cnt = .int .i64 (j : Int) ∧ Cp13 wr sb g tb scap N fb fg ftb fcap F tc qb ib gP cP WB.heap.size P ∧ Below w.heap.size w wr)
                      case atStart => exact ⟨0, rfl, Nat.zero_le _, rfl, HXB.out, HBB.out⟩
                      case round =>
                        clear HXB HBB
                        obtain ⟨j, hm, hj, rfl, hX, hB⟩ := hrel
                        have HMM := Lib.hid hm
                        have HX := Lib.hid hX
                        have HBW := Lib.hid hB
                        clear hm hX hB
                        by_cases hlt4 : j < P.length
                        · have hgj : decide ((j : Int) < (P.length : Int)) = true := by simp; omega
                          obtain ⟨z, hz⟩ : ∃ z, P[j]? = some z := ⟨P[j], List.getElem?_eq_getElem hlt4⟩
                          have HZ := Lib.hid hz
                          obtain ⟨e1, e2⟩ := plR_at sb P j
                          rw [hz] at e1 e2
                          have p0 : wr.cell? ⟨gP, j * 2, none⟩ = some (.pointer (some ⟨sb, 0, none⟩)) := by
                            rw [HX.out.row.cellAt (j * 2) (by omega)]; exact e1
                          have p1 : wr.cell? ⟨gP, j * 2 + 1, none⟩ = some (.int .u32 (z.2 : Int)) := by
                            rw [HX.out.row.cellAt (j * 2 + 1) (by omega)]; exact e2
                          have i1 : (0 : Int) ≤ (j : Int) := by omega
                          have i2 : (j : Int) < (P.length : Int) := by omega
                          have hj41 : j ≤ 40 := by have := HPL.out; omega
                          have hr2 : (j : Int) % 64 = (j : Int) := by omega
                          have hka := kp_and K j HKK.out
                          have w5 : IntKind.i64.wrap ((j : Int) + 1) = ((j + 1 : Nat) : Int) := by rw [IntWalk.i64_in _ (by omega)]; omega
                          have hbA := bel1 wr (.cells #[.pointer (some ⟨sb, 0, none⟩), .int .u32 (z.2 : Int)] 36)
                          have HXA := Lib.hid (HX.out.later hbA)
                          have HBA := Lib.hid (HBW.out.trans (hbA.mono HBW.out.size))
                          have HPO : Hid ((wr.alloc (.cells #[.pointer (some ⟨sb, 0, none⟩), .int .u32 (z.2 : Int)] 36)).heap[wr.heap.size]? = some (plO sb z.2)) := heap_alloc_new wr _
                          have HPZ1 := Lib.hid (HPZ.out z (List.mem_of_getElem? hz))
                          have HZU : Hid (z.2 < 4294967296) := Sq.u32 HX.out.so HPZ1.out.sq
                          clear hbA e1 e2 hz
                          go_upto_region 47 with fail
                          generalize wr.alloc (.cells #[.pointer (some ⟨sb, 0, none⟩), .int .u32 (z.2 : Int)] 36) = WA at *
                          generalize wr.heap.size = pa at *
                          clear p0 p1 HX HBW
                          obtain ⟨p0, p1⟩ := pl_cells HPO.out
                          cases hk : kp13 K j with
                          | false =>
                            rw [hk, if_neg (by simp)] at hka
                            clear hk
                            go_wp2_with fail
                            go_roundg (P.length - (j + 1))
                            case measure => rw [HMM.out]; omega
                            case rel => exact ⟨j + 1, rfl, by omega, by go_num, HXA.out, HBA.out⟩
                          | true =>
                            rw [hk, if_pos rfl] at hka
                            have hnd := HRT.out j z HZ.out hk
                            have HNOW := Lib.hid (HXA.out.now z.2 HZU.out hnd (y := rk13 F z.2) (if_pos rfl))
                            have HSQ2 := Lib.hid (HPZ1.out.sq.cmp (F := F) hnd)
                            have HAL := Lib.hid (al_cmp HC.out HXA.out.so.wf HPZ1.out.sq hnd)
                            generalize rk13 F z.2 = y at *
                            clear hk hnd
                            go_wp2_with fail
                            refine HNOW.out.mono ?_
                            rintro e W7 ⟨rfl, rfl⟩
                            clear HNOW p0 p1
                            go_upto_region 49 with fail
                            have hbB := bel1 WA (.cells #[.pointer (some ⟨fb, 0, none⟩), .int .u32 (y : Int)] 36)
                            have HXB := Lib.hid (HXA.out.later hbB)
                            have HBB := Lib.hid (HBA.out.trans (hbB.mono HBA.out.size))
                            have HPO2 : Hid ((WA.alloc (.cells #[.pointer (some ⟨fb, 0, none⟩), .int .u32 (y : Int)] 36)).heap[pa]? = some (plO sb z.2)) := by
                              show _ = _
                              rw [hbB.block pa (Array.getElem?_eq_some_iff.1 HPO.out).1]; exact HPO.out
                            have HQO : Hid ((WA.alloc (.cells #[.pointer (some ⟨fb, 0, none⟩), .int .u32 (y : Int)] 36)).heap[WA.heap.size]? = some (plO fb y)) := heap_alloc_new WA _
                            clear hbB HXA HBA HPO
                            go_upto_region 50 with fail
                            generalize WA.alloc (.cells #[.pointer (some ⟨fb, 0, none⟩), .int .u32 (y : Int)] 36) = WF at *
                            generalize WA.heap.size = qa at *
                            go_wp2_with fail
                            go_loopg [38, 243] cs.length (fun mm v38 cnt wr => ∃ (i : Nat), mm = cs.length - i ∧ i ≤ cs.length ∧ cnt = .int .i64 (i : Int) ∧ Cp13 wr sb g tb scap N fb fg ftb fcap F tc qb ib gP cP WB.heap.size P ∧ wr.heap[pa]? = some (plO sb z.2) ∧ wr.heap[qa]? = some (plO fb y) ∧ Below w.heap.size w wr)
                            case atStart => exact ⟨0, rfl, Nat.zero_le _, rfl, HXB.out, HPO2.out, HQO.out, HBB.out⟩
                            case round =>
                              clear HXB HPO2 HQO HBB
                              obtain ⟨i, hm, hi, rfl, hX, hpo, hqo, hB⟩ := hrel
                              have HM2 := Lib.hid hm
                              have HX := Lib.hid hX
                              have HPO := Lib.hid hpo
                              have HQO := Lib.hid hqo
                              have HBW := Lib.hid hB
                              clear hm hX hpo hqo hB
                              by_cases hlt5 : i < cs.length
                              · have hgi : decide ((i : Int) < (cs.length : Int)) = true := by simp; omega
                                obtain ⟨c, hc⟩ : ∃ c, cs[i]? = some c := ⟨cs[i], List.getElem?_eq_getElem hlt5⟩
                                obtain ⟨bk, off, ha, hbk, c0, c1⟩ := (HP.out.later HBW.out) i c hc
                                subst ha
                                have i3 : (0 : Int) ≤ (i : Int) := by omega
                                have i4 : (i : Int) < (cs.length : Int) := by omega
                                have w6 : IntKind.i64.wrap ((i : Int) + 1) = ((i + 1 : Nat) : Int) := by rw [IntWalk.i64_in _ (by omega)]; omega
                                have hbC := bel1 wr (.cells #[.int .i64 c.1, .int .i64 c.2] 27)
                                have HXC := Lib.hid (HX.out.later hbC)
                                have HBC := Lib.hid (HBW.out.trans (hbC.mono HBW.out.size))
                                have HPOC : Hid ((wr.alloc (.cells #[.int .i64 c.1, .int .i64 c.2] 27)).heap[pa]? = some (plO sb z.2)) := by
                                  show _ = _
                                  rw [hbC.block pa (Array.getElem?_eq_some_iff.1 HPO.out).1]; exact HPO.out
                                have HQOC : Hid ((wr.alloc (.cells #[.int .i64 c.1, .int .i64 c.2] 27)).heap[qa]? = some (plO fb y)) := by
                                  show _ = _
                                  rw [hbC.block qa (Array.getElem?_eq_some_iff.1 HQO.out).1]; exact HQO.out
                                have HCO : Hid ((wr.alloc (.cells #[.int .i64 c.1, .int .i64 c.2] 27)).heap[wr.heap.size]? = some (ptO c.1 c.2)) := heap_alloc_new wr _
                                clear hc hbC HX HPO HQO HBW
                                go_upto_region 53 with fail
                                generalize wr.alloc (.cells #[.int .i64 c.1, .int .i64 c.2] 27) = WG at *
                                generalize wr.heap.size = ca at *
                                clear c0 c1
                                obtain ⟨p0, p1⟩ := pl_cells HPOC.out
                                obtain ⟨q0, q1⟩ := pl_cells HQOC.out
                                obtain ⟨d0, d1⟩ := pt_cells HCO.out
                                have hne := Up.me WG
                                have HG1 := Lib.hid (fun u : Up WG => Up.calls (fun W' hb => get_any (HXC.out.so.later hb) HPZ1.out.sq HPZ1.out.two c.1 c.2) u)
                                have HG2 := Lib.hid (fun u : Up WG => Up.calls (fun W' hb => get_any (HXC.out.sn.later hb) HSQ2.out HPZ1.out.two c.1 c.2) u)
                                rw [HAL.out c.1 c.2] at HG2
                                have g0 := fun u : Up WG => Up.cell p0 u
                                have g1 := fun u : Up WG => Up.cell p1 u
                                have g2 := fun u : Up WG => Up.cell q0 u
                                have g3 := fun u : Up WG => Up.cell q1 u
                                have g4 := fun u : Up WG => Up.cell d0 u
                                have g5 := fun u : Up WG => Up.cell d1 u
                                generalize alK N z.1 (kidZ N z.2) c.1 c.2 = bv at *
                                have hbv : (bv != bv) = false := by simp
                                refine region_up (by kernel_rfl) (by kernel_rfl) ?_
                                repeat (go_big_quiet_step ((first | (go_at_call 15; with_reducible exact HG1.out _) | (go_at_call 15; with_reducible exact HG2.out _))))
                                refine wpQuiet_nil ?_
                                rintro w2 ⟨⟨W2, hW2⟩, hw2⟩
                                obtain rfl : w2 = W2 := hw2
                                have HXD := Lib.hid (HXC.out.later hW2)
                                have HBD := Lib.hid (HBC.out.trans (hW2.mono HBC.out.size))
                                have HPOD : Hid (w2.heap[pa]? = some (plO sb z.2)) := by
                                  show _ = _
                                  rw [hW2.block pa (Array.getElem?_eq_some_iff.1 HPOC.out).1]; exact HPOC.out
                                have HQOD : Hid (w2.heap[qa]? = some (plO fb y)) := by
                                  show _ = _
                                  rw [hW2.block qa (Array.getElem?_eq_some_iff.1 HQOC.out).1]; exact HQOC.out
                                clear HG1 HG2 g0 g1 g2 g3 g4 g5 hne hW2 p0 p1 q0 q1 d0 d1 HXC HBC HPOC HQOC HCO
                                go_wp2_with fail
                                go_roundg (cs.length - (i + 1))
                                case measure => rw [HM2.out]; omega
                                case rel => exact ⟨i + 1, rfl, by omega, by go_num, HXD.out, HPOD.out, HQOD.out, HBD.out⟩
                              · obtain rfl : cs.length = i := by omega
                                have hgi : decide ((cs.length : Int) < (cs.length : Int)) = false := by simp
                                go_wp2_with fail
                                go_roundg (P.length - (j + 1))
                                case measure => rw [HMM.out]; omega
                                case rel => exact ⟨j + 1, rfl, by omega, by go_num, HX.out, HBW.out⟩
                        · obtain rfl : P.length = j := by omega
                          have hgj : decide ((P.length : Int) < (P.length : Int)) = false := by simp
                          go_wp2_with fail
                          go_ret
                          exact ⟨rfl, HBW.out⟩
    · have hg10 : decide ((10 : Int) < (os.length : Int)) = true := by simp; omega
      go_wp2_with fail
      refine (lives13_any W1).mono ?_
      rintro e W2 ⟨rfl, hb⟩
      have HB2 := Lib.hid (HB1.out.trans (hb.mono HB1.out.size))
      clear hb
      go_wp2_with fail
      go_ret
      exact ⟨rfl, HB2.out⟩
  · have hg40 : decide ((40 : Int) < (cs.length : Int)) = true := by simp; omega
    go_wp2_with fail
    refine (lives13_any W1).mono ?_
    rintro e W2 ⟨rfl, hb⟩
    have HB2 := Lib.hid (HB1.out.trans (hb.mono HB1.out.size))
    clear hb
    go_wp2_with fail
    go_ret
    exact ⟨rfl, HB2.out⟩
end Go.Proofs.Ytgciceogggldhaa
