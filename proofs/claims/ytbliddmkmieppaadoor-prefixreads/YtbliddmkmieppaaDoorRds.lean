/- The document's own reader of layer 2, and Bytes of prefix.Reader: contracts. -/
import Derived.Test.YtbliddmkmieppaaDoorRdr2
import Derived.Test.YtbliddmkmieppaaDoorRef2
import Derived.Test.YtbliddmkmieppaaDoorLv2
import Derived.Test.YtbliddmkmieppaaDoorApd
import Derived.Deep.DeepCutAuto
import Derived.Deep.CutBlock
namespace Go.Proofs.YtbliddmkmieppaaDoor
open Go.RowKit

/-- The document's reader in block mb: its bytes lie from block lo on. -/
def RRd (w : World) (lo mb : Nat) (bs : List Int) (pos : Nat) (e : Int) (f : Nat) : Prop :=
  ∃ v, w.heap[mb]? = some (.cells #[v, .int .i64 (pos : Int), .int .i64 e, .int .i64 (f : Int)] 29 (0, 0)) ∧ Own w lo v bs ∧ (∀ k, v.ownBlock = some k → k < mb) ∧ lo ≤ mb ∧ pos ≤ bs.length ∧ bs.length ≤ 1000000000
theorem RRd.drewN {w : World} {lo mb : Nat} {bs : List Int} {pos : Nat} {e : Int} {f : Nat} (h : RRd w lo mb bs pos e f) {q : Nat} : RRd (w.drewN q) lo mb bs pos e f := h
theorem RRd.keep {w w' : World} {lo mb : Nat} {bs : List Int} {pos : Nat} {e : Int} {f : Nat} (h : RRd w lo mb bs pos e f) (hb : ∀ k, lo ≤ k → k ≤ mb → w'.heap[k]? = w.heap[k]?) : RRd w' lo mb bs pos e f := by
  obtain ⟨v, h1, h2, h3, h4, h5⟩ := h
  exact ⟨v, by rw [hb mb h4 (Nat.le_refl _)]; exact h1, own_same h2 (fun k hk => hb k (h2.lt k hk).1 (Nat.le_of_lt (h3 k hk))), h3, h4, h5⟩
theorem RRd.lt {w : World} {lo mb : Nat} {bs : List Int} {pos : Nat} {e : Int} {f : Nat} (h : RRd w lo mb bs pos e f) : mb < w.heap.size := by
  obtain ⟨v, h1, _⟩ := h
  exact (Array.getElem?_eq_some_iff.1 h1).1
theorem RRd.set {w : World} {lo mb : Nat} {bs : List Int} {pos : Nat} {e : Int} {f : Nat} (h : RRd w lo mb bs pos e f) (i : Nat) (u : Value) (p : Nat) (hp : p ≤ bs.length) (e' : Int) (f' : Nat)
    (hs : ∀ v, #[v, Value.int .i64 (pos : Int), .int .i64 e, .int .i64 (f : Int)].setIfInBounds i u = #[v, .int .i64 (p : Int), .int .i64 e', .int .i64 (f' : Int)]) : RRd (w.setCell ⟨mb, i, none⟩ u) lo mb bs p e' f' := by
  obtain ⟨v, h1, h2, h3, h4, h5, h6⟩ := h
  exact ⟨v, by rw [heap_setCell_same w mb i _ _ _ h1, hs v], own_same h2 (fun k hk => Below.heap_setCell w _ _ k (by have := h3 k hk; show k ≠ mb; omega)), h3, h4, hp, h6⟩

theorem rfail_any {lo mb : Nat} {bs : List Int} {pos : Nat} {e0 : Int} {f : Nat} (e : Int) (w : World) (h : RRd w lo mb bs pos e0 f) :
    Calls Tryd.prog 25 #[.pointer (some ⟨mb, 0, none⟩), .int .i64 e] w fun x w' => x = .returned (.tuple #[]) ∧ RRd w' lo mb bs pos e pos ∧ Only mb w w' := by
  have HR := Lib.hid h
  obtain ⟨v, h1, h2, h3, h4, h5, h6⟩ := h
  have hc1 := cell_in h1 1
  have hc2 := cell_in h1 2
  have hc3 := cell_in h1 3
  have hf2 := frozen_in h1 2
  have hf3 := frozen_in h1 3
  simp at hc1 hc2 hc3
  clear h1 h2 h3
  go_enter Tryd.func25, Tryd.ntmps25
  go_wp2
  go_end0
  exact ⟨rfl, (HR.out.set 2 (.int .i64 e) pos h5 e f (fun _ => rfl)).set 3 (.int .i64 (pos : Int)) pos h5 e pos (fun _ => rfl), (Only.set mb w 2 _).trans (Only.set mb _ 3 _)⟩

theorem rupto_stopped {lo mb : Nat} {bs : List Int} {pos : Nat} {e : Int} {f : Nat} (most : Int) (w : World) (h : RRd w lo mb bs pos e f) (he : e ≠ 0) :
    Calls Tryd.prog 11 #[.pointer (some ⟨mb, 0, none⟩), .int .u64 most] w fun x w' => x = .returned (.int .u64 0) ∧ w = w' := by
  obtain ⟨v, h1, _⟩ := h
  have hc2 := cell_in h1 2
  simp at hc2
  have hb : (e != 0) = true := by simpa using he
  clear h1
  go_enter Tryd.func11, Tryd.ntmps11
  go_wp2
  go_ret
  exact ⟨rfl, rfl⟩
def bitv : Nat → Int
  | 1 => 128 | 2 => 64 | 3 => 32 | 4 => 16 | 5 => 8 | 6 => 4 | 7 => 2 | _ => 1
theorem bitv_next (j : Nat) (h1 : 1 ≤ j) (h8 : j ≤ 8) : max (bitv j / 2) 1 = bitv (j + 1) ∧ 1 ≤ bitv j ∧ bitv j ≤ 128 := by
  match j, h1, h8 with
  | 1, _, _ | 2, _, _ | 3, _, _ | 4, _, _ | 5, _, _ | 6, _, _ | 7, _, _ | 8, _, _ => decide
theorem lead_bit : ∀ c : Fin 256, ∀ j : Fin 9, 1 ≤ j.val → j.val ≤ lead (c.val : Int) → if (c.val : Int) / bitv j.val % 2 = 1 then j.val + 1 ≤ lead (c.val : Int) else lead (c.val : Int) = j.val := by decide +kernel
theorem lead_next (c : Int) (h0 : 0 ≤ c) (h1 : c ≤ 255) (j : Nat) (j1 : 1 ≤ j) (j8 : j ≤ 8) (hj : j ≤ lead c) : if c / bitv j % 2 = 1 then j + 1 ≤ lead c else lead c = j := by
  have := lead_bit ⟨c.toNat, by omega⟩ ⟨j, by omega⟩ j1
  simp only [Int.toNat_of_nonneg h0] at this
  exact this hj
theorem low_bits : ∀ c : Fin 256, lead (c.val : Int) < 8 → (c.val : Int) % (128 / 2 ^ (lead (c.val : Int) - 1)) = (c.val : Int) - mk (lead (c.val : Int)) ∧ 1 ≤ (128 : Int) / 2 ^ (lead (c.val : Int) - 1) ∧ (128 : Int) / 2 ^ (lead (c.val : Int) - 1) ≤ 128 := by decide +kernel
theorem low_byte (c : Int) (h0 : 0 ≤ c) (h1 : c ≤ 255) (h : lead c < 8) : c % (128 / 2 ^ (lead c - 1)) = c - mk (lead c) ∧ 1 ≤ (128 : Int) / 2 ^ (lead c - 1) ∧ (128 : Int) / 2 ^ (lead c - 1) ≤ 128 := by
  have := low_bits ⟨c.toNat, by omega⟩
  simp only [Int.toNat_of_nonneg h0] at this
  exact this h
theorem high_byte (c : Int) (h0 : 0 ≤ c) (h1 : c ≤ 255) (h : ¬ lead c < 8) : c - mk (lead c) = 0 := by
  obtain ⟨a, b⟩ := lead_lim c h0 h1
  have := (lead_pos c).2
  rcases (show lead c = 8 ∨ lead c = 9 by omega) with e | e <;> rw [e] at a b ⊢ <;> simp only [lim, mk] at * <;> omega

set_option maxRecDepth 100000 in
set_option maxHeartbeats 2000000 in
theorem rupto_any {lo mb : Nat} {bs : List Int} {pos f : Nat} (most : Int) (w : World) (h : RRd w lo mb bs pos 0 f) (hb : ∀ z ∈ bs, 0 ≤ z ∧ z ≤ 255) :
    Calls Tryd.prog 11 #[.pointer (some ⟨mb, 0, none⟩), .int .u64 most] w fun e w' =>
      e = .returned (.int .u64 (upto bs pos most).1) ∧ (∃ f', RRd w' lo mb bs (upto bs pos most).2.1 (upto bs pos most).2.2 f' ∧ ((upto bs pos most).2.2 ≠ 0 → f' = (upto bs pos most).2.1)) ∧ Only mb w w' := by
  have HR := Lib.hid h
  obtain ⟨v, h1, h2, _, _, h4, h5⟩ := h
  have hc0 := cell_in h1 0
  have hc1 := cell_in h1 1
  have hc2 := cell_in h1 2
  have hf1 := frozen_in h1 1
  simp at hc0 hc1 hc2
  obtain ⟨a, cp, hsl, h6, h7, hrow⟩ := rest_at h2 pos h4 h5
  have hbd : ∀ z ∈ bs.drop pos, 0 ≤ z ∧ z ≤ 255 := fun z hz => hb z (List.mem_of_mem_drop hz)
  have hrl : (bs.drop pos).length = bs.length - pos := List.length_drop
  have HRW := Lib.hid hrow
  have HBD := Lib.hid hbd
  have hfl := fun e q => rfail_any e (w.drewN q) HR.out.drewN
  have HFL := Lib.hid hfl
  have HUP : Hid (upto bs pos most = if (dec (bs.drop pos)).2.2 = 0 then (if most < (dec (bs.drop pos)).1 then (0, pos, 5) else ((dec (bs.drop pos)).1, pos + (dec (bs.drop pos)).2.1, 0)) else (0, pos, (dec (bs.drop pos)).2.2)) := rfl
  clear h1 h2 hrow hbd hfl hb
  generalize hrr : bs.drop pos = rr at *
  clear hrr
  match rr, hrl, HRW, HBD, HUP with
  | [], hrl, _, _, HUP =>
    have hz : bs.length - pos = 0 := by simpa using hrl.symm
    have hup := HUP.out
    simp [dec] at hup
    rw [hup]
    rw [hz] at hsl h6
    clear HUP hup hrl hz
    go_enter Tryd.func11, Tryd.ntmps11
    go_wp2
    go_quiet (fail)
    go_wp2_with fail
    refine (HFL.out 2 _).mono ?_
    rintro e w2 ⟨rfl, h1, h2⟩
    have H1 := Lib.hid h1
    have H2 := Lib.hid h2
    clear h1 h2
    go_wp2
    go_ret
    exact ⟨rfl, ⟨_, H1.out, fun _ => rfl⟩, (Only.drewN mb w _).trans H2.out⟩
  | c :: t, hrl, HRW, HBD, HUP =>
    obtain ⟨bk, off, rfl, _, hc⟩ := HRW.out 0 c rfl
    rw [Nat.add_zero] at hc
    obtain ⟨c0, c1⟩ := HBD.out c List.mem_cons_self
    obtain ⟨k1, k9⟩ := lead_pos c
    have hlen : bs.length - pos = t.length + 1 := by rw [← hrl]; rfl
    rw [hlen] at hsl h6
    have htl : t.length + 1 ≤ 1000000000 := by omega
    have HTL : Hid (pos + (t.length + 1) = bs.length) := by show _ = _; omega
    clear hrl hlen
    have hne : ((t.length : Int) + 1 == 0) = false := by rw [beq_eq_false_iff_ne]; omega
    go_enter Tryd.func11, Tryd.ntmps11
    go_wp2
    go_quiet (fail)
    go_upto_block 0 with fail
    go_cut [6] (fun k wx => k = .int .i64 (lead c : Int) ∧ ∃ q, wx = w.drewN q)
    case first =>
      go_wp2
      go_loopg [6, 7] 9 (fun m k b wr => ∃ j : Nat, m = 10 - j ∧ 1 ≤ j ∧ j ≤ lead c ∧ k = .int .i64 (j : Int) ∧ b = .int .u8 (bitv j) ∧ ∃ q, wr = w.drewN q)
      case atStart => exact ⟨1, by omega, by omega, k1, rfl, rfl, _, rfl⟩
      case round =>
        obtain ⟨j, hm, j1, hj, rfl, rfl, q, rfl⟩ := hrel
        have HM := Lib.hid hm
        clear hm
        by_cases hlt : j < 9
        · have hln := lead_next c c0 c1 j j1 (by omega) hj
          obtain ⟨e1, e2, e3⟩ := bitv_next j j1 (by omega)
          have HE := Lib.hid e1
          clear e1
          have hlt' : (j : Int) < 9 := by omega
          have hnz : (bitv j == 0) = false := by rw [beq_eq_false_iff_ne]; omega
          have hq0 : 0 ≤ c / bitv j := Int.ediv_nonneg c0 (by omega)
          by_cases hbit : c / bitv j % 2 = 1
          · rw [if_pos hbit] at hln
            have hbb : (c / bitv j % 2 == 1) = true := by rw [hbit]; rfl
            clear hbit
            generalize bitv j = b at *
            go_wp2
            go_roundg (10 - (j + 1))
            case measure => rw [HM.out]; omega
            case rel => exact ⟨j + 1, rfl, by omega, hln, by go_num, by rw [← HE.out], _, rfl⟩
          · rw [if_neg hbit] at hln
            have hbb : (c / bitv j % 2 == 1) = false := by simpa using hbit
            have HLN := Lib.hid hln
            clear hbit hln
            generalize bitv j = b at *
            go_wp2
            go_meet
            exact ⟨by rw [HLN.out], _, rfl⟩
        · have hj9 : j = 9 := by omega
          subst hj9
          have HL9 : Hid (lead c = 9) := by show _ = _; omega
          go_wp2
          go_meet
          exact ⟨by rw [HL9.out], _, rfl⟩
    case rest =>
      obtain ⟨rfl, q, rfl⟩ := hcut
      go_upto_if 48 with fail
      go_cut [6] (fun k wx => k = .int .i64 (lead c : Int) ∧ ∃ q, wx = w.drewN q)
      case first =>
        by_cases h255 : c = 255
        · have hcb : (c == 255) = true := by rw [h255]; rfl
          have HL9 : Hid (lead c = 9) := by show _ = _; rw [h255]; rfl
          clear h255
          go_wp2
          go_meet
          exact ⟨by rw [HL9.out]; rfl, _, rfl⟩
        · have hcb : (c == 255) = false := by simpa using h255
          clear h255
          go_wp2
          go_meet
          exact ⟨rfl, _, rfl⟩
      case rest =>
        obtain ⟨rfl, q2, rfl⟩ := hcut
        by_cases hcut : t.length + 1 < lead c
        · have hd : dec (c :: t) = (0, 0, 2) := by simp only [dec]; rw [if_pos hcut]
          have hup := HUP.out
          rw [hd] at hup
          simp at hup
          have HUQ := Lib.hid hup
          clear hup HUP hd
          go_wp2_with fail
          refine (HFL.out 2 _).mono ?_
          rintro e w2 ⟨rfl, h1, h2⟩
          have H1 := Lib.hid h1
          have H2 := Lib.hid h2
          clear h1 h2
          go_wp2
          go_ret
          rw [HUQ.out]
          exact ⟨rfl, ⟨_, H1.out, fun _ => rfl⟩, (Only.drewN mb w _).trans H2.out⟩
        · have hcut' : decide ((t.length : Int) + 1 < (lead c : Int)) = false := decide_eq_false (by omega)
          generalize hN : c - mk (lead c) = N0 at *
          obtain ⟨a0, a1⟩ := lead_lim c c0 c1
          have ha2 := lim_le (lead c)
          rw [hN] at a0 a1
          have HN := Lib.hid hN
          have hrl : (t.take (lead c - 1)).length = lead c - 1 := by rw [List.length_take]; omega
          have HRL := Lib.hid hrl
          have hrng : ∀ z ∈ t.take (lead c - 1), 0 ≤ z ∧ z ≤ 255 := fun z hz => HBD.out z (List.mem_cons_of_mem _ (List.mem_of_mem_take hz))
          have HRG := Lib.hid hrng
          have hfin : 0 ≤ rd N0 (t.take (lead c - 1)) ∧ rd N0 (t.take (lead c - 1)) ≤ 18446744073709551615 := by
            obtain ⟨b1, b2⟩ := rd_bound (t.take (lead c - 1)) N0 a0 hrng
            rw [hrl] at b2
            have h1 := lim_pow _ k1 k9
            have h2 : (N0 + 1) * 256 ^ (lead c - 1) ≤ lim (lead c) * 256 ^ (lead c - 1) := Int.mul_le_mul_of_nonneg_right (by omega) (Int.pow_nonneg (by decide))
            omega
          have HF := Lib.hid hfin
          have hdec : dec (c :: t) = if sz (rd N0 (t.take (lead c - 1))) = lead c then (rd N0 (t.take (lead c - 1)), lead c, 0) else (0, 0, 3) := by
            simp only [dec]; rw [if_neg hcut, hN]
          have HD := Lib.hid hdec
          clear hN a1 ha2 hrl hrng hfin hdec
          go_upto_if 56 with fail
          go_cut [8] (fun k wx => k = .int .u64 N0 ∧ ∃ q, wx = w.drewN q)
          case first =>
            by_cases h8 : lead c < 8
            · obtain ⟨l1, l2, l3⟩ := low_byte c c0 c1 h8
              rw [HN.out] at l1
              have h8' : (lead c : Int) < 8 := by omega
              go_wp2
              go_quiet (fail)
              go_wp2
              go_meet
              exact ⟨by rw [l1], _, World.drewN_drewN _ _ _⟩
            · have h8' : decide ((lead c : Int) < 8) = false := decide_eq_false (by omega)
              have hz := high_byte c c0 c1 h8
              have HZ0 : Hid (N0 = 0) := by show _ = _; rw [← HN.out]; exact hz
              clear hz
              go_wp2
              go_meet
              exact ⟨by rw [HZ0.out], _, rfl⟩
          case rest =>
            obtain ⟨rfl, q3, rfl⟩ := hcut
            go_wp2
            go_loopg [8, 9] (lead c) (fun m n i wr => ∃ j : Nat, m = lead c - j ∧ j ≤ lead c - 1 ∧ i = .int .i64 ((j : Int) + 1) ∧ n = .int .u64 (rd N0 ((t.take (lead c - 1)).take j)) ∧ ∃ q, wr = w.drewN q)
            case atStart => exact ⟨0, by omega, by omega, rfl, rfl, _, rfl⟩
            case round =>
              obtain ⟨j, hm, hj, rfl, rfl, q4, rfl⟩ := hrel
              have HM := Lib.hid hm
              clear hm
              by_cases hlt : j < lead c - 1
              · obtain ⟨z, hzj⟩ : ∃ z, (t.take (lead c - 1))[j]? = some z := ⟨(t.take (lead c - 1))[j]'(by rw [HRL.out]; exact hlt), List.getElem?_eq_getElem _⟩
                obtain ⟨bk', off', he, _, hc'⟩ := HRW.out (j + 1) z (by rw [List.getElem?_cons_succ]; rw [List.getElem?_take_of_lt hlt] at hzj; exact hzj)
                obtain ⟨rfl, rfl⟩ : bk = bk' ∧ off = off' := by simpa using he
                obtain ⟨z0, z1⟩ := HRG.out z (List.mem_of_getElem? hzj)
                have hzs := take_next hzj
                have hsm := rd_small c c0 c1 ((t.take (lead c - 1)).take j) (fun z hz => HRG.out z (List.mem_of_mem_take hz)) (by rw [List.length_take, HRL.out]; omega)
                rw [HN.out] at hsm
                obtain ⟨s0, s1⟩ := hsm
                have HRD := Lib.hid (show rd N0 ((t.take (lead c - 1)).take (j + 1)) = rd N0 ((t.take (lead c - 1)).take j) * 256 + z by rw [hzs, rd_snoc])
                clear hzs hzj he
                generalize rd N0 ((t.take (lead c - 1)).take j) = N at *
                have hlt' : (j : Int) + 1 < (lead c : Int) := by omega
                have hlt2 : (j : Int) + 1 < (t.length : Int) + 1 := by omega
                go_wp2
                go_roundg (lead c - (j + 1))
                case measure => rw [HM.out]; omega
                case rel => exact ⟨j + 1, rfl, by omega, by go_num, by rw [HRD.out, Int.mul_comm], _, rfl⟩
              · have ht : (t.take (lead c - 1)).take j = t.take (lead c - 1) := List.take_of_length_le (by rw [HRL.out]; omega)
                rw [ht]
                clear ht
                generalize hG : rd N0 (t.take (lead c - 1)) = N at *
                clear hG
                obtain ⟨f0, f1⟩ := HF.out
                have HS := Lib.hid (rsize_any N)
                have hlt' : ¬ (j : Int) + 1 < (lead c : Int) := by omega
                generalize hS : ((sz N : Nat) : Int) = S at *
                by_cases hs : sz N = lead c
                · have hne : (S != (lead c : Int)) = false := by rw [← hS, hs]; simp
                  have hup := HUP.out
                  rw [HD.out, if_pos hs] at hup
                  simp only [if_true] at hup
                  clear hS hs
                  by_cases hmost : most < N
                  · rw [if_pos hmost] at hup
                    have HUQ := Lib.hid hup
                    clear hup
                    go_wp2_with fail
                    refine (HS.out _).mono ?_
                    rintro e w' ⟨rfl, rfl⟩
                    go_wp2_with fail
                    refine (HFL.out 5 _).mono ?_
                    rintro e w2 ⟨rfl, h1, h2⟩
                    have H1 := Lib.hid h1
                    have H2 := Lib.hid h2
                    clear h1 h2
                    go_wp2
                    go_ret
                    rw [HUQ.out]
                    exact ⟨rfl, ⟨_, H1.out, fun _ => rfl⟩, (Only.drewN mb w _).trans H2.out⟩
                  · rw [if_neg hmost] at hup
                    have HUQ := Lib.hid hup
                    clear hup
                    go_wp2_with fail
                    refine (HS.out _).mono ?_
                    rintro e w' ⟨rfl, rfl⟩
                    go_wp2
                    go_ret
                    rw [HUQ.out]
                    refine ⟨rfl, ⟨f, ?_, fun h => absurd rfl h⟩, (Only.drewN mb w _).trans (Only.set mb _ 1 _)⟩
                    have := RRd.set (HR.out.drewN (q := q4)) 1 (.int .i64 ((pos : Int) + (lead c : Int))) (pos + lead c) (by have := HTL.out; omega) 0 f (fun _ => by simp)
                    exact this
                · have hne : (S != (lead c : Int)) = true := by rw [← hS]; simp; omega
                  have hup := HUP.out
                  rw [HD.out, if_neg hs] at hup
                  simp at hup
                  have HUQ := Lib.hid hup
                  clear hS hs hup
                  go_wp2_with fail
                  refine (HS.out _).mono ?_
                  rintro e w' ⟨rfl, rfl⟩
                  go_wp2_with fail
                  refine (HFL.out 3 _).mono ?_
                  rintro e w2 ⟨rfl, h1, h2⟩
                  have H1 := Lib.hid h1
                  have H2 := Lib.hid h2
                  clear h1 h2
                  go_wp2
                  go_ret
                  rw [HUQ.out]
                  exact ⟨rfl, ⟨_, H1.out, fun _ => rfl⟩, (Only.drewN mb w _).trans H2.out⟩

theorem ruint_stopped {lo mb : Nat} {bs : List Int} {pos : Nat} {e : Int} {f : Nat} (w : World) (h : RRd w lo mb bs pos e f) (he : e ≠ 0) :
    Calls Tryd.prog 7 #[.pointer (some ⟨mb, 0, none⟩)] w fun x w' => x = .returned (.int .u64 0) ∧ w = w' := by
  have HU := Lib.hid (rupto_stopped 18446744073709551615 w h he)
  clear h he
  go_enter Tryd.func7, Tryd.ntmps7
  go_wp2_with fail
  refine HU.out.mono ?_
  rintro e w' ⟨rfl, rfl⟩
  go_wp2
  go_ret
  exact ⟨rfl, rfl⟩
theorem rint_stopped {lo mb : Nat} {bs : List Int} {pos : Nat} {e : Int} {f : Nat} (w : World) (h : RRd w lo mb bs pos e f) (he : e ≠ 0) :
    Calls Tryd.prog 9 #[.pointer (some ⟨mb, 0, none⟩)] w fun x w' => x = .returned (.int .i64 0) ∧ w = w' := by
  have HU := Lib.hid (ruint_stopped w h he)
  clear h he
  go_enter Tryd.func9, Tryd.ntmps9
  go_wp2_with fail
  refine HU.out.mono ?_
  rintro e w' ⟨rfl, rfl⟩
  go_wp2_with fail
  refine (ropen_any 0 (by decide) (by decide) _).mono ?_
  rintro e w' ⟨rfl, rfl⟩
  go_wp2
  go_ret
  exact ⟨rfl, rfl⟩
theorem ruint_any {lo mb : Nat} {bs : List Int} {pos f : Nat} (w : World) (h : RRd w lo mb bs pos 0 f) (hb : ∀ z ∈ bs, 0 ≤ z ∧ z ≤ 255) :
    Calls Tryd.prog 7 #[.pointer (some ⟨mb, 0, none⟩)] w fun e w' =>
      e = .returned (.int .u64 (upto bs pos top).1) ∧ (∃ f', RRd w' lo mb bs (upto bs pos top).2.1 (upto bs pos top).2.2 f' ∧ ((upto bs pos top).2.2 ≠ 0 → f' = (upto bs pos top).2.1)) ∧ Only mb w w' := by
  have HU := Lib.hid (rupto_any 18446744073709551615 w h hb)
  clear h hb
  rw [show (18446744073709551615 : Int) = top from rfl] at HU
  generalize upto bs pos top = U at *
  go_enter Tryd.func7, Tryd.ntmps7
  go_wp2_with fail
  refine HU.out.mono ?_
  rintro e w' ⟨rfl, h1, h2⟩
  have H1 := Lib.hid h1
  have H2 := Lib.hid h2
  clear h1 h2
  go_wp2
  go_ret
  exact ⟨rfl, H1.out, H2.out⟩
theorem rint_any {lo mb : Nat} {bs : List Int} {pos f : Nat} (w : World) (h : RRd w lo mb bs pos 0 f) (hb : ∀ z ∈ bs, 0 ≤ z ∧ z ≤ 255) :
    Calls Tryd.prog 9 #[.pointer (some ⟨mb, 0, none⟩)] w fun e w' =>
      e = .returned (.int .i64 (opn (upto bs pos top).1)) ∧ (∃ f', RRd w' lo mb bs (upto bs pos top).2.1 (upto bs pos top).2.2 f' ∧ ((upto bs pos top).2.2 ≠ 0 → f' = (upto bs pos top).2.1)) ∧ Only mb w w' := by
  have HU := Lib.hid (ruint_any w h hb)
  obtain ⟨r0, r1⟩ := upto_range (pos := pos) (most := top) hb
  clear h hb
  generalize upto bs pos top = U at *
  go_enter Tryd.func9, Tryd.ntmps9
  go_wp2_with fail
  refine HU.out.mono ?_
  rintro e w' ⟨rfl, h1, h2⟩
  have H1 := Lib.hid h1
  have H2 := Lib.hid h2
  clear h1 h2
  go_wp2_with fail
  refine (ropen_any U.1 r0 r1 _).mono ?_
  rintro e w' ⟨rfl, rfl⟩
  go_wp2
  go_ret
  exact ⟨rfl, H1.out, H2.out⟩

/-- What Bytes answers: the bytes, the place behind them, what is wrong. -/
def byts (bs : List Int) (pos : Nat) (er : Int) (n : Int) : List Int × Nat × Int :=
  if er = 0 then (if n ≤ 0 then ([], pos, 0) else if (bs.length : Int) - pos < n then ([], pos, 2) else ((bs.drop pos).take n.toNat, pos + n.toNat, 0)) else ([], pos, er)
end Go.Proofs.YtbliddmkmieppaaDoor
