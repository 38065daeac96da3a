/- prefix.take: the number that bytes begin with: its contract. -/
import Derived.Test.YtbliddmkmieppaaDoorPuts
import Derived.Deep.QuietTactic
import Derived.BigQuiet
import Derived.Deep.Draws
namespace Go.Proofs.YtbliddmkmieppaaDoor
open Go.RowKit

theorem not_u8 : ∀ c : Fin 256, bits .xor .u8 IntKind.u8.max (c.val : Int) = 255 - (c.val : Int) := by decide +kernel
theorem clear_u8 : ∀ c : Fin 256, bits .andNot .u8 (c.val : Int) (mk (lead (c.val : Int))) = (c.val : Int) - mk (lead (c.val : Int)) := by decide +kernel
theorem not_byte (c : Int) (h0 : 0 ≤ c) (h1 : c ≤ 255) : bits .xor .u8 IntKind.u8.max c = 255 - c := by
  have := not_u8 ⟨c.toNat, by omega⟩
  simpa [Int.toNat_of_nonneg h0] using this
theorem clear_byte (c : Int) (h0 : 0 ≤ c) (h1 : c ≤ 255) : bits .andNot .u8 c (mk (lead c)) = c - mk (lead c) := by
  have := clear_u8 ⟨c.toNat, by omega⟩
  simpa [Int.toNat_of_nonneg h0] using this
theorem lead_byte (c : Int) (h0 : 0 ≤ c) (h1 : c ≤ 255) : 8 - (Lib.bitLen (255 - c).toNat : Int) + 1 = (lead c : Int) := by
  have := lead_bits ⟨c.toNat, by omega⟩
  simp only [Int.toNat_of_nonneg h0] at this
  rw [this, show (255 - c).toNat = 255 - c.toNat by omega]; omega
theorem or_low (N z : Int) (h0 : 0 ≤ N) (h1 : N ≤ 72057594037927935) (z0 : 0 ≤ z) (z1 : z ≤ 255) : bits .or .u64 (N * 256) z = N * 256 + z := by
  rw [u64_or (N * 256) z (by omega) (by omega) z0 (by omega)]
  obtain ⟨M, rfl⟩ := Int.eq_ofNat_of_zero_le h0
  obtain ⟨y, rfl⟩ := Int.eq_ofNat_of_zero_le z0
  have h := Nat.shiftLeft_add_eq_or_of_lt (b := y) (i := 8) (by omega) M
  rw [Nat.shiftLeft_eq] at h
  have e : ((M : Int) * 256).toNat = M * 2 ^ 8 := by omega
  rw [e, Int.toNat_natCast, ← h]
  omega
theorem rd_small (c : Int) (h0 : 0 ≤ c) (h1 : c ≤ 255) (l : List Int) (hl : ∀ z ∈ l, 0 ≤ z ∧ z ≤ 255) (hn : l.length + 2 ≤ lead c) : 0 ≤ rd (c - mk (lead c)) l ∧ rd (c - mk (lead c)) l ≤ 72057594037927935 := by
  obtain ⟨p, q⟩ := lead_pos c
  obtain ⟨a, b⟩ := lead_lim c h0 h1
  obtain ⟨b1, b2⟩ := rd_bound l (c - mk (lead c)) a hl
  have h3 := lim_pow _ p q
  have h4 : (c - mk (lead c) + 1) * 256 ^ l.length ≤ lim (lead c) * 256 ^ (lead c - 2) := by
    refine Int.le_trans (Int.mul_le_mul_of_nonneg_right (show c - mk (lead c) + 1 ≤ lim (lead c) by omega) (Int.pow_nonneg (by decide))) ?_
    refine Int.mul_le_mul_of_nonneg_left ?_ (by have := lim_le (lead c); omega)
    have h6 : ((256 ^ l.length : Nat) : Int) ≤ ((256 ^ (lead c - 2) : Nat) : Int) := Int.ofNat_le.2 (Nat.pow_le_pow_right (by decide) (by omega))
    rw [Int.natCast_pow, Int.natCast_pow] at h6
    exact h6
  have h5 : lim (lead c) * 256 ^ (lead c - 1) = lim (lead c) * 256 ^ (lead c - 2) * 256 := by
    rw [show lead c - 1 = (lead c - 2) + 1 by omega, Int.pow_succ, Int.mul_assoc]
  omega

/-- A contract that leaves the world alone, or only draws, inside a region that draws. -/
theorem quietly {P : Program} {f : FuncId} {args : Array Value} {v : Value} (h : ∀ w, Calls P f args w fun e w' => e = .returned v ∧ w = w') (w : World) (x : Nat) :
    Calls P f args (w.drewN x) fun e w'' => e = .returned v ∧ ∃ m, w'' = w.drewN m :=
  (h _).mono fun _ _ ⟨he, hm⟩ => ⟨he, x, hm.symm⟩
theorem quietlyN {P : Program} {f : FuncId} {args : Array Value} {v : Value} {w : World} (h : ∀ x, Calls P f args (w.drewN x) fun e w' => e = .returned v ∧ ∃ q, w' = (w.drewN x).drewN q) (x : Nat) :
    Calls P f args (w.drewN x) fun e w'' => e = .returned v ∧ ∃ m, w'' = w.drewN m :=
  (h _).mono fun _ _ ⟨he, _, hm⟩ => ⟨he, _, hm.trans (World.drewN_drewN _ _ _)⟩
theorem Row.drewN {k : IntKind} {w : World} {B : Nat} {a : Option Addr} {zs : List Int} (h : Row k w B a zs) {q : Nat} : Row k (w.drewN q) B a zs := h

/-- What take answers, as a value. -/
def decV (bs : List Int) : Value := .tuple #[.int .u64 (dec bs).1, .int .i64 ((dec bs).2.1 : Int), .int .i64 (dec bs).2.2]

set_option maxRecDepth 100000 in
set_option maxHeartbeats 1000000 in
theorem take_any (B : Nat) (a : Option Addr) (cap : Nat) (bs : List Int) (w : World) (hl : bs.length ≤ 1000000000) (hcap : bs.length ≤ cap) (hcap2 : cap ≤ 9223372036854775807) (hr : Row .u8 w B a bs) (hb : ∀ z ∈ bs, 0 ≤ z ∧ z ≤ 255) :
    Calls Tryd.prog 24 #[.slice a bs.length cap] w fun e w' => e = .returned (decV bs) ∧ ∃ q, w' = w.drewN q := by
  match bs, hl, hcap, hr, hb with
  | [], _, _, _, _ =>
    go_enter Tryd.func24, Tryd.ntmps24
    go_wp2
    go_ret3
    exact ⟨rfl, 0, rfl⟩
  | c :: r, hl, hcap, hr, hb =>
    obtain ⟨bk, off, rfl, _, hc⟩ := hr 0 c rfl
    rw [Nat.add_zero] at hc
    obtain ⟨c0, c1⟩ := hb c List.mem_cons_self
    have hx := not_byte c c0 c1
    have HLD := Lib.hid (lead_byte c c0 c1)
    obtain ⟨k1, k9⟩ := lead_pos c
    have hlen : ((c :: r).length : Int) = (r.length : Int) + 1 := by simp
    have hbl : Lib.bitLen (255 - c).toNat ≤ 8 := by have := HLD.out; omega
    rw [List.length_cons] at *
    clear hlen
    have hlz : Calls Tryd.prog 31 #[.int .u8 (255 - c)] w fun e w' => e = .returned (.int .i64 ((lead c : Int) - 1)) ∧ w = w' := by
      refine (Tryd.bits_LeadingZeros8 (255 - c) w (by omega) (by omega)).mono ?_
      rintro e w' ⟨rfl, rfl⟩
      exact ⟨ret_int (by have := HLD.out; omega), rfl⟩
    have HLZ := Lib.hid hlz
    have HR := Lib.hid hr
    have HBR := Lib.hid hb
    clear hlz hr hb hbl
    by_cases hcut : r.length + 1 < lead c
    · have hd : dec (c :: r) = (0, 0, 2) := by simp only [dec]; rw [if_pos hcut]
      have HD := Lib.hid hd
      clear hd
      go_enter Tryd.func24, Tryd.ntmps24
      go_wp2_with fail
      refine HLZ.out.mono ?_
      rintro e w' ⟨rfl, rfl⟩
      go_wp2
      go_ret3
      exact ⟨by unfold decV; rw [HD.out]; rfl, 0, rfl⟩
    · have hcut' : decide ((r.length : Int) + 1 < (lead c : Int)) = false := decide_eq_false (by omega)
      have hcl := clear_byte c c0 c1
      generalize hN : c - mk (lead c) = N0 at *
      obtain ⟨a0, a1⟩ := lead_lim c c0 c1
      have ha2 := lim_le (lead c)
      rw [hN] at a0 a1
      have hw0 : IntKind.u64.wrap N0 = N0 := by rw [IntKind.wrap_u64]; omega
      have HN := Lib.hid hN
      have hrl : (r.take (lead c - 1)).length = lead c - 1 := by rw [List.length_take]; omega
      have HRL := Lib.hid hrl
      have hrng : ∀ z ∈ r.take (lead c - 1), 0 ≤ z ∧ z ≤ 255 := fun z hz => HBR.out z (List.mem_cons_of_mem _ (List.mem_of_mem_take hz))
      have HRG := Lib.hid hrng
      have hfin : 0 ≤ rd N0 (r.take (lead c - 1)) ∧ rd N0 (r.take (lead c - 1)) ≤ 18446744073709551615 := by
        obtain ⟨b1, b2⟩ := rd_bound (r.take (lead c - 1)) N0 a0 hrng
        rw [hrl] at b2
        have h1 := lim_pow _ k1 k9
        have h2 : (N0 + 1) * 256 ^ (lead c - 1) ≤ lim (lead c) * 256 ^ (lead c - 1) := Int.mul_le_mul_of_nonneg_right (by omega) (Int.pow_nonneg (by decide))
        omega
      have HF := Lib.hid hfin
      have hdec : dec (c :: r) = if sz (rd N0 (r.take (lead c - 1))) = lead c then (rd N0 (r.take (lead c - 1)), lead c, 0) else (0, 0, 3) := by
        simp only [dec]; rw [if_neg hcut, hN]
      have HD := Lib.hid hdec
      clear hN a1 ha2 hrl hrng hfin hdec
      by_cases hcap1 : cap = 1
      · subst hcap1
        have hr0 : r = [] := List.eq_nil_of_length_eq_zero (by omega)
        subst hr0
        have hk1 : lead c = 1 := by simp at hcut; omega
        have HH := Lib.hid hk1
        rw [hk1] at hcut' hcl HLZ
        clear hk1
        go_enter Tryd.func24, Tryd.ntmps24
        go_wp2_with fail
        refine HLZ.out.mono ?_
        rintro e w' ⟨rfl, rfl⟩
        go_wp2
        go_quiet ((go_at_call 32; exact quietly (mark_any 1 (by decide) (by decide)) _ _))
        go_wp2
        go_loopg [2, 31] 0 (fun m n i wr => m = 0 ∧ i = .int .i64 0 ∧ n = .int .u64 N0 ∧ ∃ q, wr = w.drewN q)
        case atStart => exact ⟨rfl, rfl, rfl, _, rfl⟩
        case round =>
          obtain ⟨_, rfl, rfl, q, rfl⟩ := hrel
          have hF := HF.out
          have hD := HD.out
          simp only [List.take_nil, rd] at hF hD
          have HD' := Lib.hid hD
          clear hD
          obtain ⟨f0, f1⟩ := hF
          have HS := Lib.hid (size_any N0 f0 f1)
          generalize hS : ((sz N0 : Nat) : Int) = S at *
          by_cases hs : sz N0 = lead c
          · have hne : (S != 1) = false := by rw [← hS, hs, HH.out]; simp
            have HSS := Lib.hid hs
            clear hS hs
            go_wp2_with fail
            refine (HS.out _).mono ?_
            rintro e w' ⟨rfl, rfl⟩
            go_wp2
            go_ret3
            exact ⟨by unfold decV; rw [HD'.out, if_pos HSS.out, HH.out]; rfl, _, rfl⟩
          · have hne : (S != 1) = true := by rw [← hS]; rw [HH.out] at hs; simp; omega
            have HSS := Lib.hid hs
            clear hS hs
            go_wp2_with fail
            refine (HS.out _).mono ?_
            rintro e w' ⟨rfl, rfl⟩
            go_wp2
            go_ret3
            exact ⟨by unfold decV; rw [HD'.out, if_neg HSS.out]; rfl, _, rfl⟩
      · go_enter Tryd.func24, Tryd.ntmps24
        go_wp2_with fail
        refine HLZ.out.mono ?_
        rintro e w' ⟨rfl, rfl⟩
        go_wp2
        go_quiet ((go_at_call 32; exact quietly (mark_any _ k1 k9) _ _))
        go_wp2
        go_loopg [2, 31] (lead c) (fun m n i wr => ∃ j : Nat, m = lead c - j ∧ j ≤ lead c - 1 ∧ i = .int .i64 j ∧ n = .int .u64 (rd N0 ((r.take (lead c - 1)).take j)) ∧ ∃ q, wr = w.drewN q)
        case atStart => exact ⟨0, by omega, by omega, rfl, rfl, _, rfl⟩
        case round =>
          obtain ⟨j, hm, hj, rfl, rfl, q, rfl⟩ := hrel
          have HM := Lib.hid hm
          clear hm
          by_cases hlt : j < lead c - 1
          · obtain ⟨z, hzj⟩ : ∃ z, (r.take (lead c - 1))[j]? = some z := ⟨(r.take (lead c - 1))[j]'(by rw [HRL.out]; exact hlt), List.getElem?_eq_getElem _⟩
            obtain ⟨bk', off', he, _, hc'⟩ := HR.out (j + 1) z (by rw [List.getElem?_cons_succ]; rw [List.getElem?_take_of_lt hlt] at hzj; exact hzj)
            obtain ⟨rfl, rfl⟩ : bk = bk' ∧ off = off' := by simpa using he
            obtain ⟨z0, z1⟩ := HRG.out z (List.mem_of_getElem? hzj)
            have hzs := take_next hzj
            have hsm := rd_small c c0 c1 ((r.take (lead c - 1)).take j) (fun z hz => HRG.out z (List.mem_of_mem_take hz)) (by rw [List.length_take, HRL.out]; omega)
            rw [HN.out] at hsm
            obtain ⟨s0, s1⟩ := hsm
            have HRD := Lib.hid (show rd N0 ((r.take (lead c - 1)).take (j + 1)) = rd N0 ((r.take (lead c - 1)).take j) * 256 + z by rw [hzs, rd_snoc])
            rw [show off + (j + 1) = off + 1 + j by omega] at hc'
            clear hzs hzj he
            generalize rd N0 ((r.take (lead c - 1)).take j) = N at *
            have hor := or_low N z s0 s1 z0 z1
            go_wp2
            go_roundg (lead c - (j + 1))
            case measure => rw [HM.out]; omega
            case rel => exact ⟨j + 1, rfl, by omega, by go_num, by rw [HRD.out], _, rfl⟩
          · have ht : (r.take (lead c - 1)).take j = r.take (lead c - 1) := List.take_of_length_le (by rw [HRL.out]; omega)
            rw [ht]
            clear ht
            generalize hG : rd N0 (r.take (lead c - 1)) = N at *
            have HG := Lib.hid hG
            clear hG
            obtain ⟨f0, f1⟩ := HF.out
            have HS := Lib.hid (size_any N f0 f1)
            generalize hS : ((sz N : Nat) : Int) = S at *
            by_cases hs : sz N = lead c
            · have hne : (S != (lead c : Int)) = false := by rw [← hS, hs]; simp
              have HSS := Lib.hid hs
              clear hS hs
              go_wp2_with fail
              refine (HS.out _).mono ?_
              rintro e w' ⟨rfl, rfl⟩
              go_wp2
              go_ret3
              exact ⟨by unfold decV; rw [HD.out, if_pos HSS.out]; rfl, _, rfl⟩
            · have hne : (S != (lead c : Int)) = true := by rw [← hS]; simp; omega
              have HSS := Lib.hid hs
              clear hS hs
              go_wp2_with fail
              refine (HS.out _).mono ?_
              rintro e w' ⟨rfl, rfl⟩
              go_wp2
              go_ret3
              exact ⟨by unfold decV; rw [HD.out, if_neg HSS.out]; rfl, _, rfl⟩
end Go.Proofs.YtbliddmkmieppaaDoor
