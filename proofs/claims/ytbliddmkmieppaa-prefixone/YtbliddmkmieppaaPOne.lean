/- The law PrefixOne: its walk. -/
import Derived.Test.YtbliddmkmieppaaLv2
import Derived.Test.YtbliddmkmieppaaCls
import Derived.Deep.RegionHeld3
import Derived.Deep.DrawnRows
import Derived.Deep.DeepCutAuto
import Derived.Lib.Strings
namespace Go.Proofs.Ytbliddmkmieppaa
open Go.RowKit
attribute [local go_sem ↓] Go.wp_at_zero Go.wp_at_succ

/-- prefix.Put(nil, n): a row of the number's bytes. -/
theorem puts_one (X : Nat) (n : Int) (h0 : 0 ≤ n) (h1 : n ≤ 18446744073709551615) (w : World) (hc : w.cell? ⟨X, 0, none⟩ = some (.int .u64 n)) :
    Calls Try.prog 12 #[.slice none 0 0, .slice (some ⟨X, 0, none⟩) 1 1] w fun e w' => ∃ a c, e = .returned (.slice a (sz n) c) ∧ Row .u8 w' w'.heap.size a (enc n) ∧ Below w.heap.size w w' := by
  have hr : Row .u64 w w.heap.size (some ⟨X, 0, none⟩) [n] := by
    intro j z hz
    match j, hz with
    | 0, hz => obtain rfl : n = z := by simpa using hz
               exact ⟨X, 0, rfl, World.block_lt_of_cell? w _ hc, hc⟩
  refine (puts_any w.heap.size none 0 [] (some ⟨X, 0, none⟩) 1 [n] w (Nat.le_refl _) (by simp) (by simp) Row.nil hr (by intro z hz; simp at hz; omega)).mono ?_
  rintro e w' ⟨v, rfl, ho, hb⟩
  rw [show ([] : List Int) ++ encs [n] = enc n by simp [encs]] at ho
  obtain ⟨a, c, rfl, _, _, hr⟩ := ho.row
  exact ⟨a, c, by rw [enc_length], hr, hb⟩

theorem cell_new1 (W : World) (v : Value) (t : TypeId) : (W.alloc (.cells #[v] t)).cell? ⟨W.heap.size, 0, none⟩ = some v := by simp
theorem size_new (W : World) (o : Obj) : W.heap.size < (W.alloc o).heap.size := by simp

set_option maxRecDepth 100000 in
set_option maxHeartbeats 1000000 in
theorem pone_great (a : Option Addr) (len cap : Nat) (n m : Int) (w : World) (hl : len ≤ 9223372036854775807) (h : 1000 < len) :
    Calls Try.prog 4 #[.slice a len cap, .int .u64 n, .int .u64 m] w fun e w' => e = .returned (.bool true) ∧ Below w.heap.size w w' := by
  go_enter Try.func4, Try.ntmps4
  go_wp2_with fail
  refine (lives2_any w).mono ?_
  rintro e w1 ⟨rfl, hb⟩
  have HB := Lib.hid hb
  clear hb
  go_wp2_with fail
  refine (lives2_any w1).mono ?_
  rintro e w2 ⟨rfl, hb⟩
  have HB2 := Lib.hid hb
  clear hb
  go_wp2
  go_ret
  exact ⟨rfl, HB.out.trans (HB2.out.mono HB.out.size)⟩

theorem after_one {w5 : World} {a5 : Option Addr} {c : Nat} {k : Int} (hr : Row .u8 w5 w5.heap.size a5 (enc k)) :
    (convert 22 9 (.slice a5 (sz k) c)).run Try.prog w5 = .ok (.string (strOfNums (enc k))) w5 ∧
    (∀ o, (convert 22 9 (.slice a5 (sz k) c)).run Try.prog (w5.alloc o) = .ok (.string (strOfNums (enc k))) (w5.alloc o)) ∧
    Hid (∀ W, Below w5.heap.size w5 W → (convert 22 9 (.slice a5 (sz k) c)).run Try.prog W = .ok (.string (strOfNums (enc k))) W) := by
  have hs : ∀ W, Below w5.heap.size w5 W → (convert 22 9 (.slice a5 (sz k) c)).run Try.prog W = .ok (.string (strOfNums (enc k))) W := by
    intro W hW
    have := str_row (hr.later hW (Nat.le_refl _)) c
    rw [enc_length] at this
    exact this
  exact ⟨hs _ (Below.refl _ _), fun o => hs _ (below_alloc1 _ o), hs⟩
theorem behind1 {wc w5 : World} {o : Obj} (hb : Below ((wc.alloc o).drew).heap.size (wc.alloc o).drew w5) : Below wc.heap.size wc w5 :=
  ((below_alloc1 wc o).drew).trans (hb.mono (show wc.heap.size ≤ (wc.alloc o).heap.size by simp))
theorem behind2 {wc w5 : World} {o o2 : Obj} (hb : Below (((wc.alloc o).alloc o2).drew).heap.size ((wc.alloc o).alloc o2).drew w5) : Below wc.heap.size wc w5 :=
  (((below_alloc1 wc o).alloc (show wc.heap.size ≤ (wc.alloc o).heap.size by simp) o2).drew).trans (hb.mono (show wc.heap.size ≤ ((wc.alloc o).alloc o2).heap.size by simp; omega))
theorem behind3 {wc w5 : World} {o : Obj} (hb : Below (wc.alloc o).heap.size (wc.alloc o) w5) : Below wc.heap.size wc w5 :=
  (below_alloc1 wc o).trans (hb.mono (by simp))
theorem cellA {wc w5 : World} {o2 : Obj} {v : Value} {t : TypeId} (hb : Below (((wc.alloc (.cells #[v] t)).alloc o2).drew).heap.size ((wc.alloc (.cells #[v] t)).alloc o2).drew w5) : w5.cell? ⟨wc.heap.size, 0, none⟩ = some v := by
  have h1 := hb.cell (p := ⟨wc.heap.size, 0, none⟩) (show wc.heap.size < ((wc.alloc (.cells #[v] t)).alloc o2).heap.size by simp; omega)
  rw [h1]
  show ((wc.alloc (.cells #[v] t)).alloc o2).cell? ⟨wc.heap.size, 0, none⟩ = some v
  simp
theorem cellB {wc w5 : World} {o : Obj} {v : Value} {t : TypeId} (hb : Below (((wc.alloc o).alloc (.cells #[v] t)).drew).heap.size ((wc.alloc o).alloc (.cells #[v] t)).drew w5) : w5.cell? ⟨wc.heap.size + 1, 0, none⟩ = some v := by
  have h1 := hb.cell (p := ⟨wc.heap.size + 1, 0, none⟩) (show wc.heap.size + 1 < ((wc.alloc o).alloc (.cells #[v] t)).heap.size by simp)
  rw [h1]
  show ((wc.alloc o).alloc (.cells #[v] t)).cell? ⟨wc.heap.size + 1, 0, none⟩ = some v
  simp
theorem bytes_inj : ∀ (l r : List Int), (∀ z ∈ l, 0 ≤ z ∧ z ≤ 255) → (∀ z ∈ r, 0 ≤ z ∧ z ≤ 255) → (l.map fun n => UInt8.ofNat n.toNat) = (r.map fun n => UInt8.ofNat n.toNat) → l = r
  | [], [], _, _, _ => rfl
  | [], _ :: _, _, _, h => by simp at h
  | _ :: _, [], _, _, h => by simp at h
  | x :: l, y :: r, hl, hr, h => by
    simp only [List.map_cons, List.cons.injEq] at h
    obtain ⟨x0, x1⟩ := hl x List.mem_cons_self
    obtain ⟨y0, y1⟩ := hr y List.mem_cons_self
    have e := congrArg UInt8.toNat h.1
    simp only [UInt8.toNat_ofNat'] at e
    rw [bytes_inj l r (fun z hz => hl z (List.mem_cons_of_mem _ hz)) (fun z hz => hr z (List.mem_cons_of_mem _ hz)) h.2]
    congr 1
    omega
theorem ret_bool {a b : Bool} (h : a = b) : Ending.returned (.bool a) = .returned (.bool b) := by rw [h]
theorem cut_same (n : Int) : (((strOfNums (enc n)).extract 0 (sz n)).toList == (strOfNums (enc n)).toList) = true := by
  rw [Lib.extract_toList, Lib.toList_data, List.drop_zero, List.take_of_length_le (by rw [strOfNums_data, List.length_map, enc_length]; omega)]
  simp
theorem cut_other (n m : Int) (n0 : 0 ≤ n) (n1 : n ≤ 18446744073709551615) (m0 : 0 ≤ m) (m1 : m ≤ 18446744073709551615) (h : n ≠ m) : (((strOfNums (enc m)).extract 0 (sz n)).toList == (strOfNums (enc n)).toList) = false := by
  rw [Lib.extract_toList, Lib.toList_data, List.drop_zero, Nat.sub_zero, strOfNums_data, strOfNums_data, ← List.map_take]
  rw [beq_eq_false_iff_ne]
  intro he
  have := bytes_inj _ _ (fun z hz => enc_range m m0 m1 z (List.mem_of_mem_take hz)) (enc_range n n0 n1) he
  exact h (enc_prefix n m n0 n1 m0 m1 (by rw [enc_length]; exact this))
/-- What is known behind prefix.Put in the law's test. -/
theorem after_put {w w3 w5 : World} {rb q4 : Nat} {bs : List Int} {cnt cap c5 : Nat} {k : Int} {A a5 : Option Addr} {o : Obj} (hw3 : Below w.heap.size w w3) (hrd : Rdr w3 rb bs cnt 0)
    (hcv : ∀ W, Below w.heap.size w W → (convert 22 9 (.slice A cnt cap)).run Try.prog W = .ok (.string (strOfNums (enc k))) W)
    (hr : Row .u8 w5 w5.heap.size a5 (enc k)) (hb : Below ((w3.drewN (1 + q4)).alloc o).heap.size ((w3.drewN (1 + q4)).alloc o) w5) :
    (convert 22 9 (.slice a5 (sz k) c5)).run Try.prog w5 = .ok (.string (strOfNums (enc k))) w5 ∧
    (∀ q, (convert 22 9 (.slice a5 (sz k) c5)).run Try.prog (w5.drewN q) = .ok (.string (strOfNums (enc k))) (w5.drewN q)) ∧
    (convert 22 9 (.slice A cnt cap)).run Try.prog w5 = .ok (.string (strOfNums (enc k))) w5 ∧
    (∀ q, (convert 22 9 (.slice A cnt cap)).run Try.prog (w5.drewN q) = .ok (.string (strOfNums (enc k))) (w5.drewN q)) ∧
    Hid (Rdr w5 rb bs cnt 0) ∧ Hid (Below w.heap.size w w5) := by
  have hb1 : Below w3.heap.size w3 w5 := (below_drewN (Below.refl _ w3) (1 + q4)).trans (((below_alloc1 (w3.drewN (1 + q4)) o).mono (Nat.le_refl _)).trans (hb.mono (by simp)))
  have hb2 : Below w.heap.size w w5 := hw3.trans (hb1.mono hw3.size)
  have hs := fun W (h : Row .u8 W W.heap.size a5 (enc k)) => str_row h c5
  rw [enc_length] at hs
  exact ⟨hs _ hr, fun q => hs _ hr.drewN, hcv _ hb2, fun q => hcv _ (below_drewN hb2 q), hrd.keep (hb1.mono hrd.lt), hb2⟩

set_option maxRecDepth 100000 in
set_option maxHeartbeats 4000000 in
theorem pone_small (a : Option Addr) (cap : Nat) (bs : List Int) (n m : Int) (n0 : 0 ≤ n) (n1 : n ≤ 18446744073709551615) (m0 : 0 ≤ m) (m1 : m ≤ 18446744073709551615) (w : World) (hl : bs.length ≤ 1000) (hcap : bs.length ≤ cap) (hcap2 : cap ≤ 9223372036854775807)
    (hr : Row .u8 w w.heap.size a bs) (hb : ∀ z ∈ bs, 0 ≤ z ∧ z ≤ 255) :
    Calls Try.prog 4 #[.slice a bs.length cap, .int .u64 n, .int .u64 m] w fun e w' => e = .returned (.bool true) ∧ Below w.heap.size w w' := by
  have hdl : decide ((1000 : Int) < (bs.length : Int)) = false := decide_eq_false (by omega)
  have HR := Lib.hid hr
  have HBB := Lib.hid hb
  clear hr hb
  go_enter Try.func4, Try.ntmps4
  go_wp2_with fail
  refine (lives2_any w).mono ?_
  rintro e w1 ⟨rfl, hb⟩
  have HW1 := Lib.hid hb
  clear hb
  go_wp2_with fail
  refine (read_any w.heap.size a cap bs w1 (by omega) (HR.out.later HW1.out (Nat.le_refl _))).mono ?_
  rintro e w2 ⟨rb, rfl, hge, hrd, hb, hsz⟩
  have hge' : w.heap.size ≤ rb := by have := HW1.out.size; omega
  have HW2 := Lib.hid (HW1.out.trans (hb.mono HW1.out.size))
  have HRD := Lib.hid hrd
  clear hge hrd hb hsz
  go_wp2_with fail
  refine (uint_any w2 HRD.out HBB.out).mono ?_
  rintro e w3 ⟨rfl, hrd, hon⟩
  have HW3 := Lib.hid (HW2.out.trans (hon.below hge'))
  have HRD3 := Lib.hid hrd
  clear hrd hon HRD HW2
  have hfact : (upto bs 0 top).2.2 = 0 → bs.take (upto bs 0 top).2.1 = enc (upto bs 0 top).1 ∧ (upto bs 0 top).2.1 ≤ bs.length ∧ 0 ≤ (upto bs 0 top).1 ∧ (upto bs 0 top).1 ≤ 18446744073709551615 ∧ (upto bs 0 top).2.1 = sz (upto bs 0 top).1 := by
    have hdec := dec_range bs HBB.out
    intro h
    unfold upto top at h ⊢
    rw [List.drop_zero] at h ⊢
    by_cases h' : (dec bs).2.2 = 0
    · rw [if_pos h', if_neg (by omega), Nat.zero_add]
      obtain ⟨e1, e2, e3, e4, e5⟩ := enc_dec bs HBB.out (dec bs).1 (dec bs).2.1 (Prod.ext rfl (Prod.ext rfl h'))
      exact ⟨e1, e3, e4, e5, e2⟩
    · rw [if_neg h'] at h; exact absurd h h'
  have HF := Lib.hid hfact
  clear hfact
  generalize upto bs 0 top = U at *
  obtain ⟨k, cnt, er⟩ := U
  simp only at HF HRD3 ⊢
  go_upto_region 5 with fail
  go_cut [41] (fun s wx => s = .bool false ∧ Below w.heap.size w wx)
  case first =>
    by_cases he : er = 0
    · subst he
      obtain ⟨e1, e2, e3, e4, e5⟩ := HF.out rfl
      have HE1 := Lib.hid e1
      have HSZ := Lib.hid e5
      clear e1 e5
      have hls : (strOfNums (enc k)).size = (strOfNums (enc k)).size := rfl
      obtain ⟨A, hA, hArow⟩ : ∃ A, (∀ W, (Instr.slice 22 (.slice a bs.length cap) none (some (.int .i64 (cnt : Int))) none).run Try.prog W = .ok (.slice A cnt cap) W) ∧ Row .u8 w w.heap.size A (enc k) := by
        refine ⟨a, fun W => ?_, ?_⟩
        · rw [run_slice_h (P := Try.prog) (w := W) 22 _ _ _ Try.underlying22 .i64 (cnt : Int) (by omega) (by omega), show Try.prog.elem 22 = 5 by kernel_rfl, Try.sizeOf5]
          by_cases hc0 : cap = 0
          · simp [Result.andThen, sliced, hc0]
          · cases a with
            | none => simp [Result.andThen, sliced]
            | some ad => simp [Result.andThen, sliced, hc0, Addr.add]
        · rw [← HE1.out]
          intro j z hz
          have hj : j < cnt := by have := (List.getElem?_eq_some_iff.1 hz).1; rw [List.length_take] at this; omega
          rw [List.getElem?_take_of_lt hj] at hz
          exact HR.out j z hz
      have HAR := Lib.hid hArow
      clear hArow
      have hcv : ∀ W, Below w.heap.size w W → (convert 22 9 (.slice A cnt cap)).run Try.prog W = .ok (.string (strOfNums (enc k))) W := by
        intro W hW
        rw [HSZ.out]
        have := str_row (HAR.out.later hW (Nat.le_refl _)) cap
        rw [enc_length] at this
        exact this
      have HCV := Lib.hid hcv
      clear hcv
      have hsub : IntKind.i64.wrap ((bs.length : Int) - ((bs.length : Int) - (cnt : Int))) = (cnt : Int) := by
        rw [show (bs.length : Int) - ((bs.length : Int) - (cnt : Int)) = (cnt : Int) by omega]; exact IntWalk.i64_in _ (by omega)
      clear hls
      go_region_with (first
        | (go_at_call 19; refine (err_none w3.drew HRD3.out).mono ?_; rintro e w4 ⟨rfl, q4, rfl⟩)
        | (go_at_call 12; refine (puts_one w3.heap.size k e3 e4 _ ?_).mono ?_; (exact cell_new1 _ _ _); rintro e w5 ⟨a5, c5, rfl, hr5, hb5⟩; obtain ⟨p1, p2, p3, p4, HRD5, HB5⟩ := after_put (c5 := c5) HW3.out HRD3.out HCV.out hr5 hb5; clear hb5 hr5)
        | (go_at_call 18; refine (left_any w5 HRD5.out).mono ?_; rintro e w6 ⟨rfl, q6, rfl⟩))
      all_goals go_wp2_with fail
      all_goals go_meet
      all_goals first | exact ⟨rfl, below_drewN HB5.out _⟩ | (refine ⟨?_, below_drewN HB5.out _⟩; simp)
    · have HE := Lib.hid (err_some he w3.drew HRD3.out)
      refine wp_region_any (by kernel_rfl) ?_
      refine wpAny_take (i := 0) (v := ?_) rfl (by kernel_rfl) (by kernel_rfl) (by kernel_rfl) (fun _ _ _ h => h) (Or.inl ⟨by rfl, ?_⟩) ?_
      rotate_left
      · intro w; go_simp; first | done | rfl
      simp only [Act.put, List.setIfInBounds_toArray]
      refine wpAny_ready (rs := [1]) (by kernel_rfl) (by simp) ?_
      refine AllReady.cons rfl (fun K hK => ?_) AllReady.nil
      go_simp
      refine HE.out.mono ?_
      rintro e w4 ⟨rfl, q, hw4⟩
      refine hK _ _ ?_
      clear hK K
      have HW4 : Hid (Below w.heap.size w w4) := by
        show Below w.heap.size w w4
        rw [hw4]
        exact below_drewN (HW3.out.drew.alloc HW3.out.size _) _
      clear hw4
      try simp only [Act.put, List.setIfInBounds_toArray, List.set_cons_zero, List.set_cons_succ]
      refine rest_cls (fun w' => ∃ q, w' = w4.drewN q) 2 (by kernel_rfl) rfl (by kernel_rfl) ⟨0, rfl⟩ ?_
      simp only [List.drop_succ_cons, List.drop_zero]
      repeat (go_big_quiet_step (fail))
      refine wpQuiet_nil ?_
      rintro w5 ⟨q', rfl⟩
      go_wp2_with fail
      go_meet
      exact ⟨rfl, below_drewN HW4.out _⟩
  case rest =>
    obtain ⟨rfl, hb⟩ := hcut
    have HWC := Lib.hid hb
    clear hb HRD3 HW3 HF
    go_upto_region 7 with fail
    go_cut [9, 10] (fun x y wx => x = .string (strOfNums (enc n)) ∧ y = .string (strOfNums (enc m)) ∧ Below w.heap.size w wx)
    case first =>
      go_region_with (first
        | (go_at_call 12; refine (puts_one _ n n0 n1 _ ?_).mono ?_; (focus (simp; done)); rintro e w5 ⟨a5, c5, rfl, hr5, hb5⟩; (try (have hm1 := cellA hb5)); (try (have hm2 := cellB hb5)); obtain ⟨p1, p2, HN⟩ := after_one (c := c5) hr5; have HB5 : Hid (Below wc.heap.size wc w5) := (by first | exact behind1 hb5 | exact behind2 hb5); clear hb5 hr5)
        | (go_at_call 12; refine (puts_one _ m m0 m1 _ ?_).mono ?_; (focus (first | (simp; done) | (simp [hm1]; done) | (simp [hm2]; done))); rintro e w6 ⟨a6, c6, rfl, hr6, hb6⟩; obtain ⟨p3, _, _⟩ := after_one (c := c6) hr6; have p4 := HN.out _ (by first | exact hb6 | exact behind3 hb6); have HB6 : Hid (Below w.heap.size w w6) := (by first | exact (HWC.out.trans (HB5.out.mono HWC.out.size)).trans (hb6.mono (Nat.le_trans HWC.out.size HB5.out.size)) | exact (HWC.out.trans (HB5.out.mono HWC.out.size)).trans ((behind3 hb6).mono (Nat.le_trans HWC.out.size HB5.out.size))); clear hb6 hr6))
      all_goals go_wp2_with fail
      all_goals go_meet
      all_goals exact ⟨rfl, rfl, HB6.out⟩
    case rest =>
      obtain ⟨rfl, rfl, hb⟩ := hcut
      have HWD := Lib.hid hb
      clear hb HWC
      obtain ⟨x1, x9⟩ := sz_pos n
      obtain ⟨y1, y9⟩ := sz_pos m
      have hxs : (strOfNums (enc n)).size = sz n := by rw [strOfNums_size, enc_length]
      have hys : (strOfNums (enc m)).size = sz m := by rw [strOfNums_size, enc_length]
      by_cases hnm : n = m
      · subst hnm
        have he := cut_same n
        generalize strOfNums (enc n) = X at *
        go_wp2
        go_ret
        exact ⟨ret_bool (decide_eq_true (by omega)), HWD.out⟩
      · have hnb : (n == m) = false := by simpa using hnm
        have hcut := cut_other n m n0 n1 m0 m1 hnm
        generalize strOfNums (enc n) = X at *
        generalize strOfNums (enc m) = Y at *
        by_cases hle : sz n ≤ sz m
        · go_wp2
          go_ret
          exact ⟨ret_bool (decide_eq_true (by omega)), HWD.out⟩
        · have hle' : decide (sz n ≤ sz m) = false := decide_eq_false hle
          go_wp2
          go_ret
          exact ⟨ret_bool (decide_eq_true (by omega)), HWD.out⟩
end Go.Proofs.Ytbliddmkmieppaa
