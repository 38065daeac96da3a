/- The document's own answer for layer 2: Size and Number: contracts. -/
import Derived.Test.YtbliddmkmieppaaPuts
namespace Go.Proofs.Ytbliddmkmieppaa
open Go.RowKit

def m128 : Nat → Int
  | 1 => 128 | 2 => 16384 | 3 => 2097152 | 4 => 268435456 | 5 => 34359738368 | 6 => 4398046511104 | 7 => 562949953421312 | 8 => 72057594037927936 | 9 => 9223372036854775808 | _ => 0
theorem m128_next (j : Nat) (h1 : 1 ≤ j) (h8 : j ≤ 8) : m128 j * 128 = m128 (j + 1) ∧ 0 ≤ m128 j ∧ m128 j ≤ 72057594037927936 := by
  match j, h1, h8 with
  | 1, _, _ | 2, _, _ | 3, _, _ | 4, _, _ | 5, _, _ | 6, _, _ | 7, _, _ | 8, _, _ => decide
theorem m128_pos (j : Nat) : 0 ≤ m128 j := by unfold m128; split <;> omega
theorem sz_more (n : Int) (j : Nat) (h1 : 1 ≤ j) (h8 : j ≤ 8) (h : j ≤ sz n) (hm : m128 j ≤ n) : j + 1 ≤ sz n := by
  match j, h1, h8 with
  | 1, _, _ | 2, _, _ | 3, _, _ | 4, _, _ | 5, _, _ | 6, _, _ | 7, _, _ | 8, _, _ =>
    simp only [m128] at hm
    unfold sz
    (repeat' split) <;> omega
theorem sz_done (n : Int) (j : Nat) (h1 : 1 ≤ j) (h8 : j ≤ 8) (h : j ≤ sz n) (hm : n < m128 j) : sz n = j := by
  match j, h1, h8 with
  | 1, _, _ | 2, _, _ | 3, _, _ | 4, _, _ | 5, _, _ | 6, _, _ | 7, _, _ | 8, _, _ =>
    simp only [m128] at hm
    unfold sz at h ⊢
    (repeat' split) <;> (repeat' split at h) <;> omega

set_option maxRecDepth 100000 in
theorem rsize_any (n : Int) (w : World) :
    Calls Try.prog 23 #[.int .u64 n] w fun e w' => e = .returned (.int .i64 (sz n)) ∧ w = w' := by
  go_enter Try.func23, Try.ntmps23
  go_wp2
  go_loopg [3, 4] 9 (fun m k x wr => ∃ j : Nat, m = 10 - j ∧ 1 ≤ j ∧ j ≤ 9 ∧ j ≤ sz n ∧ k = .int .i64 (j : Int) ∧ x = .int .u64 (m128 j) ∧ wr = w)
  case atStart => exact ⟨1, by omega, by omega, by omega, (sz_pos n).1, rfl, rfl, rfl⟩
  case round =>
    obtain ⟨j, hm, j1, j9, hj, rfl, rfl, rfl⟩ := hrel
    have HM := Lib.hid hm
    clear hm
    by_cases hlt : j < 9
    · obtain ⟨e1, e2, e3⟩ := m128_next j j1 (by omega)
      have HE := Lib.hid e1
      clear e1
      have hlt' : (j : Int) < 9 := by omega
      by_cases hn : m128 j ≤ n
      · have hs := sz_more n j j1 (by omega) hj hn
        go_wp2
        go_roundg (10 - (j + 1))
        case measure => rw [HM.out]; omega
        case rel => exact ⟨j + 1, rfl, by omega, by omega, hs, by go_num, by rw [HE.out], rfl⟩
      · have hs := sz_done n j j1 (by omega) hj (by omega)
        have HS := Lib.hid hs
        clear hs
        go_wp2
        go_ret
        exact ⟨ret_int (by rw [HS.out]), rfl⟩
    · have h9 : j = 9 := by omega
      subst h9
      have hs : sz n = 9 := by have := sz_pos n; omega
      have HS := Lib.hid hs
      clear hs
      go_wp2
      go_ret
      exact ⟨ret_int (by rw [HS.out]), rfl⟩

theorem mk_half (i : Nat) (h : i ≤ 7) : mk (i + 1) / 2 + 128 = mk (i + 2) ∧ 0 ≤ mk (i + 1) ∧ mk (i + 1) ≤ 254 := by
  match i, h with
  | 0, _ | 1, _ | 2, _ | 3, _ | 4, _ | 5, _ | 6, _ | 7, _ => decide
theorem own_new (w : World) (B : Nat) (hB : B ≤ w.heap.size) (z : Int) : (w.alloc (.cells #[.int .u8 z] 5)).ownsRow B 5 1 (.slice (some ⟨w.heap.size, 0, none⟩) 1 1) 1 [.int .u8 z] :=
  World.ownsRow_lit w #[.int .u8 z] 1 hB (by decide) rfl

set_option maxRecDepth 100000 in
set_option maxHeartbeats 1000000 in
theorem rnumber_any (n : Int) (h0 : 0 ≤ n) (h1 : n ≤ 18446744073709551615) (w : World) :
    Calls Try.prog 7 #[.int .u64 n] w fun e w' => ∃ v', e = .returned v' ∧ Own w' w.heap.size v' (enc n) ∧ Below w.heap.size w w' := by
  obtain ⟨i0, hi, hz0, hz1, hz2⟩ := info_parts Try.infoU8
  have HI := Lib.hid hi
  have HZ0 := Lib.hid hz0
  have HZ1 := Lib.hid hz1
  have HZ2 := Lib.hid hz2
  clear hi hz0 hz1 hz2
  obtain ⟨k1, k9⟩ := sz_pos n
  go_enter Try.func7, Try.ntmps7
  go_wp2_with fail
  refine (rsize_any n _).mono ?_
  rintro e w' ⟨rfl, rfl⟩
  go_wp2
  go_loopg [4, 5, 6] (sz n) (fun m b r i wr => ∃ j : Nat, m = sz n - j ∧ j ≤ sz n ∧ i = .int .i64 (j : Int) ∧ r = .int .u64 (n / 256 ^ j) ∧ Own wr w.heap.size b (be j n) ∧ (j = 0 → b = .slice none 0 0) ∧ Below w.heap.size w wr)
  case atStart => exact ⟨0, by omega, by omega, rfl, by simp, World.ownsRow_nil _ _ _ _, fun _ => rfl, Below.refl _ _⟩
  case round =>
    obtain ⟨j, hm, hj, rfl, rfl, hown, hnil, hbel⟩ := hrel
    have HNIL := Lib.hid hnil
    clear hnil
    have HM := Lib.hid hm
    have HW := Lib.hid hown
    have HB := Lib.hid hbel
    have hsz := hbel.size
    clear hm hown hbel
    by_cases hlt : j < sz n
    · have n0 : 0 ≤ n / 256 ^ j := Int.ediv_nonneg h0 (Int.pow_nonneg (by decide))
      have n1 : n / 256 ^ j ≤ 18446744073709551615 := Int.le_trans (Int.ediv_le_self _ h0) h1
      have HQ : Hid (n / 256 ^ (j + 1) = n / 256 ^ j / 256) := by
        show _ = _
        rw [Int.pow_succ, Int.ediv_ediv_of_nonneg (Int.pow_nonneg (by decide))]
      have HE : Hid (be (j + 1) n = n / 256 ^ j % 256 :: be j n) := rfl
      generalize n / 256 ^ j = N at *
      have hlt' : (j : Int) < (sz n : Int) := by omega
      by_cases hj0 : j = 0
      · subst hj0
        obtain rfl : u4 = .slice none 0 0 := HNIL.out rfl
        go_wp2
        go_roundg (sz n - 1)
        case measure => rw [HM.out]; omega
        case rel =>
          refine ⟨1, rfl, by omega, by go_num, by rw [HQ.out], ?_, (fun h => by omega), HB.out.alloc hsz _⟩
          rw [HE.out]
          exact own_new wr w.heap.size hsz _
      · obtain ⟨g, cap, hu⟩ : ∃ g cap, u4 = .slice (some ⟨g, 0, none⟩) j cap := by
          rcases HW.out.2 with ⟨_, h⟩ | ⟨g, cap, cur, h, _⟩
          · rw [be_length] at h; omega
          · rw [be_length] at h; exact ⟨g, cap, h⟩
        subst hu
        have hcs : ∀ i u, ((be j n).map (Value.int .u8))[i]? = some u → (wr.alloc (.cells #[.int .u8 (N % 256)] 5)).cell? ((⟨g, 0, none⟩ : Addr).add i) = some u := by
          have := World.ownsRow.cells (World.ownsRow.alloc HW.out (.cells #[.int .u8 (N % 256)] 5)) (g := g) rfl
          exact this
        have HCS := Lib.hid hcs
        clear hcs
        go_wp2_with (at_builtin; refine wpList_append_own _ rfl _ _ 22 rfl w.heap.size 5 i0 (.int .u8 0) 1 1 Try.underlying22 HI.out HZ0.out HZ1.out HZ2.out rfl (by decide) _ _ _ rfl (own_new wr w.heap.size hsz _) ⟨g, 0, none⟩ j cap ((be j n).map (Value.int .u8)) rfl ?_ ?_ ?_ ?_ ?_ ?_ ?_; (rw [List.length_map, be_length]; omega); (exact HCS.out); (intro u hu; obtain ⟨x, _, rfl⟩ := List.mem_map.1 hu; rfl); (unfold maxLen; omega); (omega); (simp; omega); intro v' w4 hown4 hgrow _; have HG : Hid ((wr.alloc (.cells #[.int .u8 (N % 256)] 5)).grownBy w4 (some wr.heap.size)) := hgrow; have HO4 := Lib.hid hown4; clear hgrow hown4)
        have hW4 : Below w.heap.size w w4 := (HB.out.alloc hsz _).grown HG.out (by simp; omega) (fun k hk => by
          have := Option.some.inj hk
          omega)
        go_roundg (sz n - (j + 1))
        case measure => rw [HM.out]; omega
        case rel =>
          refine ⟨j + 1, rfl, by omega, by go_num, by rw [HQ.out], ?_, (fun h => by omega), hW4⟩
          have := HO4.out
          unfold Own
          rw [be_length, HE.out, Nat.add_comm j 1]
          exact this
    · have hjs : j = sz n := by omega
      subst hjs
      obtain ⟨g, cap, hu⟩ : ∃ g cap, u4 = .slice (some ⟨g, 0, none⟩) (sz n) cap := by
        rcases HW.out.2 with ⟨_, h⟩ | ⟨g, cap, cur, h, _⟩
        · rw [be_length] at h; omega
        · rw [be_length] at h; exact ⟨g, cap, h⟩
      subst hu
      have hO := HW.out
      unfold Own at hO
      rw [be_length] at hO
      have hg := (hO.lt g rfl).1
      obtain ⟨t0, t1⟩ := top_lim n h0 h1
      have tl := lim_le (sz n)
      have hc : wr.cell? ⟨g, 0, none⟩ = some (.int .u8 (n / 256 ^ (sz n - 1))) := by
        rw [hO.cellAt 0 (by omega)]
        obtain ⟨m, hm⟩ : ∃ m, sz n = m + 1 := ⟨sz n - 1, by omega⟩
        rw [hm] at t0 t1 tl ⊢
        rw [Nat.add_sub_cancel] at t0 t1 ⊢
        simp only [be, List.map_cons, List.getElem?_cons_zero]
        rw [Int.emod_eq_of_lt t0 (by omega)]
      have hf := hO.frozenAt 0
      have hset := fun u => hO.stored 0 u
      have HSET := Lib.hid hset
      have hpos : (0 : Int) < (sz n : Int) := by omega
      clear hO hset HNIL
      have hen : ∀ u, n / 256 ^ (sz n - 1) + mk (sz n) = u → ((be (sz n) n).map (Value.int .u8)).set 0 (.int .u8 u) = (enc n).map (Value.int .u8) := by
        rintro u rfl
        unfold enc
        rw [Int.emod_eq_of_lt t0 (by omega)]
        obtain ⟨m, hm⟩ : ∃ m, sz n = m + 1 := ⟨sz n - 1, by omega⟩
        rw [hm]
        simp [be]
      have HEN := Lib.hid hen
      clear hen
      generalize hV : n / 256 ^ (sz n - 1) = V at *
      clear hV
      by_cases h9 : sz n = 9
      · have h9b : ((sz n : Int) == 9) = true := by rw [h9]; rfl
        have HH := Lib.hid h9
        clear h9
        go_wp2
        go_ret
        refine ⟨_, rfl, ?_, HB.out.setCell hg _⟩
        have h1 := (HSET.out (.int .u8 255)).1
        rw [HEN.out 255 (by rw [HH.out] at t1 ⊢; simp only [lim] at t1; simp only [mk]; omega)] at h1
        unfold Own
        rw [enc_length]
        exact h1
      · have h9b : ((sz n : Int) == 9) = false := by rw [beq_eq_false_iff_ne]; omega
        go_wp2
        go_loopg [7, 8] (sz n) (fun m hd i wx => ∃ j : Nat, m = sz n - j ∧ j ≤ sz n - 1 ∧ i = .int .i64 (j : Int) ∧ hd = .int .i64 (mk (j + 1)) ∧ wx = wr)
        case atStart => exact ⟨0, by omega, by omega, rfl, rfl, rfl⟩
        case round =>
          obtain ⟨j, hm, hj, rfl, rfl, rfl⟩ := hrel
          have HM := Lib.hid hm
          clear hm
          by_cases hlt : j < sz n - 1
          · obtain ⟨e1, e2, e3⟩ := mk_half j (by omega)
            have HE := Lib.hid e1
            clear e1
            have hlt' : (j : Int) < (sz n : Int) - 1 := by omega
            go_wp2
            go_roundg (sz n - (j + 1))
            case measure => rw [HM.out]; omega
            case rel => exact ⟨j + 1, rfl, by omega, by go_num, by rw [HE.out], rfl⟩
          · have hjs : j + 1 = sz n := by omega
            rw [hjs]
            have hlt' : ¬ (j : Int) < (sz n : Int) - 1 := by omega
            have hmk : 0 ≤ mk (sz n) ∧ mk (sz n) ≤ 255 ∧ V + mk (sz n) ≤ 255 := by
              have := lead_top (sz n) k1 k9 V t0 t1
              obtain ⟨_, h2, h3⟩ := mk_half j (by omega)
              rw [hjs] at h2 h3
              omega
            obtain ⟨q0, q1, q2⟩ := hmk
            clear hjs
            generalize hMK : mk (sz n) = M at *
            have HMK := Lib.hid hMK
            clear hMK
            go_wp2
            go_ret
            refine ⟨_, rfl, ?_, HB.out.setCell hg _⟩
            have h1 := (HSET.out (.int .u8 (V + M))).1
            rw [HEN.out (V + M) rfl] at h1
            unfold Own
            rw [enc_length]
            exact h1
end Go.Proofs.Ytbliddmkmieppaa
