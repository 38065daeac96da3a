/- Package rle: a number of a header's line; the sides of a header: contracts. -/
import Derived.Test.YtjndfdhjipfijaaGreatDoorPh
namespace Go.Proofs.YtjndfdhjipfijaaGreatDoor
open Go.RowKit

theorem cut_from (l : List UInt8) (k : Nat) (h : k ≤ l.length) (w : World) :
    (Instr.slice 9 (.string ⟨l.toArray⟩) (some (.int .i64 (k : Int))) none none).run Tryz.prog w = .ok (.string ⟨(l.drop k).toArray⟩) w := by
  rw [run_slice_string_l w 9 _ Tryz.underlying9 .i64 (k : Int) (by omega) (by rw [mk_size]; omega), cut_mk, mk_size]
  congr 3
  rw [Int.toNat_natCast, List.take_of_length_le]
  rw [List.length_drop]; omega

set_option maxRecDepth 100000 in
set_option maxHeartbeats 1000000 in
theorem number_any (hb : Nat) (L d : List UInt8) (n : Nat) (w : World) (h : HdAt w hb L true) (hl : L.length ≤ 1000000) (hd : L.takeWhile isDig = d) (h0 : d ≠ []) (h4 : d.length ≤ 4) (hv : valL d = n) (hn : n ≤ 1024) :
    Calls Tryz.prog 46 #[.pointer (some ⟨hb, 0, none⟩)] w fun e w' => e = .returned (.int .i64 (n : Int)) ∧ HdAt w' hb (skipB (L.drop d.length)) true ∧ Oth hb w w' := by
  have hall : d.all isDig = true := by rw [← hd]; exact List.all_takeWhile
  have hdl : d.length ≤ L.length := by
    have h := congrArg List.length (List.takeWhile_append_dropWhile (p := isDig) (l := L))
    rw [List.length_append, hd] at h
    omega
  have HD : Hid (∀ w, Calls Tryz.prog 67 #[.string ⟨L.toArray⟩] w fun e w' => e = .returned (.string ⟨d.toArray⟩) ∧ Below w.heap.size w w') := fun w => by rw [← hd]; exact digits_any L w (by omega)
  have HS : Hid (∀ w, Calls Tryz.prog 68 #[.string ⟨d.toArray⟩] w fun e w' => e = .returned (.tuple #[.int .i64 (n : Int), .bool true]) ∧ Below w.heap.size w w') := fun w => pside_any d n w h0 h4 hall hv hn
  have hcut := cut_from L d.length hdl
  have hs1 := mk_size d
  have HH := Lib.hid h
  obtain ⟨c0, c1, f0, f1⟩ := h.cells
  have HSK : Hid (∀ w, HdAt w hb (L.drop d.length) true → Calls Tryz.prog 65 #[.pointer (some ⟨hb, 0, none⟩)] w fun e w' => e = .returned (.tuple #[]) ∧ HdAt w' hb (skipB (L.drop d.length)) true ∧ Oth hb w w') := fun w h => skipBlanks_any hb _ _ w h
  clear h hd h0 h4 hv hall
  have HSET : Hid (∀ w, HdAt w hb L true → HdAt (w.setCell ⟨hb, 0, none⟩ (.string ⟨(L.drop d.length).toArray⟩)) hb (L.drop d.length) true) := fun w h => h.set0 _
  have HC : Hid (∀ w, HdAt w hb L true → w.cell? ⟨hb, 0, none⟩ = some (.string ⟨L.toArray⟩) ∧ w.cell? ⟨hb, 1, none⟩ = some (.bool true) ∧ w.frozen? ⟨hb, 0, none⟩ = false ∧ w.frozen? ⟨hb, 1, none⟩ = false) := fun w h => h.cells
  generalize (⟨(L.drop d.length).toArray⟩ : ByteArray) = S2 at *
  generalize (⟨d.toArray⟩ : ByteArray) = S1 at *
  generalize (⟨L.toArray⟩ : ByteArray) = S0 at *
  go_enter Tryz.func46, Tryz.ntmps46
  go_wp2_with fail
  refine (HD.out _).mono ?_
  rintro e w1 ⟨rfl, hb1⟩
  have HH1 := Lib.hid (HH.out.later hb1)
  have HO1 := Lib.hid (Oth.of hb1 HH.out.lt)
  clear hb1 c0 c1 f0 f1
  go_wp2_with fail
  refine (HS.out _).mono ?_
  rintro e w2 ⟨rfl, hb2⟩
  have HH2 := Lib.hid (HH1.out.later hb2)
  have HO2 := Lib.hid (HO1.out.trans (Oth.of hb2 HH1.out.lt))
  clear hb2 HH1 HO1
  obtain ⟨c0, c1, f0, f1⟩ := HC.out _ HH2.out
  go_upto_region 3 with fail
  go_cut [] from 16 to 35 (fun wx => HdAt wx hb (L.drop d.length) true ∧ Oth hb w wx)
  case first =>
    go_region_with fail
    all_goals go_wp2_with fail
    all_goals go_meet
    all_goals exact ⟨(HSET.out _ HH2.out).set1 true, ((HO2.out.set 0 _).set 1 _).drew⟩
  case rest =>
  obtain ⟨h3, ho3⟩ := hcut
  have HH3 := Lib.hid h3
  have HO3 := Lib.hid ho3
  clear h3 ho3 c0 c1 f0 f1
  go_wp2_with fail
  refine (HSK.out _ HH3.out).mono ?_
  rintro e w4 ⟨rfl, h4, ho4⟩
  have HH4 := Lib.hid h4
  have HO4 := Lib.hid (HO3.out.trans ho4)
  clear h4 ho4
  go_wp2_with fail
  go_ret
  exact ⟨rfl, HH4.out, HO4.out⟩

/-! The header's words -/
theorem words_x (A : List UInt8) : ([[120], [61]] : List (List UInt8)).foldl stepW ([120, 32, 61, 32] ++ A, true) = (32 :: A, true) := rfl
theorem words_y (A : List UInt8) : ([[44], [121], [61]] : List (List UInt8)).foldl stepW ([44, 32, 121, 32, 61, 32] ++ A, true) = (32 :: A, true) := rfl
theorem words_r : ([[44], [114, 117, 108, 101], [61], [66, 51, 47, 83, 50, 51]] : List (List UInt8)).foldl stepW ([44, 32, 114, 117, 108, 101, 32, 61, 32, 66, 51, 47, 83, 50, 51], true) = ([], true) := rfl
theorem skip_dec (u : Nat) (A : List UInt8) : skipB (32 :: (Lib.decDigits u ++ A)) = Lib.decDigits u ++ A := by
  have h := side_pos u
  cases hd : Lib.decDigits u with
  | nil => exact absurd hd h
  | cons c r =>
    have hc : c ≠ 32 := fun e => (dig_not (dec_dig u c (by rw [hd]; simp))).1 (Or.inl e)
    unfold skipB
    rw [List.dropWhile_cons, if_pos (by decide), List.cons_append, List.dropWhile_cons, if_neg (by simpa using hc)]
theorem take_dec (u : Nat) (A : List UInt8) : (Lib.decDigits u ++ 44 :: A).takeWhile isDig = Lib.decDigits u := by
  rw [List.takeWhile_append_of_pos (fun c hc => dec_dig u c hc)]
  simp [show isDig 44 = false by decide]

theorem hd_new (w : World) (L : List UInt8) : HdAt (w.alloc (.cells #[.string ⟨L.toArray⟩, .bool true] 93)) w.heap.size L true := heap_alloc_new w _
theorem strs_new (w : World) (ws : List (List UInt8)) : Strs (w.alloc (.cells (ws.map fun l => Value.string ⟨l.toArray⟩).toArray 9)) w.heap.size ws := heap_alloc_new w _
theorem HdAt.mk {w : World} {hb : Nat} {L L' : List UInt8} {ok ok' : Bool} (h : HdAt w hb L ok) (e : L = L') (e' : ok = ok') : HdAt w hb L' ok' := by rw [← e, ← e']; exact h

theorem words_new (hb n : Nat) (ws : List (List UInt8)) (L : List UInt8) (w : World) (h : HdAt w hb L true) (hn : n = ws.length) (hnl : n ≤ 1000) (L' : List UInt8) (he : ws.foldl stepW (L, true) = (L', true)) (cs : Array Value) (hcs : cs = (ws.map fun l => Value.string ⟨l.toArray⟩).toArray) (nb : Nat) (hnb : nb = w.heap.size) :
    Calls Tryz.prog 45 #[.pointer (some ⟨hb, 0, none⟩), .slice (some ⟨nb, 0, none⟩) n n] (w.alloc (.cells cs 9)) fun e w' => e = .returned (.tuple #[]) ∧ HdAt w' hb (skipB L') true ∧ Oth hb w w' := by
  subst hcs hnb
  refine (words_any hb w.heap.size n n ws L true _ (h.later (bel1 _ _)) (strs_new w ws) (by have := h.lt; omega) hn hnl).mono ?_
  rintro e w' ⟨rfl, h1, ho⟩
  rw [he] at h1
  exact ⟨rfl, h1, (Oth.of (bel1 w _) h.lt).trans ho⟩

set_option maxRecDepth 100000 in
set_option maxHeartbeats 2000000 in
theorem sides_any (W H : Nat) (w : World) (hW : W ≤ 1024) (hH : H ≤ 1024) :
    Calls Tryz.prog 30 #[.string ⟨(headL W H).toArray⟩] w fun e w' => e = .returned (.tuple #[.int .i64 (W : Int), .int .i64 (H : Int), .bool true]) ∧ Below w.heap.size w w' := by
  have HW4 := Lib.hid (side_len 3 W (by omega))
  have HH4 := Lib.hid (side_len 3 H (by omega))
  have HLW := Lib.hid (headL_len W H hW hH)
  obtain ⟨W0, hW0, hd0, hb0⟩ : ∃ W0, w.alloc (.cells #[.string ⟨(headL W H).toArray⟩, .bool true] 93) = W0 ∧ HdAt W0 w.heap.size (headL W H) true ∧ Below w.heap.size w W0 := ⟨_, rfl, hd_new w _, bel1 _ _⟩
  have HW0 := Lib.hid hW0
  have HD0 := Lib.hid hd0
  have HB0 := Lib.hid hb0
  have hlt : w.heap.size < W0.heap.size := hd0.lt
  clear hW0 hd0 hb0
  generalize (⟨(headL W H).toArray⟩ : ByteArray) = S0 at *
  go_enter Tryz.func30, Tryz.ntmps30
  go_wp2_with fail
  rw [HW0.out]
  have hsz : W0.heap.size = w.heap.size + 1 := by rw [← HW0.out]; simp
  have HE0 : Hid (headL W H = [120, 32, 61, 32] ++ (Lib.decDigits W ++ 44 :: ([32, 121, 32, 61, 32] ++ (Lib.decDigits H ++ 44 :: [32, 114, 117, 108, 101, 32, 61, 32, 66, 51, 47, 83, 50, 51])))) := by show _ = _; unfold headL; simp
  refine (words_new w.heap.size 2 [[120], [61]] _ W0 (HD0.out.mk HE0.out rfl) rfl (by omega) _ (words_x _) _ rfl _ hsz.symm).mono ?_
  rintro e w1 ⟨rfl, h1, ho1⟩
  rw [skip_dec] at h1
  have HD1 := Lib.hid h1
  have HO1 : Hid (Below w.heap.size w w1) := HB0.out.trans ho1.1
  clear h1 ho1 HD0 HB0 HW0 hsz hlt
  go_wp2_with fail
  refine (number_any w.heap.size _ (Lib.decDigits W) W _ HD1.out (by have := HW4.out; have := HH4.out; simp; omega) (take_dec W _) (side_pos W) HW4.out (valL_dec W) hW).mono ?_
  rintro e w2 ⟨rfl, h2, ho2⟩
  rw [List.drop_left] at h2
  have HD2 : Hid (HdAt w2 w.heap.size ([44, 32, 121, 32, 61, 32] ++ (Lib.decDigits H ++ 44 :: [32, 114, 117, 108, 101, 32, 61, 32, 66, 51, 47, 83, 50, 51])) true) := h2
  have HO2 : Hid (Below w.heap.size w w2) := HO1.out.trans ho2.1
  clear h2 ho2 HD1 HO1
  go_wp2_with fail
  refine (words_new w.heap.size 3 [[44], [121], [61]] _ w2 HD2.out rfl (by omega) _ (words_y _) _ rfl _ rfl).mono ?_
  rintro e w3 ⟨rfl, h3, ho3⟩
  rw [skip_dec] at h3
  have HD3 := Lib.hid h3
  have HO3 : Hid (Below w.heap.size w w3) := HO2.out.trans ho3.1
  clear h3 ho3 HD2 HO2
  go_wp2_with fail
  refine (number_any w.heap.size _ (Lib.decDigits H) H _ HD3.out (by have := HH4.out; simp; omega) (take_dec H _) (side_pos H) HH4.out (valL_dec H) hH).mono ?_
  rintro e w4 ⟨rfl, h4, ho4⟩
  rw [List.drop_left] at h4
  have HD4 : Hid (HdAt w4 w.heap.size [44, 32, 114, 117, 108, 101, 32, 61, 32, 66, 51, 47, 83, 50, 51] true) := h4
  have HO4 : Hid (Below w.heap.size w w4) := HO3.out.trans ho4.1
  clear h4 ho4 HD3 HO3
  obtain ⟨c0, c1, _⟩ := HD4.out.cells
  go_wp2_with fail
  refine (words_new w.heap.size 4 [[44], [114, 117, 108, 101], [61], [66, 51, 47, 83, 50, 51]] _ w4 HD4.out rfl (by omega) _ words_r _ rfl _ rfl).mono ?_
  rintro e w5 ⟨rfl, h5, ho5⟩
  have HD5 : Hid (HdAt w5 w.heap.size [] true) := h5
  have HO5 : Hid (Below w.heap.size w w5) := HO4.out.trans ho5.1
  clear h5 ho5 HD4 HO4 c0 c1
  obtain ⟨c0, c1, _⟩ := HD5.out.cells
  go_wp2_with fail
  go_quiet (fail)
  go_wp2_with fail
  go_ret3
  exact ⟨rfl, below_drewN HO5.out _⟩
end Go.Proofs.YtjndfdhjipfijaaGreatDoor
