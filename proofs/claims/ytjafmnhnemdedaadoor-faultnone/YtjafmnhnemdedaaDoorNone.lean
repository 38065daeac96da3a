/- The law FaultNone: its walk: for every text, number and row of bytes the call returns true and changes nothing that was there. -/
import Derived.Test.YtjafmnhnemdedaaDoorLives
import Derived.Deep.DeepMust
namespace Go.Proofs.YtjafmnhnemdedaaDoor
open Go.RowKit Go.Extern.Stop Go.Stop Go.Extern

/-- The first number that isn't 0, of bytes as the law takes them. -/
def firstN : List Int → Int
  | [] => 0
  | z :: r => if z % 12 = 0 then firstN r else z % 12
theorem firstN_snoc (l : List Int) (z : Int) : firstN (l ++ [z]) = if firstN l = 0 then z % 12 else firstN l := by
  induction l with
  | nil => simp only [List.nil_append, firstN, if_true]; split <;> simp_all
  | cons y r ih =>
    simp only [List.cons_append, firstN]
    by_cases h : y % 12 = 0
    · simp only [h, if_true]; exact ih
    · simp only [h, if_false]
theorem firstV_ofNum (l : List Int) : firstV (l.map fun z => ofNum (z % 12)) = ofNum (firstN l) := by
  induction l with
  | nil => simp [firstV, firstN, ofNum]
  | cons y r ih =>
    by_cases h : y % 12 = 0
    · have e : ofNum (y % 12) = .nilIface := by simp [ofNum, h]
      simp only [List.map_cons, firstN, h, if_true]; exact ih
    · have e : ofNum (y % 12) = .iface 24 (.int .i64 (y % 12)) := by simp [ofNum, h]
      simp only [List.map_cons, e, firstV, firstN, h, if_false]
theorem ofNum_shape (c : Int) : ofNum c = .nilIface ∨ ∃ T y, ofNum c = .iface T y := by
  unfold ofNum; split
  · exact Or.inl rfl
  · exact Or.inr ⟨_, _, rfl⟩
theorem code_of (c : Int) (w : World) (hg : TypeLaid w) :
    Calls Tryd.prog 9 #[ofNum c] w fun e w' => e = .returned (.int .i64 c) ∧ Below w.heap.size w w' := by
  by_cases h : c = 0
  · subst h
    refine (code_nil w).mono ?_
    rintro e w' ⟨rfl, rfl⟩
    exact ⟨rfl, Below.refl _ _⟩
  · have e : ofNum c = .iface 24 (.int .i64 c) := by simp [ofNum, h]
    rw [e]
    exact code_num c [] _ w hg rfl
theorem heap_new (w : World) (cs : Array Value) (t : TypeId) : (w.alloc (.cells cs t)).heap[w.heap.size]? = some (.cells cs t (0, 0)) := by
  show (w.heap.push _)[w.heap.size]? = _
  simp
/-- fault.Is of numbers that the call has just laid in a row. -/
theorem is_row (q : Int → Bool) (v : Value) (zs : List Int) (w : World) (hl : zs.length ≤ 1000)
    (hq : ∀ z, Calls Tryd.prog 29 #[v, .int .i64 z] (w.alloc (.cells (zs.map fun z => Value.int .i64 z).toArray 24)) fun e w' => e = .returned (.bool (q z)) ∧ (w.alloc (.cells (zs.map fun z => Value.int .i64 z).toArray 24)) = w') :
    Calls Tryd.prog 16 #[v, .slice (some ⟨w.heap.size, 0, none⟩) zs.length zs.length] (w.alloc (.cells (zs.map fun z => Value.int .i64 z).toArray 24)) fun e w' => e = .returned (.bool (zs.any q)) ∧ (w.alloc (.cells (zs.map fun z => Value.int .i64 z).toArray 24)) = w' := by
  refine is_any q v w.heap.size zs.length zs _ hl (fun j z hz => ?_) hq
  rw [Lib.cell_of_heap (heap_new w _ _)]
  simp [hz]
/-- A row of values in its own block, as a slice holds it. -/
def RowAt (w : World) (a : Option Addr) (xs : List Value) : Prop := ∀ (j : Nat) v, xs[j]? = some v → ∃ bk, a = some ⟨bk, 0, none⟩ ∧ w.cell? ⟨bk, j, none⟩ = some v
theorem RowAt.later {w w' : World} {a : Option Addr} {xs : List Value} (h : RowAt w a xs) (hb : Below w.heap.size w w') : RowAt w' a xs := by
  intro j z hz
  obtain ⟨bk, h1, h2⟩ := h j z hz
  exact ⟨bk, h1, by rw [hb.cell (p := ⟨bk, j, none⟩) (block_lt h2)]; exact h2⟩
theorem ownsRow_slice {w : World} {B e n : Nat} {v : Value} {xs : List Value} (h : w.ownsRow B e 1 v n xs) : ∃ a c, v = .slice a n c ∧ RowAt w a xs := by
  have hl := h.1
  rcases h.2 with ⟨rfl, rfl⟩ | ⟨g, cap, cur, rfl, _, hg, _, _, _, hx⟩
  · refine ⟨none, 0, rfl, fun j v hj => ?_⟩
    obtain rfl : xs = [] := List.length_eq_zero_iff.1 (by omega)
    simp at hj
  · refine ⟨_, _, rfl, fun j v hj => ⟨g, rfl, ?_⟩⟩
    rw [Lib.cell_of_heap hg j]
    rw [← hx] at hj
    have hjl : j < n * 1 := by
      have := (List.getElem?_eq_some_iff.1 hj).1
      rw [List.length_take] at this; omega
    rw [List.getElem?_take_of_lt hjl] at hj
    simpa using hj
/-- A row of bytes, as a slice holds it. -/
def BytesAt (w : World) (a : Option Addr) (zs : List Int) : Prop := ∀ (j : Nat) z, zs[j]? = some z → ∃ bk off, a = some ⟨bk, off, none⟩ ∧ w.cell? ⟨bk, off + j, none⟩ = some (.int .u8 z)
theorem BytesAt.later {w w' : World} {a : Option Addr} {zs : List Int} (h : BytesAt w a zs) (hb : Below w.heap.size w w') : BytesAt w' a zs := by
  intro j z hz
  obtain ⟨bk, off, h1, h2⟩ := h j z hz
  exact ⟨bk, off, h1, by rw [hb.cell (p := ⟨bk, off + j, none⟩) (block_lt h2)]; exact h2⟩
theorem Tryd.infoError : (Tryd.prog.info? 26).map (fun i => (i.zero, i.size, i.bytes)) = some (some .nilIface, 1, 16) := by kernel_rfl

set_option maxRecDepth 100000 in
set_option maxHeartbeats 2000000 in
theorem none_great (s : ByteArray) (n : Int) (a : Option Addr) (len cap : Nat) (w : World) (hty : TypeLaid w) (htab : Tab w) (hs : s.size ≤ 9223372036854775807) (hlen : len ≤ 9223372036854775807) (h : 100 < s.size ∨ 60 < len) :
    Calls Tryd.prog 4 #[.string s, .int .i64 n, .slice a len cap] w fun e w' => e = .returned (.bool true) ∧ Below w.heap.size w w' := by
  have H1 := Lib.hid (lives_any w hty htab)
  have HY := Lib.hid hty
  have HT := Lib.hid htab
  clear hty htab
  by_cases h1 : 100 < s.size
  · go_enter Tryd.func4, Tryd.ntmps4
    go_wp2_with fail
    refine H1.out.mono ?_
    rintro e w1 ⟨rfl, hb⟩
    have HB := Lib.hid hb
    clear hb
    go_wp2_with fail
    refine (lives_any w1 (HY.out.later HB.out) (HT.out.later HB.out)).mono ?_
    rintro e w2 ⟨rfl, hb⟩
    have HB2 := Lib.hid hb
    clear hb
    go_wp2
    go_ret
    exact ⟨rfl, HB.out.trans (HB2.out.mono HB.out.size)⟩
  · have h2 : 60 < len := by omega
    go_enter Tryd.func4, Tryd.ntmps4
    go_wp2_with fail
    refine H1.out.mono ?_
    rintro e w1 ⟨rfl, hb⟩
    have HB := Lib.hid hb
    clear hb
    go_wp2_with fail
    refine (lives_any w1 (HY.out.later HB.out) (HT.out.later HB.out)).mono ?_
    rintro e w2 ⟨rfl, hb⟩
    have HB2 := Lib.hid hb
    clear hb
    go_wp2
    go_ret
    exact ⟨rfl, HB.out.trans (HB2.out.mono HB.out.size)⟩

set_option maxRecDepth 100000 in
set_option maxHeartbeats 4000000 in
theorem none_small (s : ByteArray) (n : Int) (h0 : -9223372036854775808 ≤ n) (h1 : n ≤ 9223372036854775807) (a : Option Addr) (cap : Nat) (zs : List Int) (w : World) (hty : TypeLaid w) (htab : Tab w) (hs : s.size ≤ 100) (hlen : zs.length ≤ 60)
    (hz : BytesAt w a zs) (hzr : ∀ z ∈ zs, 0 ≤ z ∧ z ≤ 255) :
    Calls Tryd.prog 4 #[.string s, .int .i64 n, .slice a zs.length cap] w fun e w' => e = .returned (.bool true) ∧ Below w.heap.size w w' := by
  obtain ⟨i0, hi, hz0, hz1, hz2⟩ := info_parts Tryd.infoError
  have HI := Lib.hid hi
  have HZ0 := Lib.hid hz0
  have HZ1 := Lib.hid hz1
  have HZ2 := Lib.hid hz2
  clear hi hz0 hz1 hz2
  have H1 := Lib.hid (lives_any w hty htab)
  have HY := Lib.hid hty
  have HT := Lib.hid htab
  have HZ := Lib.hid hz
  have HR := Lib.hid hzr
  clear hty htab hz hzr
  have hb1 : decide ((100 : Int) < (s.size : Int)) = false := decide_eq_false (by omega)
  have hb2 : decide ((60 : Int) < (zs.length : Int)) = false := decide_eq_false (by omega)
  go_enter Tryd.func4, Tryd.ntmps4
  go_wp2_with fail
  refine H1.out.mono ?_
  rintro e w1 ⟨rfl, hb⟩
  have HW1 := Lib.hid hb
  clear hb
  go_wp2_with fail
  go_loopg [7, 8, 31] zs.length (fun k p f i wr => ∃ j : Nat, k = zs.length - j ∧ j ≤ zs.length ∧ i = .int .i64 j ∧ f = .int .i64 (firstN (zs.take j)) ∧ wr.ownsRow w.heap.size 26 1 p j ((zs.take j).map fun z => ofNum (z % 12)) ∧ Below w.heap.size w wr)
  case atStart => exact ⟨0, by omega, by omega, rfl, rfl, World.ownsRow_nil _ _ _ _, HW1.out⟩
  case round =>
    obtain ⟨j, hk, hj, rfl, rfl, hown, hbw⟩ := hrel
    have HK := Lib.hid hk
    have HO := Lib.hid hown
    have HW := Lib.hid hbw
    clear hk hown hbw
    by_cases hlt : j < zs.length
    · obtain ⟨z, hzj⟩ : ∃ z, zs[j]? = some z := ⟨zs[j], List.getElem?_eq_getElem hlt⟩
      obtain ⟨bk, off, rfl, hc⟩ := (HZ.out.later HW.out) j z hzj
      obtain ⟨z0, z1⟩ := HR.out z (List.mem_of_getElem? hzj)
      have HJ := Lib.hid hzj
      clear hzj
      have hsn : zs.take (j + 1) = zs.take j ++ [z] := by rw [List.take_add_one, HJ.out]; rfl
      have HSN := Lib.hid hsn
      clear hsn
      have hji : (j : Int) < (zs.length : Int) := by omega
      generalize hF : firstN (zs.take j) = F
      have HF := Lib.hid hF
      clear hF
      go_wp2_with fail
      refine (of_num _ _).mono ?_
      rintro e w' ⟨rfl, rfl⟩
      generalize hV : ofNum (z % 12) = V
      have HV := Lib.hid hV
      have hV' : V = .nilIface ∨ ∃ T y, V = .iface T y := by rw [← hV]; exact ofNum_shape _
      clear hV
      have hne : ∀ k, u7.ownBlock = some k → w.heap.size ≤ k ∧ k < wr.heap.size := fun k hk => HO.out.lt k hk
      have HNE := Lib.hid hne
      clear hne
      have hfs : firstN (zs.take (j + 1)) = if F = 0 then z % 12 else F := by rw [HSN.out, firstN_snoc, HF.out]
      by_cases hF0 : F = 0
      · have HFS := Lib.hid (hfs.trans (if_pos hF0))
        have hFb : (F == 0) = true := by rw [hF0]; rfl
        clear hfs hF0
        rcases hV' with rfl | ⟨T, y, rfl⟩
        · go_wp2_with (at_builtin; refine wpList_append_own _ rfl _ _ 46 rfl w.heap.size 26 i0 .nilIface 1 16 Tryd.underlying46 HI.out HZ0.out HZ1.out HZ2.out rfl (by decide) _ _ _ rfl (HO.out.alloc _) ⟨wr.heap.size, 0, none⟩ 1 1 [.nilIface] rfl rfl ?_ ?_ ?_ ?_ ?_ ?_; (exact cell_one_new _ _ _); (intro u hu; simp at hu; subst hu; rfl); (unfold maxLen; omega); (omega); (have := HW.out.size; simp; omega); intro v' w4 hown4 hgrow _; have HG := Lib.hid hgrow; have HO4 := Lib.hid hown4; clear hgrow hown4)
          have hW4 : Below w.heap.size w w4 := (HW.out.alloc HW.out.size _).grown HG.out (by have := HW.out.size; simp; omega) (fun k hk => (HNE.out k hk).1)
          go_roundg (zs.length - (j + 1))
          case measure => rw [HK.out]; omega
          case rel => exact ⟨j + 1, rfl, by omega, by go_num, by rw [HFS.out], by rw [HSN.out, List.map_append, List.map_cons, List.map_nil, HV.out]; exact HO4.out, hW4⟩
        · go_wp2_with (at_builtin; refine wpList_append_own _ rfl _ _ 46 rfl w.heap.size 26 i0 .nilIface 1 16 Tryd.underlying46 HI.out HZ0.out HZ1.out HZ2.out rfl (by decide) _ _ _ rfl (HO.out.alloc _) ⟨wr.heap.size, 0, none⟩ 1 1 [.iface T y] rfl rfl ?_ ?_ ?_ ?_ ?_ ?_; (exact cell_one_new _ _ _); (intro u hu; simp at hu; subst hu; rfl); (unfold maxLen; omega); (omega); (have := HW.out.size; simp; omega); intro v' w4 hown4 hgrow _; have HG := Lib.hid hgrow; have HO4 := Lib.hid hown4; clear hgrow hown4)
          have hW4 : Below w.heap.size w w4 := (HW.out.alloc HW.out.size _).grown HG.out (by have := HW.out.size; simp; omega) (fun k hk => (HNE.out k hk).1)
          go_roundg (zs.length - (j + 1))
          case measure => rw [HK.out]; omega
          case rel => exact ⟨j + 1, rfl, by omega, by go_num, by rw [HFS.out], by rw [HSN.out, List.map_append, List.map_cons, List.map_nil, HV.out]; exact HO4.out, hW4⟩
      · have HFS := Lib.hid (hfs.trans (if_neg hF0))
        have hFb : (F == 0) = false := by simpa using hF0
        clear hfs hF0
        rcases hV' with rfl | ⟨T, y, rfl⟩
        · go_wp2_with (at_builtin; refine wpList_append_own _ rfl _ _ 46 rfl w.heap.size 26 i0 .nilIface 1 16 Tryd.underlying46 HI.out HZ0.out HZ1.out HZ2.out rfl (by decide) _ _ _ rfl (HO.out.alloc _) ⟨wr.heap.size, 0, none⟩ 1 1 [.nilIface] rfl rfl ?_ ?_ ?_ ?_ ?_ ?_; (exact cell_one_new _ _ _); (intro u hu; simp at hu; subst hu; rfl); (unfold maxLen; omega); (omega); (have := HW.out.size; simp; omega); intro v' w4 hown4 hgrow _; have HG := Lib.hid hgrow; have HO4 := Lib.hid hown4; clear hgrow hown4)
          have hW4 : Below w.heap.size w w4 := (HW.out.alloc HW.out.size _).grown HG.out (by have := HW.out.size; simp; omega) (fun k hk => (HNE.out k hk).1)
          go_roundg (zs.length - (j + 1))
          case measure => rw [HK.out]; omega
          case rel => exact ⟨j + 1, rfl, by omega, by go_num, by rw [HFS.out], by rw [HSN.out, List.map_append, List.map_cons, List.map_nil, HV.out]; exact HO4.out, hW4⟩
        · go_wp2_with (at_builtin; refine wpList_append_own _ rfl _ _ 46 rfl w.heap.size 26 i0 .nilIface 1 16 Tryd.underlying46 HI.out HZ0.out HZ1.out HZ2.out rfl (by decide) _ _ _ rfl (HO.out.alloc _) ⟨wr.heap.size, 0, none⟩ 1 1 [.iface T y] rfl rfl ?_ ?_ ?_ ?_ ?_ ?_; (exact cell_one_new _ _ _); (intro u hu; simp at hu; subst hu; rfl); (unfold maxLen; omega); (omega); (have := HW.out.size; simp; omega); intro v' w4 hown4 hgrow _; have HG := Lib.hid hgrow; have HO4 := Lib.hid hown4; clear hgrow hown4)
          have hW4 : Below w.heap.size w w4 := (HW.out.alloc HW.out.size _).grown HG.out (by have := HW.out.size; simp; omega) (fun k hk => (HNE.out k hk).1)
          go_roundg (zs.length - (j + 1))
          case measure => rw [HK.out]; omega
          case rel => exact ⟨j + 1, rfl, by omega, by go_num, by rw [HFS.out], by rw [HSN.out, List.map_append, List.map_cons, List.map_nil, HV.out]; exact HO4.out, hW4⟩
    · have htk : zs.take j = zs := List.take_of_length_le (by omega)
      have hjl : j = zs.length := by omega
      generalize hF : firstN (zs.take j) = F
      have hF' : firstN zs = F := by rw [← hF, htk]
      have HF := Lib.hid hF'
      have hown : wr.ownsRow w.heap.size 26 1 u7 zs.length (zs.map fun z => ofNum (z % 12)) := by
        have := HO.out; rw [htk, hjl] at this; exact this
      have HOW := Lib.hid hown
      have HWW := Lib.hid HW.out
      clear hF hF' hown htk hjl HO HW
      go_wp2_with fail
      refine (new_err _ _).mono ?_
      rintro e w' ⟨rfl, rfl⟩
      go_wp2_with fail
      refine (at_nil _ _ _).mono ?_
      rintro e w' ⟨rfl, rfl⟩
      go_wp2_with fail
      refine (at_some _ _ _ _ _).mono ?_
      rintro e w2 ⟨rfl, hw2⟩
      have hb2 : Below wr.heap.size wr w2 := by
        subst hw2; exact (below_alloc _ _).trans ((below_alloc _ _).mono (by simp))
      have hch : Chain w2 (.iface 70 (.pointer (some ⟨wr.heap.size, 0, none⟩))) [(wr.heap.size + 1, s, n)] (.iface 31 (.pointer (some ⟨wr.heap.size + 1, 0, none⟩))) := by
        subst hw2
        exact ⟨rfl, by simp, by simp, _, by simp, rfl⟩
      obtain ⟨ao, co, rfl, hrow⟩ := ownsRow_slice (ownsRow_later HOW.out hb2)
      have HR2 := Lib.hid hrow
      have HC2 := Lib.hid hch
      have HW2 := Lib.hid (HWW.out.trans (hb2.mono HWW.out.size))
      have HY2 := Lib.hid (HY.out.later HW2.out)
      have HT2 := Lib.hid (HT.out.later HW2.out)
      clear hw2 hb2 hch hrow HOW HWW
      rw [show (wr.alloc (.cells #[.string s] 72)).heap.size = wr.heap.size + 1 by simp]
      generalize wr.heap.size = pb at *
      go_wp2_with fail
      refine (code_nil _).mono ?_
      rintro e w' ⟨rfl, rfl⟩
      go_wp2_with fail
      have hp0 := path_any .nilIface [] [] .nilIface (by simp) (Or.inl ⟨rfl, rfl⟩) (fun x hx => by simp at hx) w2 rfl HT2.out HY2.out
      rw [show (⟨(pathB []).toArray⟩ : ByteArray) = ⟨#[]⟩ from rfl] at hp0
      refine hp0.mono ?_
      clear hp0
      rintro e w3 ⟨rfl, hb3⟩
      have HB3 := Lib.hid hb3
      clear hb3
      go_wp2_with fail
      refine (of_num 0 _).mono ?_
      rintro e w' ⟨rfl, rfl⟩
      rw [show ofNum 0 = .nilIface from rfl]
      go_wp2_with fail
      refine (is_row (fun z => z == 0) .nilIface [1, 0] w3 (by simp) (fun z => isNumber_nil z _)).mono ?_
      rintro e w4 ⟨rfl, hw4⟩
      have HB4 : Hid (Below w2.heap.size w2 w4) := by
        show Below w2.heap.size w2 w4
        subst hw4; exact HB3.out.alloc HB3.out.size _
      clear hw4
      rw [show ([1, 0] : List Int).any (fun z => z == 0) = true by decide]
      go_wp2_with fail
      refine (is_row (fun z => z == 0) .nilIface [1] w4 (by simp) (fun z => isNumber_nil z _)).mono ?_
      rintro e w5 ⟨rfl, hw5⟩
      have HB5 : Hid (Below w2.heap.size w2 w5) := by
        show Below w2.heap.size w2 w5
        subst hw5; exact HB4.out.alloc HB4.out.size _
      clear hw5
      rw [show ([1] : List Int).any (fun z => z == 0) = false by decide]
      go_wp2_with fail
      have hf := first_any ao co (zs.map fun z => ofNum (z % 12)) w5 (by simp; omega) (fun v hv => by
        obtain ⟨z, _, rfl⟩ := List.mem_map.1 hv
        exact ofNum_shape _) (HR2.out.later HB5.out)
      rw [List.length_map, firstV_ofNum, HF.out] at hf
      refine hf.mono ?_
      clear hf
      rintro e w' ⟨rfl, rfl⟩
      go_wp2_with fail
      refine (code_of F _ (HY2.out.later HB5.out)).mono ?_
      rintro e w6 ⟨rfl, hb⟩
      have HB6 := Lib.hid (HB5.out.trans (hb.mono HB5.out.size))
      clear hb
      go_wp2_with fail
      refine (code_none _ _ _ _ (HY2.out.later HB6.out) (HC2.out.later HB6.out)).mono ?_
      rintro e w7 ⟨rfl, hb⟩
      have HB7 := Lib.hid (HB6.out.trans (hb.mono HB6.out.size))
      clear hb
      go_wp2_with fail
      refine (is15S _ _ _ _ (HC2.out.later HB7.out)).mono ?_
      rintro e w' ⟨rfl, rfl⟩
      go_wp2_with fail
      have he0 := error_any .nilIface [] [] (by simp) (Or.inl ⟨rfl, rfl⟩) (fun x hx => by simp at hx) w7 (fun h => absurd rfl h) (HT2.out.later HB7.out)
      rw [show (⟨(restL [] []).toArray⟩ : ByteArray) = ⟨#[]⟩ from rfl, show headPtr [] = .pointer none from rfl] at he0
      refine he0.mono ?_
      clear he0
      rintro e w8 ⟨rfl, hb⟩
      have HB8 := Lib.hid (HB7.out.trans (hb.mono HB7.out.size))
      clear hb
      go_wp2_with fail
      refine (unwrap_nil _).mono ?_
      rintro e w' ⟨rfl, rfl⟩
      go_wp2_with fail
      have hsm : Small [(w8.heap.size, s, n)] := by
        intro x hx
        obtain rfl : x = _ := by simpa using hx
        exact ⟨hs, h0, h1⟩
      have HSM := Lib.hid hsm
      have he1 := error_any .nilIface [] [(w8.heap.size, s, n)] (by simp) (Or.inl ⟨rfl, rfl⟩) hsm (w8.alloc (.cells #[.string s, .int .i64 n, .nilIface] 35)) (fun _ => ⟨rfl, by simp, by simp, _, by simp, rfl⟩) ((HT2.out.later HB8.out).later (below_alloc _ _))
      refine he1.mono ?_
      clear he1 hsm
      rintro e w9 ⟨rfl, hb⟩
      have HB9 := Lib.hid ((HB8.out.alloc HB8.out.size _).trans (hb.mono (HB8.out.alloc HB8.out.size (.cells #[.string s, .int .i64 n, .nilIface] 35)).size))
      clear hb
      generalize hR : (⟨(restL [(w8.heap.size, s, n)] []).toArray⟩ : ByteArray) = R
      have HRR := Lib.hid hR
      clear hR
      go_wp2_with fail
      have hw1 := words_any (some ⟨w9.heap.size, 0, none⟩) 1 [(w8.heap.size, s, n)] ⟨#[]⟩ (w9.alloc (.cells #[.string s, .int .i64 n] 29)) (by simp) HSM.out (by decide) (fun j x hj => by
        match j, hj with
        | 0, hj =>
          obtain rfl : _ = x := by simpa using hj
          exact ⟨w9.heap.size, 0, rfl, by simp, by simp⟩)
      rw [show wordsL [(w8.heap.size, s, n)] (⟨#[]⟩ : ByteArray).data.toList = restL [(w8.heap.size, s, n)] [] from rfl, HRR.out] at hw1
      refine hw1.mono ?_
      clear hw1
      rintro e w10 ⟨rfl, k, hk⟩
      have HB10 : Hid (Below w2.heap.size w2 w10) := by
        show Below w2.heap.size w2 w10
        subst hk
        exact ⟨HB9.out.os, HB9.out.tape, HB9.out.output, by simp; have := HB9.out.size; omega, fun i hi => ((HB9.out.alloc HB9.out.size _).block i hi)⟩
      clear hk
      go_wp2
      go_ret
      exact ⟨rfl, HW2.out.trans (HB10.out.mono HW2.out.size)⟩
end Go.Proofs.YtjafmnhnemdedaaDoor
