/- The laws of layer 12: their example; RootsNil: contracts. -/
import Derived.Test.YtnfjmmkokhncoaaRt12
import Derived.Test.YtnfjmmkokhncoaaFis
namespace Go.Proofs.Ytnfjmmkokhncoaa
open Go.RowKit Go.Maps
set_option maxRecDepth 100000

set_option maxHeartbeats 2000000 in
theorem lives12_any (w : World) : Calls Try.prog 4 #[] w fun e w' => e = .returned (.bool true) ∧ Below w.heap.size w w' := by
  go_enter Try.func4, Try.ntmps4
  go_wp2_with fail
  refine (new12 2 w).mono ?_
  rintro e W1 ⟨rb, mb, rfl, hR, hb, l1, l2⟩
  have HR1 := Lib.hid hR
  have HB1 := Lib.hid hb
  have HP := Lib.hid (put12 hR (by decide) [] List.nodup_nil (by simp) (by decide) 7 (by decide))
  rw [show ((7 : Nat) : Int) = 7 from rfl, show ((0 : Nat) : Int) + 1 = 1 from rfl] at HP
  clear hR hb
  go_wp2_with fail
  refine HP.out.mono ?_
  clear HP
  rintro e W2 ⟨rfl, hR, hb⟩
  have HB2 := Lib.hid (HB1.out.trans (hb _ l1 l2 HB1.out.size))
  have HT := Lib.hid (take12 hR 1 ⟨by decide, by decide⟩ ⟨7, 1⟩ (by simp) (by decide))
  clear hR hb HR1 HB1
  go_wp2_with fail
  refine HT.out.mono ?_
  clear HT
  rintro e W3 ⟨rfl, hR, hb⟩
  have HB3 := Lib.hid (HB2.out.trans (hb _ l1 l2 HB2.out.size))
  have HD := Lib.hid (drop12 hR 1 ⟨by decide, by decide⟩ 7 1 (by simp) (by decide))
  clear hR hb HB2
  go_wp2_with fail
  refine HD.out.mono ?_
  clear HD
  rintro e W4 ⟨rfl, hR, hb⟩
  have HB4 := Lib.hid (HB3.out.trans (hb _ l1 l2 HB3.out.size))
  have HG := Lib.hid (get12 hR 1 ⟨by decide, by decide⟩)
  have HR4 := Lib.hid hR
  rw [if_pos rfl, show gtV (some ⟨7, 1⟩) = .tuple #[.int .u32 7, .bool true] from rfl] at HG
  clear hR hb HB3
  go_wp2_with fail
  refine HG.out.mono ?_
  clear HG
  rintro e W5 ⟨rfl, hb⟩
  have HB5 := Lib.hid (HB4.out.trans (hb.mono HB4.out.size))
  have HD := Lib.hid (drop12_last (HR4.out.later hb) 1 ⟨by decide, by decide⟩ 7 (by simp))
  clear hb HB4 HR4
  go_wp2_with fail
  refine HD.out.mono ?_
  clear HD
  rintro e W6 ⟨rfl, hR, hb⟩
  have HB6 := Lib.hid (HB5.out.trans (hb _ l1 l2 HB5.out.size))
  have HG := Lib.hid (get12 hR 1 ⟨by decide, by decide⟩)
  rw [if_pos rfl, show gtV none = .tuple #[.int .u32 0, .bool false] from rfl] at HG
  clear hR hb HB5
  go_wp2_with fail
  refine HG.out.mono ?_
  clear HG
  rintro e W7 ⟨rfl, hb⟩
  have HB7 := Lib.hid (HB6.out.trans (hb.mono HB6.out.size))
  clear hb HB6
  go_wp2_with fail
  go_ret
  exact ⟨rfl, HB7.out⟩
set_option maxHeartbeats 2000000 in
theorem rootsNil_any (h : Int) (w : World) : Calls Try.prog 3 #[.int .i64 h] w fun e w' => e = .returned (.bool true) ∧ Below w.heap.size w w' := by
  go_enter Try.func3, Try.ntmps3
  go_wp2_with fail
  refine (lives12_any w).mono ?_
  rintro e W1 ⟨rfl, hb⟩
  have HB1 := Lib.hid hb
  clear hb
  go_wp2_with fail
  refine (put12_nil 1 W1).mono ?_
  rintro e W2 ⟨rfl, hb⟩
  have HB2 := Lib.hid (HB1.out.trans (hb.mono HB1.out.size))
  clear hb HB1
  go_wp2_with fail
  refine (get12_nil h W2).mono ?_
  rintro e W3 ⟨rfl, hb⟩
  have HB3 := Lib.hid (HB2.out.trans (hb.mono HB2.out.size))
  clear hb HB2
  go_wp2_with fail
  refine (change12_none _ W3).mono ?_
  rintro e W4 ⟨rfl, hb⟩
  have HB4 := Lib.hid (HB3.out.trans (hb.mono HB3.out.size))
  clear hb HB3
  go_wp2_with fail
  refine (fis_one 1 (by omega) _ _ _ (by simp)).mono ?_
  rintro e W5 ⟨rfl, hV⟩
  have HB5 : Hid (Below w.heap.size w W5) := by
    show Below _ _ _
    rw [← hV]; exact HB4.out.trans ((bl1 _ _).mono HB4.out.size)
  clear hV HB4
  go_wp2_with fail
  refine (set12_nil 1 1 W5).mono ?_
  rintro e W6 ⟨rfl, hb⟩
  have HB6 := Lib.hid (HB5.out.trans (hb.mono HB5.out.size))
  clear hb HB5
  go_wp2_with fail
  refine (fis_one 6 (by omega) _ _ _ (by simp)).mono ?_
  rintro e W7 ⟨rfl, hV⟩
  have HB7 : Hid (Below w.heap.size w W7) := by
    show Below _ _ _
    rw [← hV]; exact HB6.out.trans ((bl1 _ _).mono HB6.out.size)
  clear hV HB6
  go_wp2_with fail
  refine (take12_nil 1 W7).mono ?_
  rintro e W8 ⟨rfl, hb⟩
  have HB8 := Lib.hid (HB7.out.trans (hb.mono HB7.out.size))
  clear hb HB7
  go_wp2_with fail
  refine (fis_one 6 (by omega) _ _ _ (by simp)).mono ?_
  rintro e W9 ⟨rfl, hV⟩
  have HB9 : Hid (Below w.heap.size w W9) := by
    show Below _ _ _
    rw [← hV]; exact HB8.out.trans ((bl1 _ _).mono HB8.out.size)
  clear hV HB8
  go_wp2_with fail
  refine (drop12_nil 1 W9).mono ?_
  rintro e W10 ⟨rfl, hb⟩
  have HB10 := Lib.hid (HB9.out.trans (hb.mono HB9.out.size))
  clear hb HB9
  go_wp2_with fail
  refine (fis_one 6 (by omega) _ _ _ (by simp)).mono ?_
  rintro e W11 ⟨rfl, hV⟩
  have HB11 : Hid (Below w.heap.size w W11) := by
    show Below _ _ _
    rw [← hV]; exact HB10.out.trans ((bl1 _ _).mono HB10.out.size)
  clear hV HB10
  go_wp2_with fail
  refine (len12_nil W11).mono ?_
  rintro e W12 ⟨rfl, hb⟩
  have HB12 := Lib.hid (HB11.out.trans (hb.mono HB11.out.size))
  clear hb HB11
  go_wp2_with fail
  refine (all12_nil W12).mono ?_
  rintro e W13 ⟨rfl, hb⟩
  have HB13 := Lib.hid (HB12.out.trans (hb.mono HB12.out.size))
  clear hb HB12
  go_wp2_with fail
  refine (squares12_nil W13).mono ?_
  rintro e W14 ⟨rfl, hb⟩
  have HB14 := Lib.hid (HB13.out.trans (hb.mono HB13.out.size))
  clear hb HB13
  go_wp2_with fail
  go_ret
  exact ⟨rfl, HB14.out⟩
end Go.Proofs.Ytnfjmmkokhncoaa
