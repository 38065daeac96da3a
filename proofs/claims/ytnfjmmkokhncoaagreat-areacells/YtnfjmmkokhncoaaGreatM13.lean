-- M13
import Derived.Test.YtnfjmmkokhncoaaGreatPd8
import Derived.Test.YtnfjmmkokhncoaaGreatM02
section
namespace Go.Proofs.YtnfjmmkokhncoaaGreat
open Go.RowKit Go.Maps
set_option maxRecDepth 100000

theorem right_bounds {r : R4} (h : rightR r.x r.y r.X r.Y = true) : r.no = false ∧ (-2305843009213693952 ≤ r.x ∧ r.X ≤ 2305843009213693952) ∧ -2305843009213693952 ≤ r.y ∧ r.Y ≤ 2305843009213693952 := by
  unfold rightR onP at h
  simp only [Bool.and_eq_true, Bool.not_eq_true', decide_eq_true_eq] at h
  refine ⟨?_, ?_⟩
  · unfold R4.no; exact h.1.1
  · omega
set_option maxHeartbeats 2000000 in
theorem fill8_nil (r : R4) (al : Bool) (w : World) : Calls Tryz.prog 14 #[.agg #[.pointer none, .int .u32 0], .agg #[.int .i64 r.x, .int .i64 r.y, .int .i64 r.X, .int .i64 r.Y], .bool al] w fun e w' => e = .returned (.tuple #[.agg #[.pointer none, .int .u32 0], .iface 52 (.int .i64 1)]) ∧ Below w.heap.size w w' := by
  have HIP := Lib.hid (fun W => isPlane_nil W)
  have hz : ∀ o1 o2 o3 : Obj, (((w.alloc o1).alloc o2).alloc o3).heap[w.heap.size + 1 + 1]? = some o3 := fun o1 o2 o3 => new_3 w o1 o2 o3
  have HZ := Lib.hid (hz (.cells #[.pointer none, .int .u32 0] 32) (.cells #[.int .i64 r.x, .int .i64 r.y, .int .i64 r.X, .int .i64 r.Y] 42) (.cells #[.pointer none, .int .u32 0] 32))
  have HB := Lib.hid (bel3 w (.cells #[.pointer none, .int .u32 0] 32) (.cells #[.int .i64 r.x, .int .i64 r.y, .int .i64 r.X, .int .i64 r.Y] 42) (.cells #[.pointer none, .int .u32 0] 32))
  clear hz
  go_enter Tryz.func14, Tryz.ntmps14
  go_wp2_with fail
  refine (HIP.out _).mono ?_
  rintro e W1 ⟨rfl, hb⟩
  have HB1 := Lib.hid (HB.out.trans (hb.mono HB.out.size))
  have HZ1 := Lib.hid (keep8 HZ.out hb)
  clear hb HB HZ
  obtain ⟨z0, z1, f0, f1⟩ := res_cells HZ1.out
  go_wp2_with fail
  have q1 := pl_set1 (pl_set0 HZ1.out (.pointer none)) (.int .u32 0)
  have HBW := (HB1.out.setCell (p := ⟨w.heap.size + 1 + 1, 0, none⟩) (by show _ ≤ w.heap.size + 1 + 1; omega) (.pointer none)).setCell (p := ⟨w.heap.size + 1 + 1, 1, none⟩) (by show _ ≤ w.heap.size + 1 + 1; omega) (.int .u32 0)
  obtain ⟨y0, y1, _⟩ := res_cells q1
  refine bodyPost_ret (v := _) (by simp [results, Tryz.results14, go_sem, y0, y1]; rfl) rfl ?_
  exact ⟨rfl, HBW⟩
set_option maxHeartbeats 4000000 in
theorem fill8_any {w : World} {sb g tb cap most : Nat} {N : List Nd} (h : St w sb g tb cap most N) {n0 x : Nat} (hx : Sq N (n0 + 1) x) (h2 : 2 ≤ n0) (r : R4) (hr : rightR r.x r.y r.X r.Y = true) (al : Bool) :
    Calls Tryz.prog 14 #[.agg #[.pointer (some ⟨sb, 0, none⟩), .int .u32 (x : Int)], .agg #[.int .i64 r.x, .int .i64 r.y, .int .i64 r.X, .int .i64 r.Y], .bool al] w fun e w' => ∃ g' N' n, (n0 ≤ n ∧ n ≤ 61 ∧ inR n r ∧ ∀ m, n0 ≤ m → m < n → ¬ inR m r) ∧ Nx sb tb most w g N N'.length w' g' N' ∧ New8 N (n + 1) (Fp N n0 (kidZ N x) n (shR r n) (b2n al)) N' ∧
      ((∃ y : Nat, e = .returned (.tuple #[.agg #[.pointer (some ⟨sb, 0, none⟩), .int .u32 (y : Int)], .nilIface]) ∧ Con N' (n + 1) y (Fp N n0 (kidZ N x) n (shR r n) (b2n al))) ∨ (e = .returned (.tuple #[.agg #[.pointer none, .int .u32 0], .iface 52 (.int .i64 7)]) ∧ most ≤ N'.length)) := by
  obtain ⟨hno, hbd⟩ := right_bounds hr
  have hlt := R4.no_not.1 hno
  have hxu := Sq.u32 h hx
  have HB := Lib.hid (bel3 w (.cells #[.pointer (some ⟨sb, 0, none⟩), .int .u32 (x : Int)] 32) (.cells #[.int .i64 r.x, .int .i64 r.y, .int .i64 r.X, .int .i64 r.Y] 42) (.cells #[.pointer none, .int .u32 0] 32))
  have HS := Lib.hid h
  have hpl0 : Ob (((w.alloc (.cells #[.pointer (some ⟨sb, 0, none⟩), .int .u32 (x : Int)] 32)).alloc (.cells #[.int .i64 r.x, .int .i64 r.y, .int .i64 r.X, .int .i64 r.Y] 42)).alloc (.cells #[.pointer none, .int .u32 0] 32)) sb g tb w.heap.size (plO sb x) := by
    obtain ⟨l1, l2, l3⟩ := h.lt
    exact ⟨keep8 (keep8 (heap_alloc_new w _) (bel1 _ _)) (bel1 _ _), by omega, by omega, by omega⟩
  have hrc0 : Ob (((w.alloc (.cells #[.pointer (some ⟨sb, 0, none⟩), .int .u32 (x : Int)] 32)).alloc (.cells #[.int .i64 r.x, .int .i64 r.y, .int .i64 r.X, .int .i64 r.Y] 42)).alloc (.cells #[.pointer none, .int .u32 0] 32)) sb g tb (w.heap.size + 1) (rcO8 r) := by
    obtain ⟨l1, l2, l3⟩ := h.lt
    exact ⟨keep8 (new_2 w _ _) (bel1 _ _), by omega, by omega, by omega⟩
  have hz0 : Ob (((w.alloc (.cells #[.pointer (some ⟨sb, 0, none⟩), .int .u32 (x : Int)] 32)).alloc (.cells #[.int .i64 r.x, .int .i64 r.y, .int .i64 r.X, .int .i64 r.Y] 42)).alloc (.cells #[.pointer none, .int .u32 0] 32)) sb g tb (w.heap.size + 1 + 1) zeO8 := by
    obtain ⟨l1, l2, l3⟩ := h.lt
    exact ⟨new_3 w _ _ _, by omega, by omega, by omega⟩
  have HPL := Lib.hid hpl0
  have HRC := Lib.hid hrc0
  have HZ := Lib.hid hz0
  have HIP := Lib.hid (isPlane_any (h.later HB.out) x hxu)
  rw [show decide (3 ≤ lvZ N x) = true by rw [show lvZ N x = ((n0 + 1 : Nat) : Int) from hx]; simp; omega] at HIP
  have HE := Lib.hid (fun w => rempty_any r.x r.y r.X r.Y w)
  rw [show noPts r.x r.y r.X r.Y = false from hno] at HE
  have HR := Lib.hid (fun w => rectRight_any r.x r.y r.X r.Y (by omega) (by omega) (by omega) (by omega) w)
  rw [hr] at HR
  have HX := Lib.hid hx
  have HNO := Lib.hid hno
  have HBD := Lib.hid hbd
  clear h hx hpl0 hrc0 hz0 hr hno hbd
  obtain ⟨p0, p1⟩ := pl_cells HPL.out.at_
  go_enter Tryz.func14, Tryz.ntmps14
  go_wp2_with fail
  generalize ((w.alloc (.cells #[.pointer (some ⟨sb, 0, none⟩), .int .u32 (x : Int)] 32)).alloc (.cells #[.int .i64 r.x, .int .i64 r.y, .int .i64 r.X, .int .i64 r.Y] 42)).alloc (.cells #[.pointer none, .int .u32 0] 32) = W0 at *
  refine HIP.out.mono ?_
  rintro e W1 ⟨rfl, hb⟩
  have HB1 := Lib.hid (HB.out.trans (hb.mono HB.out.size))
  have HPL1 := Lib.hid (HPL.out.later hb)
  have HRC1 := Lib.hid (HRC.out.later hb)
  have HZ1 := Lib.hid (HZ.out.later hb)
  clear hb HB HPL HRC HZ HIP p0 p1
  obtain ⟨c0, c1, c2, c3⟩ := rc_cells8 HRC1.out.at_
  go_wp2_with fail
  refine (HE.out _).mono ?_
  rintro e W2 ⟨rfl, hb⟩
  have HB2 := Lib.hid (HB1.out.trans (hb.mono HB1.out.size))
  have HPL2 := Lib.hid (HPL1.out.later hb)
  have HRC2 := Lib.hid (HRC1.out.later hb)
  have HZ2 := Lib.hid (HZ1.out.later hb)
  clear hb HB1 HPL1 HRC1 HZ1 HE c0 c1 c2 c3
  obtain ⟨c0, c1, c2, c3⟩ := rc_cells8 HRC2.out.at_
  go_wp2_with fail
  refine (HR.out _).mono ?_
  rintro e W3 ⟨rfl, hb⟩
  have HB3 := Lib.hid (HB2.out.trans (hb.mono HB2.out.size))
  have HPL3 := Lib.hid (HPL2.out.later hb)
  have HRC3 := Lib.hid (HRC2.out.later hb)
  have HZ3 := Lib.hid (HZ2.out.later hb)
  clear hb HB2 HPL2 HRC2 HZ2 HR c0 c1 c2 c3
  obtain ⟨c0, c1, c2, c3⟩ := rc_cells8 HRC3.out.at_
  obtain ⟨p0, p1⟩ := pl_cells HPL3.out.at_
  have HPD := Lib.hid (painted_nil (HS.out.later HB3.out) HX.out r HNO.out HBD.out (b2n al) (b2n_le al))
  have hend : ∀ (e : Ending) (w' : World), True → True := fun _ _ h => h
  cases al
  all_goals
    first
      | rw [show ((b2n false : Nat) : Int) = 0 from rfl] at HPD
      | rw [show ((b2n true : Nat) : Int) = 1 from rfl] at HPD
    go_wp2_with fail
    refine HPD.out.mono ?_
    clear HPD p0 p1 c0 c1 c2 c3
    rintro e w9 ⟨g9, M9, n, hlow, hnx, hnew, hres⟩
    have HL := Lib.hid hlow
    have HN := Lib.hid ((Nx.of_below HS.out HB3.out).trans hnx)
    have HW := Lib.hid hnew
    have HZ9 := Lib.hid (HZ3.out.nx hnx)
    clear hlow hnx hnew
    obtain ⟨r0, r1, rf0, rf1⟩ := res_cells HZ9.out.at_
    rcases hres with ⟨y, rfl, hc⟩ | ⟨rfl, hf⟩
    · have HC := Lib.hid hc
      clear hc
      go_wp2_with fail
      obtain ⟨W, hW, hN, _, q0, q1⟩ := put_pl HN.out HZ9.out (by omega) (.pointer (some ⟨sb, 0, none⟩)) (.int .u32 (y : Int))
      rw [hW]
      refine bodyPost_ret (v := _) (by simp [results, Tryz.results14, go_sem, q0, q1]; rfl) rfl ?_
      exact ⟨g9, M9, n, HL.out, hN.mono (by omega), HW.out, Or.inl ⟨y, rfl, HC.out⟩⟩
    · have HC := Lib.hid hf
      clear hf
      go_wp2_with fail
      obtain ⟨W, hW, hN, _, q0, q1⟩ := put_pl HN.out HZ9.out (by omega) (.pointer none) (.int .u32 0)
      rw [hW]
      refine bodyPost_ret (v := _) (by simp [results, Tryz.results14, go_sem, q0, q1]; rfl) rfl ?_
      exact ⟨g9, M9, n, HL.out, hN.mono (by omega), HW.out, Or.inr ⟨rfl, HC.out⟩⟩
end Go.Proofs.YtnfjmmkokhncoaaGreat
end

section
namespace Go.Proofs.YtnfjmmkokhncoaaGreat

def zeR : R4 := ⟨0, 0, 0, 0⟩
def orR (a b : R4) : R4 := if a.no then (if b.no then zeR else b) else if b.no then a else ⟨min a.x b.x, min a.y b.y, max a.X b.X, max a.Y b.Y⟩
def mvR (a : R4) (p q : Int) : R4 := ⟨a.x + p, a.y + q, a.X + p, a.Y + q⟩
def bxJ (n : Nat) (f : Nat → R4) : Nat → R4
  | 0 => zeR
  | i + 1 => orR (bxJ n f i) (mvR (f i) (off n (decide (i % 2 = 1))) (off n (decide (2 ≤ i))))
def bxZ (N : List Nd) : Nat → Nat → R4
  | 0, x => if ctZ N x = 0 then zeR else ⟨0, 0, 1, 1⟩
  | n + 1, x => if ctZ N x = 0 then zeR else bxJ n (fun i => bxZ N n (kAt (kidZ N x) i)) 4
/-- All cells are in a rectangle, and each of its sides has one. -/
structure IsB (S : Int → Int → Prop) (b : R4) : Prop where
  has : ∀ X Y, S X Y → b.has X Y = true
  ends : (∃ X Y, S X Y) → (∃ Y, S b.x Y) ∧ (∃ Y, S (b.X - 1) Y) ∧ (∃ X, S X b.y) ∧ (∃ X, S X (b.Y - 1))
  no : (∀ X Y, ¬ S X Y) → b.no = true
theorem IsB.some {S : Int → Int → Prop} {b : R4} (h : IsB S b) (hb : b.no = false) : ∃ X Y, S X Y := by
  apply Classical.byContradiction
  intro hc
  have := h.no fun X Y hs => hc ⟨X, Y, hs⟩
  rw [hb] at this
  cases this
theorem IsB.none {S : Int → Int → Prop} {b : R4} (h : IsB S b) (hb : b.no = true) (X Y : Int) : ¬ S X Y := fun hs => by
  have := h.has X Y hs
  rw [R4.has_no hb] at this
  cases this
theorem IsB.of {S T : Int → Int → Prop} {b : R4} (h : IsB S b) (hst : ∀ X Y, S X Y ↔ T X Y) : IsB T b := by
  have : S = T := by
    funext X Y
    exact propext (hst X Y)
  exact this ▸ h
theorem IsB.uniq {S : Int → Int → Prop} {a b : R4} (ha : IsB S a) (hb : IsB S b) (hs : ∃ X Y, S X Y) : a = b := by
  obtain ⟨⟨y1, p1⟩, ⟨y2, p2⟩, ⟨x3, p3⟩, ⟨x4, p4⟩⟩ := ha.ends hs
  obtain ⟨⟨z1, q1⟩, ⟨z2, q2⟩, ⟨w3, q3⟩, ⟨w4, q4⟩⟩ := hb.ends hs
  have a1 := R4.has_iff.1 (hb.has _ _ p1)
  have a2 := R4.has_iff.1 (hb.has _ _ p2)
  have a3 := R4.has_iff.1 (hb.has _ _ p3)
  have a4 := R4.has_iff.1 (hb.has _ _ p4)
  have b1 := R4.has_iff.1 (ha.has _ _ q1)
  have b2 := R4.has_iff.1 (ha.has _ _ q2)
  have b3 := R4.has_iff.1 (ha.has _ _ q3)
  have b4 := R4.has_iff.1 (ha.has _ _ q4)
  obtain ⟨ax, ay, aX, aY⟩ := a
  obtain ⟨bx, by', bX, bY⟩ := b
  simp only at *
  congr 1 <;> omega
theorem isB_zero {S : Int → Int → Prop} (h : ∀ X Y, ¬ S X Y) : IsB S zeR := ⟨fun X Y hs => absurd hs (h X Y), fun ⟨X, Y, hs⟩ => absurd hs (h X Y), fun _ => by decide⟩
theorem isB_or {S T : Int → Int → Prop} {a b : R4} (ha : IsB S a) (hb : IsB T b) : IsB (fun X Y => S X Y ∨ T X Y) (orR a b) := by
  unfold orR
  cases h1 : a.no
  · obtain ⟨⟨y1, p1⟩, ⟨y2, p2⟩, ⟨x3, p3⟩, ⟨x4, p4⟩⟩ := ha.ends (ha.some h1)
    cases h2 : b.no
    · obtain ⟨⟨z1, q1⟩, ⟨z2, q2⟩, ⟨w3, q3⟩, ⟨w4, q4⟩⟩ := hb.ends (hb.some h2)
      simp only [Bool.false_eq_true, if_false]
      refine ⟨fun X Y hs => ?_, fun _ => ⟨?_, ?_, ?_, ?_⟩, fun hn => absurd (Or.inl p1) (hn _ _)⟩
      · rw [R4.has_iff]
        rcases hs with hs | hs
        · have := R4.has_iff.1 (ha.has _ _ hs)
          simp only; omega
        · have := R4.has_iff.1 (hb.has _ _ hs)
          simp only; omega
      · simp only
        by_cases h : a.x ≤ b.x
        · exact ⟨y1, Or.inl (by rw [Int.min_eq_left h]; exact p1)⟩
        · exact ⟨z1, Or.inr (by rw [Int.min_eq_right (by omega)]; exact q1)⟩
      · simp only
        by_cases h : a.X ≤ b.X
        · exact ⟨z2, Or.inr (by rw [Int.max_eq_right h]; exact q2)⟩
        · exact ⟨y2, Or.inl (by rw [Int.max_eq_left (by omega)]; exact p2)⟩
      · simp only
        by_cases h : a.y ≤ b.y
        · exact ⟨x3, Or.inl (by rw [Int.min_eq_left h]; exact p3)⟩
        · exact ⟨w3, Or.inr (by rw [Int.min_eq_right (by omega)]; exact q3)⟩
      · simp only
        by_cases h : a.Y ≤ b.Y
        · exact ⟨w4, Or.inr (by rw [Int.max_eq_right h]; exact q4)⟩
        · exact ⟨x4, Or.inl (by rw [Int.max_eq_left (by omega)]; exact p4)⟩
    · simp only [Bool.false_eq_true, if_false, if_true]
      exact ha.of fun X Y => ⟨Or.inl, fun h => h.resolve_right (hb.none h2 X Y)⟩
  · cases h2 : b.no
    · simp only [Bool.false_eq_true, if_false, if_true]
      exact hb.of fun X Y => ⟨Or.inr, fun h => h.resolve_left (ha.none h1 X Y)⟩
    · simp only [if_true]
      exact isB_zero fun X Y h => h.elim (ha.none h1 X Y) (hb.none h2 X Y)
theorem isB_mv {S : Int → Int → Prop} {a : R4} (h : IsB S a) (p q : Int) : IsB (fun X Y => S (X - p) (Y - q)) (mvR a p q) := by
  have hno : (mvR a p q).no = a.no := by
    rw [Bool.eq_iff_iff, R4.no_iff, R4.no_iff]
    simp only [mvR]; omega
  refine ⟨fun X Y hs => ?_, fun ⟨X, Y, hs⟩ => ?_, fun hn => ?_⟩
  · have := R4.has_iff.1 (h.has _ _ hs)
    rw [R4.has_iff]
    simp only [mvR]; omega
  · obtain ⟨⟨y1, p1⟩, ⟨y2, p2⟩, ⟨x3, p3⟩, ⟨x4, p4⟩⟩ := h.ends ⟨_, _, hs⟩
    simp only [mvR]
    exact ⟨⟨y1 + q, by rw [Int.add_sub_cancel, Int.add_sub_cancel]; exact p1⟩, ⟨y2 + q, by rw [show a.X + p - 1 - p = a.X - 1 by omega, Int.add_sub_cancel]; exact p2⟩, ⟨x3 + p, by rw [Int.add_sub_cancel, Int.add_sub_cancel]; exact p3⟩, ⟨x4 + p, by rw [show a.Y + q - 1 - q = a.Y - 1 by omega, Int.add_sub_cancel]; exact p4⟩⟩
  · rw [hno]
    refine h.no fun X Y hs => hn (X + p) (Y + q) ?_
    rw [Int.add_sub_cancel, Int.add_sub_cancel]
    exact hs
/-- A living cell of a square. -/
def livP (N : List Nd) (n x : Nat) (X Y : Int) : Prop := (0 ≤ X ∧ X < 2 ^ n) ∧ (0 ≤ Y ∧ Y < 2 ^ n) ∧ getZ N n x X Y = 1
theorem liv_kid {N : List Nd} {n x : Nat} (a b : Bool) (X Y : Int) : livP N n (pick (kidZ N x) a b) (X - off n a) (Y - off n b) ↔ livP N (n + 1) x X Y ∧ qb n X = a ∧ qb n Y = b := by
  unfold livP
  have e : ∀ (Z : Int) (c : Bool), (0 ≤ Z - off n c ∧ Z - off n c < 2 ^ n) ↔ (0 ≤ Z ∧ Z < 2 ^ (n + 1) ∧ qb n Z = c) := fun Z c => rng_off n c Z
  rw [e X a, e Y b, get_off]
  constructor
  · rintro ⟨⟨h1, h2, rfl⟩, ⟨h3, h4, rfl⟩, h5⟩
    exact ⟨⟨⟨h1, h2⟩, ⟨h3, h4⟩, h5⟩, rfl, rfl⟩
  · rintro ⟨⟨⟨h1, h2⟩, ⟨h3, h4⟩, h5⟩, rfl, rfl⟩
    exact ⟨⟨h1, h2, rfl⟩, ⟨h3, h4, rfl⟩, h5⟩
theorem pl_dec (a b : Bool) : decide (pl a b % 2 = 1) = a ∧ decide (2 ≤ pl a b) = b := by cases a <;> cases b <;> decide
theorem bx_step {N : List Nd} {n x : Nat} (ih : ∀ a b, IsB (livP N n (pick (kidZ N x) a b)) (bxZ N n (pick (kidZ N x) a b))) :
    ∀ i, i ≤ 4 → IsB (fun X Y => livP N (n + 1) x X Y ∧ pl (qb n X) (qb n Y) < i) (bxJ n (fun i => bxZ N n (kAt (kidZ N x) i)) i)
  | 0, _ => isB_zero fun X Y h => by omega
  | i + 1, hi => by
    obtain ⟨a, b, rfl⟩ := pl_of (show i < 4 by omega)
    have h1 := bx_step ih (pl a b) (by omega)
    have h2 := isB_mv (ih a b) (off n a) (off n b)
    unfold bxJ
    rw [(pl_dec a b).1, (pl_dec a b).2, ← pick_kAt]
    refine (isB_or h1 h2).of fun X Y => ?_
    rw [liv_kid]
    constructor
    · rintro (⟨h3, h4⟩ | ⟨h3, rfl, rfl⟩)
      · exact ⟨h3, by omega⟩
      · exact ⟨h3, by omega⟩
    · rintro ⟨h3, h4⟩
      rcases Nat.lt_or_ge (pl (qb n X) (qb n Y)) (pl a b) with h5 | h5
      · exact Or.inl ⟨h3, h5⟩
      · exact Or.inr ⟨h3, pl_inj.1 (show pl (qb n X) (qb n Y) = pl a b by omega)⟩
theorem bx_is {N : List Nd} (hw : Wf N) : ∀ {n x : Nat}, Sq N n x → IsB (livP N n x) (bxZ N n x)
  | 0, x, hx => by
    unfold bxZ
    split
    · rename_i h0
      refine isB_zero fun X Y hs => ?_
      have := (ct_zero hw hx).1 h0 X Y
      have := hs.2.2
      omega
    · rename_i h0
      have hx1 : x = 1 := by
        rcases hx.zero hw with rfl | rfl
        · exact absurd ((ct_zero hw hx).2 fun _ _ => rfl) h0
        · rfl
      have hc : ∀ X Y, livP N 0 x X Y ↔ X = 0 ∧ Y = 0 := fun X Y => by
        unfold livP
        have e : (2 : Int) ^ 0 = 1 := rfl
        rw [e]
        constructor
        · rintro ⟨h1, h2, _⟩; omega
        · rintro ⟨rfl, rfl⟩
          exact ⟨by omega, by omega, hx1⟩
      refine ⟨fun X Y hs => ?_, fun _ => ?_, fun hn => absurd ((hc 0 0).2 ⟨rfl, rfl⟩) (hn _ _)⟩
      · obtain ⟨rfl, rfl⟩ := (hc X Y).1 hs
        decide
      · simp only [hc]
        refine ⟨⟨0, ?_⟩, ⟨0, ?_⟩, ⟨0, ?_⟩, ⟨0, ?_⟩⟩ <;> simp
  | n + 1, x, hx => by
    unfold bxZ
    split
    · rename_i h0
      refine isB_zero fun X Y hs => ?_
      have := (ct_zero hw hx).1 h0 X Y
      have := hs.2.2
      omega
    · refine (bx_step (fun a b => bx_is hw (hx.kid hw a b)) 4 (Nat.le_refl _)).of fun X Y => ?_
      have := pl_lt (qb n X) (qb n Y)
      exact ⟨fun h => h.1, fun h => ⟨h, this⟩⟩
/-- Its coordinates are within the square. -/
def RB (n : Nat) (b : R4) : Prop := (0 ≤ b.x ∧ b.x ≤ 2 ^ n) ∧ (0 ≤ b.y ∧ b.y ≤ 2 ^ n) ∧ (0 ≤ b.X ∧ b.X ≤ 2 ^ n) ∧ 0 ≤ b.Y ∧ b.Y ≤ 2 ^ n
theorem rb_zero (n : Nat) : RB n zeR := by
  have := pow_pos2 n
  unfold RB zeR; simp only; omega
theorem rb_or {n : Nat} {a b : R4} (ha : RB n a) (hb : RB n b) : RB n (orR a b) := by
  unfold orR
  split
  · split
    · exact rb_zero n
    · exact hb
  · split
    · exact ha
    · unfold RB at *; simp only; omega
theorem rb_mv {n : Nat} {a : R4} (ha : RB n a) (c d : Bool) : RB (n + 1) (mvR a (off n c) (off n d)) := by
  have h1 := off_rng n c
  have h2 := off_rng n d
  have h3 := pow_two2 n
  unfold RB mvR at *; simp only; omega
theorem rb_bx (N : List Nd) : ∀ (n x : Nat), RB n (bxZ N n x)
  | 0, x => by
    unfold bxZ
    split
    · exact rb_zero 0
    · have e : (2 : Int) ^ 0 = 1 := rfl
      unfold RB; simp only; omega
  | n + 1, x => by
    unfold bxZ
    split
    · exact rb_zero _
    · have : ∀ i, RB (n + 1) (bxJ n (fun i => bxZ N n (kAt (kidZ N x) i)) i) := fun i => by
        induction i with
        | zero => exact rb_zero _
        | succ i ih => exact rb_or ih (rb_mv (rb_bx N n _) _ _)
      exact this 4
theorem rb_bxJ (N : List Nd) (n x : Nat) : ∀ i, RB (n + 1) (bxJ n (fun i => bxZ N n (kAt (kidZ N x) i)) i)
  | 0 => rb_zero _
  | i + 1 => rb_or (rb_bxJ N n x i) (rb_mv (rb_bx N n _) _ _)
end Go.Proofs.YtnfjmmkokhncoaaGreat
end

section
namespace Go.Proofs.YtnfjmmkokhncoaaGreat
open Go.RowKit Go.Maps
set_option maxRecDepth 100000

theorem zeroRc8 (w : World) : (zeroValue 42).run Tryz.prog w = .ok (.agg #[.int .i64 0, .int .i64 0, .int .i64 0, .int .i64 0]) w := by kernel_rfl
/-- A finder's map of rectangles. -/
noncomputable def mkB : Mk 30 42 119 Nat where
  keyed := int_keyed Tryz.underlying30
  ht := Tryz.underlying119
  kv := fun x => .int .u32 (x : Int)
  ok := fun x => x < 1048576
  kl := fun x => .int .u32 (x : Int)
  hkey := fun x h => keyOf_int_mk Tryz.underlying30 (u32_wf (show x < 4294967296 by omega))
  inj := fun a b _ _ h => by
    simp only [Lit.int.injEq, true_and] at h
    omega
  zero := .agg #[.int .i64 0, .int .i64 0, .int .i64 0, .int .i64 0]
  hz := zeroRc8
  few := fun ks hn h => few_of (ok := fun x => x < 1048576) id 1048576 (by decide) (fun a ha => ha) (fun a b _ _ e => e) ks hn h
def fnO (sb cb bb : Nat) : Obj := .cells #[.pointer (some ⟨sb, 0, none⟩), .map (some cb), .map (some bb)] 121 (0, 0)
theorem fn_cells {w : World} {b sb cb bb : Nat} (h : w.heap[b]? = some (fnO sb cb bb)) : w.cell? ⟨b, 0, none⟩ = some (.pointer (some ⟨sb, 0, none⟩)) ∧ w.cell? ⟨b, 1, none⟩ = some (.map (some cb)) ∧ w.cell? ⟨b, 2, none⟩ = some (.map (some bb)) :=
  ⟨by rw [Lib.cell_of_heap h]; rfl, by rw [Lib.cell_of_heap h]; rfl, by rw [Lib.cell_of_heap h]; rfl⟩
/-- A finder of boxes. -/
structure Fn (w : World) (sb g tb cb bb fb most : Nat) (N : List Nd) : Prop where
  st : ∃ cap, St w sb g tb cap most N
  ft : w.heap[fb]? = some (fnO sb cb bb)
  mm : ∃ m, GMap mkB w bb m ∧ ∀ x v, m x = some v → ∃ n, Sq N n x ∧ v = rV (bxZ N n x)
  ne : bb ≠ sb ∧ bb ≠ g ∧ bb ≠ tb
theorem Fn.lt {w : World} {sb g tb cb bb fb most : Nat} {N : List Nd} (h : Fn w sb g tb cb bb fb most N) : sb < w.heap.size ∧ g < w.heap.size ∧ tb < w.heap.size ∧ bb < w.heap.size ∧ fb < w.heap.size := by
  obtain ⟨cap, hs⟩ := h.st
  obtain ⟨m, h1, _⟩ := h.mm
  exact ⟨hs.lt.1, hs.lt.2.1, hs.lt.2.2, h1.lt, (Array.getElem?_eq_some_iff.1 h.ft).1⟩
theorem Fn.fb_ {w : World} {sb g tb cb bb fb most : Nat} {N : List Nd} (h : Fn w sb g tb cb bb fb most N) : fb ≠ bb := by
  obtain ⟨m, h1, _⟩ := h.mm
  obtain ⟨es, cl, h2⟩ := h1.is_map
  intro e
  have := h.ft
  rw [e, h2] at this
  cases this
theorem Fn.later {w w' : World} {sb g tb cb bb fb most : Nat} {N : List Nd} (h : Fn w sb g tb cb bb fb most N) (hb : Below w.heap.size w w') : Fn w' sb g tb cb bb fb most N := by
  obtain ⟨cap, hs⟩ := h.st
  obtain ⟨m, h1, h2⟩ := h.mm
  exact ⟨⟨cap, hs.later hb⟩, keep8 h.ft hb, ⟨m, h1.later hb, h2⟩, h.ne⟩
theorem Fn.drewN {w : World} {sb g tb cb bb fb most : Nat} {N : List Nd} (h : Fn w sb g tb cb bb fb most N) (q : Nat) : Fn (w.drewN q) sb g tb cb bb fb most N := by
  obtain ⟨cap, hs⟩ := h.st
  obtain ⟨m, h1, h2⟩ := h.mm
  exact ⟨⟨cap, hs.drewN q⟩, h.ft, ⟨m, h1.drewN q, h2⟩, h.ne⟩
theorem Fn.set {w : World} {sb g tb cb bb fb most b i : Nat} {N : List Nd} (h : Fn w sb g tb cb bb fb most N) (h1 : b ≠ sb ∧ b ≠ g ∧ b ≠ tb ∧ b ≠ bb ∧ b ≠ fb) (v : Value) : Fn (w.setCell ⟨b, i, none⟩ v) sb g tb cb bb fb most N := by
  obtain ⟨cap, hs⟩ := h.st
  obtain ⟨m, h2, h3⟩ := h.mm
  exact ⟨⟨cap, hs.keep (Below.heap_setCell _ _ _ _ (Ne.symm h1.1)) (Below.heap_setCell _ _ _ _ (Ne.symm h1.2.1)) (Below.heap_setCell _ _ _ _ (Ne.symm h1.2.2.1))⟩, by rw [Below.heap_setCell _ _ _ _ (Ne.symm h1.2.2.2.2)]; exact h.ft, ⟨m, h2.blk (Below.heap_setCell _ _ _ _ (Ne.symm h1.2.2.2.1)), h3⟩, h.ne⟩
/-- A finder remembers. -/
theorem Fn.put {w : World} {sb g tb cb bb fb most : Nat} {N : List Nd} (h : Fn w sb g tb cb bb fb most N) {n x : Nat} (hx : Sq N n x) (b : R4) (hb : b = bxZ N n x) :
    ∃ w', (Instr.mapUpdate 119 (.map (some bb)) (.int .u32 (x : Int)) (.agg #[.int .i64 b.x, .int .i64 b.y, .int .i64 b.X, .int .i64 b.Y])).run Tryz.prog w = .ok () w' ∧ Fn w' sb g tb cb bb fb most N ∧ Frm [bb] w w' := by
  obtain ⟨cap, hs⟩ := h.st
  obtain ⟨m, h1, h2⟩ := h.mm
  obtain ⟨w', r1, r2, r3⟩ := h1.put x (show x < 1048576 by have := hx.lt; have := hs.room; have := hs.most_le; omega) (rV b)
  obtain ⟨n1, n2, n3⟩ := h.ne
  obtain ⟨l1, l2, l3⟩ := hs.lt
  refine ⟨w', r1, ⟨⟨cap, hs.keep (r3.block sb l1 (fun e => n1 (Option.some.inj e).symm)) (r3.block g l2 (fun e => n2 (Option.some.inj e).symm)) (r3.block tb l3 (fun e => n3 (Option.some.inj e).symm))⟩, ?_, ⟨_, r2, fun y v hv => ?_⟩, h.ne⟩, Frm.of_grown r3 (fun b e => by cases e; simp)⟩
  · rw [r3.block fb h.lt.2.2.2.2 (fun e => h.fb_ (Option.some.inj e))]; exact h.ft
  · by_cases e : y = x
    · subst e
      rw [if_pos rfl] at hv
      exact ⟨n, hx, by rw [← Option.some.inj hv, hb]⟩
    · rw [if_neg e] at hv
      exact h2 y v hv
/-- What a finder remembers, asked. -/
theorem Fn.look {w : World} {sb g tb cb bb fb most : Nat} {N : List Nd} (h : Fn w sb g tb cb bb fb most N) {n x : Nat} (hx : Sq N n x) :
    ∃ (b : R4) (ok : Bool), (Instr.lookup 119 (.map (some bb)) (.int .u32 (x : Int)) true).run Tryz.prog w = .ok (.tuple #[.agg #[.int .i64 b.x, .int .i64 b.y, .int .i64 b.X, .int .i64 b.Y], .bool ok]) w ∧ (ok = true → b = bxZ N n x) := by
  obtain ⟨cap, hs⟩ := h.st
  obtain ⟨m, h1, h2⟩ := h.mm
  have hl := h1.look x (show x < 1048576 by have := hx.lt; have := hs.room; have := hs.most_le; omega)
  cases hm : m x with
  | some v =>
    obtain ⟨n', hn, rfl⟩ := h2 x v hm
    have : n' = n := by
      have e : ((n' : Nat) : Int) = (n : Int) := hn.symm.trans hx
      omega
    subst this
    exact ⟨bxZ N n' x, true, hl.1 _ hm, fun _ => rfl⟩
  | none => exact ⟨zeR, false, hl.2 hm, fun h => by cases h⟩
/-- The blocks of box: the result, the box so far. -/
structure Hb8 (w : World) (sb g tb cb bb fb most : Nat) (N : List Nd) (xb : Nat) (acc : R4) (W : World) : Prop where
  fn : Fn W sb g tb cb bb fb most N
  frm : Frm [bb] w W
  res : W.heap[w.heap.size]? = some (rcO8 zeR)
  box : W.heap[xb]? = some (rcO8 acc)
  ne : w.heap.size < xb ∧ xb ≠ bb ∧ w.heap.size ≠ bb
theorem Hb8.later {w W W' : World} {sb g tb cb bb fb most xb : Nat} {N : List Nd} {acc : R4} (h : Hb8 w sb g tb cb bb fb most N xb acc W) (hb : Below W.heap.size W W') : Hb8 w sb g tb cb bb fb most N xb acc W' :=
  ⟨h.fn.later hb, h.frm.trans (Frm.of_below (F := [bb]) hb) (fun _ h => Or.inl h), keep8 h.res hb, keep8 h.box hb, h.ne⟩
theorem Hb8.drewN {w W : World} {sb g tb cb bb fb most xb : Nat} {N : List Nd} {acc : R4} (h : Hb8 w sb g tb cb bb fb most N xb acc W) (q : Nat) : Hb8 w sb g tb cb bb fb most N xb acc (W.drewN q) :=
  ⟨h.fn.drewN q, ⟨h.frm.os, h.frm.tape, h.frm.output, h.frm.size, h.frm.block⟩, h.res, h.box, h.ne⟩
theorem Hb8.call {w W W' : World} {sb g tb cb bb fb most xb : Nat} {N : List Nd} {acc : R4} (h : Hb8 w sb g tb cb bb fb most N xb acc W) (hf : Fn W' sb g tb cb bb fb most N) (hr : Frm [bb] W W') : Hb8 w sb g tb cb bb fb most N xb acc W' :=
  ⟨hf, h.frm.trans hr (fun _ h => Or.inl h), by rw [hr.block _ (Array.getElem?_eq_some_iff.1 h.res).1 (by simp [h.ne.2.2])]; exact h.res, by rw [hr.block _ (Array.getElem?_eq_some_iff.1 h.box).1 (by simp [h.ne.2.1])]; exact h.box, h.ne⟩
theorem Hb8.cells {w W : World} {sb g tb cb bb fb most xb : Nat} {N : List Nd} {acc : R4} (h : Hb8 w sb g tb cb bb fb most N xb acc W) : (W.cell? ⟨xb, 0, none⟩ = some (.int .i64 acc.x) ∧ W.cell? ⟨xb, 1, none⟩ = some (.int .i64 acc.y) ∧ W.cell? ⟨xb, 2, none⟩ = some (.int .i64 acc.X) ∧ W.cell? ⟨xb, 3, none⟩ = some (.int .i64 acc.Y)) ∧
    W.frozen? ⟨xb, 0, none⟩ = false ∧ W.frozen? ⟨xb, 1, none⟩ = false ∧ W.frozen? ⟨xb, 2, none⟩ = false ∧ W.frozen? ⟨xb, 3, none⟩ = false :=
  ⟨rc_cells8 h.box, Lib.frozen_of_heap h.box 0, Lib.frozen_of_heap h.box 1, Lib.frozen_of_heap h.box 2, Lib.frozen_of_heap h.box 3⟩
theorem rc_put8 {w : World} {b : Nat} {r : R4} (h : w.heap[b]? = some (rcO8 r)) (q : R4) : ((((w.setCell ⟨b, 0, none⟩ (.int .i64 q.x)).setCell ⟨b, 1, none⟩ (.int .i64 q.y)).setCell ⟨b, 2, none⟩ (.int .i64 q.X)).setCell ⟨b, 3, none⟩ (.int .i64 q.Y)).heap[b]? = some (rcO8 q) := by
  simp only [World.setCell, Array.getElem?_modify, h, rcO8]; simp
theorem Frm.set4 {F : List Nat} {w W : World} {b : Nat} (h : Frm F w W) (hb : w.heap.size ≤ b) (i : Nat) (v : Value) : Frm F w (W.setCell ⟨b, i, none⟩ v) :=
  ⟨h.os, h.tape, h.output, by simpa using h.size, fun b' hb' hn => by rw [Below.heap_setCell _ _ _ _ (by show b' ≠ b; omega)]; exact h.block b' hb' hn⟩
theorem Hb8.put {w W : World} {sb g tb cb bb fb most xb : Nat} {N : List Nd} {acc : R4} (h : Hb8 w sb g tb cb bb fb most N xb acc W) (hx : xb ≠ sb ∧ xb ≠ g ∧ xb ≠ tb ∧ xb ≠ fb) (q : R4) : Hb8 w sb g tb cb bb fb most N xb q ((((W.setCell ⟨xb, 0, none⟩ (.int .i64 q.x)).setCell ⟨xb, 1, none⟩ (.int .i64 q.y)).setCell ⟨xb, 2, none⟩ (.int .i64 q.X)).setCell ⟨xb, 3, none⟩ (.int .i64 q.Y)) := by
  have hs : xb ≠ sb ∧ xb ≠ g ∧ xb ≠ tb ∧ xb ≠ bb ∧ xb ≠ fb := ⟨hx.1, hx.2.1, hx.2.2.1, h.ne.2.1, hx.2.2.2⟩
  have hlt := h.ne.1
  refine ⟨(((h.fn.set hs _).set hs _).set hs _).set hs _, (((h.frm.set4 (by omega) _ _).set4 (by omega) _ _).set4 (by omega) _ _).set4 (by omega) _ _, ?_, rc_put8 h.box q, h.ne⟩
  rw [Below.heap_setCell _ _ _ _ (by show w.heap.size ≠ xb; omega), Below.heap_setCell _ _ _ _ (by show w.heap.size ≠ xb; omega), Below.heap_setCell _ _ _ _ (by show w.heap.size ≠ xb; omega), Below.heap_setCell _ _ _ _ (by show w.heap.size ≠ xb; omega)]
  exact h.res
theorem or_R4 (a b : R4) (W : World) : Calls Tryz.prog 75 #[.agg #[.int .i64 a.x, .int .i64 a.y, .int .i64 a.X, .int .i64 a.Y], .agg #[.int .i64 b.x, .int .i64 b.y, .int .i64 b.X, .int .i64 b.Y]] W fun e w' => e = .returned (.agg #[.int .i64 (orR a b).x, .int .i64 (orR a b).y, .int .i64 (orR a b).X, .int .i64 (orR a b).Y]) ∧ Below W.heap.size W w' := by
  have := or_any a.x a.y a.X a.Y b.x b.y b.X b.Y W
  have e : valOf (orV a.x a.y a.X a.Y b.x b.y b.X b.Y) = .agg #[.int .i64 (orR a b).x, .int .i64 (orR a b).y, .int .i64 (orR a b).X, .int .i64 (orR a b).Y] := by
    unfold orV orR
    rw [show a.no = noPts a.x a.y a.X a.Y from rfl, show b.no = noPts b.x b.y b.X b.Y from rfl]
    cases noPts a.x a.y a.X a.Y <;> cases noPts b.x b.y b.X b.Y <;> rfl
  rw [e] at this
  exact this
end Go.Proofs.YtnfjmmkokhncoaaGreat
end
