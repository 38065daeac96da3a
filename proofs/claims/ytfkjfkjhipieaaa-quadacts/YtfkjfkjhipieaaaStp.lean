/- The law's step: contract. -/
import Derived.Test.YtfkjfkjhipieaaaBd7
import Derived.Test.YtfkjfkjhipieaaaFis
import Derived.Test.YtfkjfkjhipieaaaSq
import Derived.LaidEqlPtr
import Derived.Deep.CutBlock
namespace Go.Proofs.Ytfkjfkjhipieaaa
open Go.RowKit Go.Maps
set_option maxRecDepth 100000

def acO (k : Nat) (p q : Int) : Obj := .cells #[.int .u8 (k : Int), .int .i64 p, .int .i64 q] 42 (0, 0)
theorem ac_cells {w : World} {b k : Nat} {p q : Int} (h : w.heap[b]? = some (acO k p q)) : w.cell? ⟨b, 0, none⟩ = some (.int .u8 (k : Int)) ∧ w.cell? ⟨b, 1, none⟩ = some (.int .i64 p) ∧ w.cell? ⟨b, 2, none⟩ = some (.int .i64 q) :=
  ⟨by rw [Lib.cell_of_heap h]; rfl, by rw [Lib.cell_of_heap h]; rfl, by rw [Lib.cell_of_heap h]; rfl⟩
def zeO : Obj := .cells #[.pointer none, .int .u32 0] 32 (0, 0)
/-- The law's blocks: the plane, the act, the result, the next plane. -/
structure Sx (W : World) (sb g tb B nb x k : Nat) (p q : Int) (o : Obj) : Prop where
  pl : Ob W sb g tb B (plO sb x)
  ac : Ob W sb g tb (B + 1) (acO k p q)
  res : Ob W sb g tb (B + 1 + 1) zeO
  nxt : Ob W sb g tb nb o
theorem Sx.later {W W' : World} {sb g tb B nb x k : Nat} {p q : Int} {o : Obj} (h : Sx W sb g tb B nb x k p q o) (hb : Below W.heap.size W W') : Sx W' sb g tb B nb x k p q o := ⟨h.pl.later hb, h.ac.later hb, h.res.later hb, h.nxt.later hb⟩
theorem Sx.nx {w w' : World} {sb tb most g g' c B nb x k : Nat} {N N' : List Nd} {p q : Int} {o : Obj} (h : Sx w sb g tb B nb x k p q o) (hn : Nx sb tb most w g N c w' g' N') : Sx w' sb g' tb B nb x k p q o := ⟨h.pl.nx hn, h.ac.nx hn, h.res.nx hn, h.nxt.nx hn⟩
theorem Sx.drew {W : World} {sb g tb B nb x k : Nat} {p q : Int} {o : Obj} (h : Sx W sb g tb B nb x k p q o) : Sx W.drew sb g tb B nb x k p q o := ⟨h.pl.drew, h.ac.drew, h.res.drew, h.nxt.drew⟩
/-- The next plane written. -/
theorem Sx.put {w W : World} {sb tb most g g' c B nb x k : Nat} {N N' : List Nd} {p q : Int} {u v : Value} (h : Sx W sb g' tb B nb x k p q (.cells #[u, v] 32 (0, 0))) (hn : Nx sb tb most w g N c W g' N') (hw : w.heap.size ≤ nb) (h0 : nb ≠ B ∧ nb ≠ B + 1 ∧ nb ≠ B + 1 + 1) (u' v' : Value) :
    ∃ W', (W.setCell ⟨nb, 0, none⟩ u').setCell ⟨nb, 1, none⟩ v' = W' ∧ Nx sb tb most w g N c W' g' N' ∧ Sx W' sb g' tb B nb x k p q (.cells #[u', v'] 32 (0, 0)) := by
  obtain ⟨W', hW, h1, h2, _⟩ := put_pl hn h.nxt hw u' v'
  refine ⟨W', hW, h1, ?_, ?_, ?_, h2⟩
  · rw [← hW]; exact (h.pl.other h0.1 _).other h0.1 _
  · rw [← hW]; exact (h.ac.other h0.2.1 _).other h0.2.1 _
  · rw [← hW]; exact (h.res.other h0.2.2 _).other h0.2.2 _
theorem ro_one (w : World) (x y : Int) (t : TypeId) : Ro (w.alloc (.cells #[.int .i64 x, .int .i64 y] t)) (some ⟨w.heap.size, 0, none⟩) [(x, y)] := fun j c hc => by
  match j, hc with
  | 0, hc => simp at hc; subst hc; exact ⟨_, rfl, by simp, by simp⟩
  | j + 1, hc => simp at hc
theorem Sx.set {W : World} {sb g tb B nb x k i : Nat} {p q : Int} {o : Obj} {b : Nat} (h : Sx W sb g tb B nb x k p q o) (h0 : b ≠ B ∧ b ≠ B + 1 ∧ b ≠ B + 1 + 1 ∧ b ≠ nb) (v : Value) : Sx (W.setCell ⟨b, i, none⟩ v) sb g tb B nb x k p q o :=
  ⟨h.pl.other h0.1 v, h.ac.other h0.2.1 v, h.res.other h0.2.2.1 v, h.nxt.other h0.2.2.2 v⟩
theorem no_cells7 {w : World} {b : Nat} (h : w.heap[b]? = some zeO) : w.cell? ⟨b, 0, none⟩ = some (.pointer none) ∧ w.cell? ⟨b, 1, none⟩ = some (.int .u32 0) := ⟨by rw [Lib.cell_of_heap h]; rfl, by rw [Lib.cell_of_heap h]; rfl⟩
theorem eqNo7 (w : World) : (binOp .eql 32 (.agg #[.pointer none, .int .u32 0]) (.agg #[.pointer none, .int .u32 0])).run Try.prog w = .ok (.bool true) w := by kernel_rfl
theorem cell_s0 (w : World) (v : Value) (t : TypeId) : (w.alloc (.cells #[v] t)).cell? ⟨w.heap.size, 0, none⟩ = some v := by simp
theorem Try.infoSt7 : (Try.prog.info? 73).isSome = true := by kernel_rfl
theorem eqPtr (sb : Nat) (w : World) : (binOp .eql 24 (.pointer (some ⟨sb, 0, none⟩)) (.pointer (some ⟨sb, 0, none⟩))).run Try.prog w = .ok (.bool true) w := by
  obtain ⟨j, hj⟩ := Option.isSome_iff_exists.1 Try.infoSt7
  exact run_eql_ptr_same _ _ Try.underlying24 hj
theorem Nx.drewN {w w' : World} {sb tb most g g' c : Nat} {N N' : List Nd} (h : Nx sb tb most w g N c w' g' N') : Nx sb tb most w g N c w'.drew g' N' := by
  obtain ⟨cap, hs⟩ := h.st
  exact ⟨⟨cap, hs.drew⟩, ⟨h.frm.os, h.frm.tape, h.frm.output, h.frm.size, h.frm.block⟩, h.gin, h.ext⟩
/-- What the law's switch leaves. -/
def Swi (w : World) (sb g tb most : Nat) (M : List Nd) (l : List (Int × Int)) (a : Option Addr) (B nb x k : Nat) (p q : Int) (v12 v13 v14 v15 : Value) (wx : World) : Prop :=
  ∃ g4 M4, Nx sb tb most w g M 358 wx g4 M4 ∧
    ((∃ (n' t : Nat) (l' : List (Int × Int)) (a' : Option Addr) (c' : Nat), v12 = .nilIface ∧ v13 = .int .i64 ((n' : Int) + 1) ∧ v14 = .slice a' (List.length l') c' ∧ v15 = .int .i64 0 ∧ Sx wx sb g4 tb B nb x k p q (plO sb t) ∧ Bd M4 n' t l' ∧ Rw7 wx sb g4 tb a' l' ∧ (∀ off, a' ≠ some ⟨B + 1 + 1, off, none⟩) ∧ (a' = a ∨ ∀ bk off, a' = some ⟨bk, off, none⟩ → B ≤ bk) ∧ l'.length ≤ l.length + 1 ∧ ((onP p && onP q) = true ∨ k % 5 = 2 ∨ k % 5 = 3)) ∨
     (∃ cd : Int, v12 = .iface 63 (.int .i64 cd) ∧ Sx wx sb g4 tb B nb x k p q zeO ∧ ((cd = 8 ∧ v15 = .int .i64 0 ∧ (onP p && onP q) = false ∧ k % 5 ≠ 2 ∧ k % 5 ≠ 3) ∨ (cd = 1 ∧ v15 = .int .i64 1 ∧ k % 5 = 2))))
set_option maxHeartbeats 8000000 in
theorem step_any {w : World} {sb g tb cap most : Nat} {M : List Nd} (h : St w sb g tb cap most M) (hroom : M.length + 400 ≤ most) {n x : Nat} {l : List (Int × Int)} (hbd : Bd M n x l) (a : Option Addr) (cap' : Nat) (hr : Rw7 w sb g tb a l) (hl : l.length ≤ 100) (k : Nat) (hk : k < 256) (p q : Int) :
    Calls Try.prog 10 #[.agg #[.pointer (some ⟨sb, 0, none⟩), .int .u32 (x : Int)], .slice a l.length cap', .agg #[.int .u8 (k : Int), .int .i64 p, .int .i64 q]] w fun e w' => ∃ g' M' n' x' l' a' c', e = .returned (.tuple #[.agg #[.pointer (some ⟨sb, 0, none⟩), .int .u32 ((x' : Nat) : Int)], .slice a' (List.length l') c', .bool true]) ∧ Nx sb tb most w g M 360 w' g' M' ∧ Bd M' n' x' l' ∧ Rw7 w' sb g' tb a' l' ∧ (a' = a ∨ ∀ bk off, a' = some ⟨bk, off, none⟩ → w.heap.size ≤ bk) ∧ l'.length ≤ l.length + 1 := by
  have hxu := Sq.u32 h hbd.sq
  have hn61 := hbd.n61 h.wf
  have HS0 := Lib.hid h
  have HBD := Lib.hid hbd
  have HRW := Lib.hid hr
  have HB := Lib.hid (bel3 w (.cells #[.pointer (some ⟨sb, 0, none⟩), .int .u32 (x : Int)] 32) (.cells #[.int .u8 (k : Int), .int .i64 p, .int .i64 q] 42) (.cells #[.pointer none, .int .u32 0] 32))
  have HP := Lib.hid ((Ob.new h #[.pointer (some ⟨sb, 0, none⟩), .int .u32 (x : Int)] 32).later (bel2 _ (.cells #[.int .u8 (k : Int), .int .i64 p, .int .i64 q] 42) (.cells #[.pointer none, .int .u32 0] 32)))
  have hq0 := (Ob.new (h.later (bel1 w (.cells #[.pointer (some ⟨sb, 0, none⟩), .int .u32 (x : Int)] 32))) #[.int .u8 (k : Int), .int .i64 p, .int .i64 q] 42).later (bel1 _ (.cells #[.pointer none, .int .u32 0] 32))
  rw [show (w.alloc (.cells #[.pointer (some ⟨sb, 0, none⟩), .int .u32 (x : Int)] 32)).heap.size = w.heap.size + 1 by simp] at hq0
  have hr0 := Ob.new (h.later (bel2 w (.cells #[.pointer (some ⟨sb, 0, none⟩), .int .u32 (x : Int)] 32) (.cells #[.int .u8 (k : Int), .int .i64 p, .int .i64 q] 42))) #[.pointer none, .int .u32 0] 32
  rw [show ((w.alloc (.cells #[.pointer (some ⟨sb, 0, none⟩), .int .u32 (x : Int)] 32)).alloc (.cells #[.int .u8 (k : Int), .int .i64 p, .int .i64 q] 42)).heap.size = w.heap.size + 1 + 1 by simp] at hr0
  have HQ : Hid (Ob _ sb g tb (w.heap.size + 1) (acO k p q)) := hq0
  have HR : Hid (Ob _ sb g tb (w.heap.size + 1 + 1) zeO) := hr0
  have HS := Lib.hid (h.later HB.out)
  have HLV := Lib.hid (level_any HS.out x hxu)
  rw [show lvZ M x = ((n + 1 : Nat) : Int) from hbd.sq] at HLV
  clear h hbd hr hq0 hr0
  go_enter Try.func10, Try.ntmps10
  go_wp2_with fail
  generalize ((w.alloc (.cells #[.pointer (some ⟨sb, 0, none⟩), .int .u32 (x : Int)] 32)).alloc (.cells #[.int .u8 (k : Int), .int .i64 p, .int .i64 q] 42)).alloc (.cells #[.pointer none, .int .u32 0] 32) = W0 at *
  refine HLV.out.mono ?_
  rintro e W1 ⟨rfl, rfl⟩
  clear HLV
  obtain ⟨q0, q1, q2⟩ := ac_cells HQ.out.at_
  go_wp2_with fail
  refine (pright_any p q _).mono ?_
  rintro e W2 ⟨rfl, hb⟩
  have hbA := hb.trans ((bel1 W2 (.cells #[.pointer none, .int .u32 0] 32)).mono hb.size)
  have HS3 := Lib.hid (HS.out.later hbA)
  have HB3 := Lib.hid (HB.out.trans (hbA.mono HB.out.size))
  have hnb : w.heap.size ≤ W2.heap.size ∧ W2.heap.size ≠ w.heap.size ∧ W2.heap.size ≠ w.heap.size + 1 ∧ W2.heap.size ≠ w.heap.size + 1 + 1 := by
    have h1 := (HR.out.later hb).lt
    omega
  have HX3 : Hid (Sx (W2.alloc (.cells #[.pointer none, .int .u32 0] 32)) sb g tb w.heap.size W2.heap.size x k p q zeO) :=
    ⟨HP.out.later hbA, HQ.out.later hbA, HR.out.later hbA, Ob.new (HS.out.later hb) _ _⟩
  have HRW3 := Lib.hid (HRW.out.later (HB.out.trans (hbA.mono HB.out.size)))
  clear hb hbA HS HB HP HQ HR q0 q1 q2
  have HN3 := Lib.hid (Nx.of_below HS0.out HB3.out)
  obtain ⟨q0, q1, q2⟩ := ac_cells HX3.out.ac.at_
  go_upto_block 0 with fail
  generalize W2.alloc (.cells #[.pointer none, .int .u32 0] 32) = W3 at *
  generalize W2.heap.size = nb at *
  clear W2
  have HAR : Hid (∀ off, a ≠ some ⟨w.heap.size + 1 + 1, off, none⟩) := fun off e => by
    have := (HRW.out.2 _ off e).2.2.2
    omega
  have HAN : Hid (∀ off, a ≠ some ⟨nb, off, none⟩) := fun off e => by
    have := (HRW.out.2 nb off e).2.2.2
    omega
  go_cut [12, 13, 14, 15] from 28 to 90 (fun v12 v13 v14 v15 wx => Swi w sb g tb most M l a w.heap.size nb x k p q v12 v13 v14 v15 wx)
  case first =>
    have hk5 : k % 5 ≤ 1 ∨ k % 5 = 2 ∨ k % 5 = 3 ∨ k % 5 = 4 := by omega
    rcases hk5 with hk5 | hk5 | hk5 | hk5
    · obtain ⟨p0, p1⟩ := pl_cells HX3.out.pl.at_
      obtain ⟨L, hL1, hL2, hL3, hL4⟩ := lev_ex n hn61 [(p, q)]
      obtain ⟨bz, hbz1, hbz2⟩ : ∃ bz : Bool, ((k : Int) % 5 == 0) = bz ∧ (bz = false → ((k : Int) % 5 == 1) = true) := by
        refine ⟨_, rfl, fun hh => ?_⟩
        simp at hh ⊢
        omega
      have HBZ2 := Lib.hid hbz2
      clear hbz2
      go_upto_if 42 with fail
      go_cut [42] from 43 to 44 (fun v42 wx => v42 = .bool true ∧ wx = W3)
      case first =>
        cases bz
        · have hb1 := HBZ2.out rfl
          go_wp2_with fail
          go_meet
          exact ⟨rfl, rfl⟩
        · go_wp2_with fail
          go_meet
          exact ⟨rfl, rfl⟩
      case rest =>
        obtain ⟨rfl, hwc⟩ := hcut
        subst hwc
        go_upto_region 11 with fail
        go_cut [12] from 45 to 55 (fun v12 wx => ∃ g4 M4, Nx sb tb most w g M 358 wx g4 M4 ∧ Rw7 wx sb g4 tb a l ∧ (((onP p && onP q) = true ∧ v12 = .nilIface ∧ ∃ t : Nat, Sx wx sb g4 tb w.heap.size nb x k p q (plO sb t) ∧ Bd M4 L t (setL l (p, q) bz)) ∨ ((onP p && onP q) = false ∧ v12 = .iface 63 (.int .i64 8) ∧ Sx wx sb g4 tb w.heap.size nb x k p q zeO)))
        case first =>
          by_cases hon' : (onP p && onP q) = true
          · have HON := Lib.hid hon'
            clear hon'
            go_wp2_with fail
            refine (set_any HS3.out HBD.out.sq HBD.out.two HBD.out.em p q bz HON.out (far_of hL1 hL2 hL3 hL4 HON.out)).mono ?_
            rintro e W4 ⟨g4, M4, hnx, hres⟩
            have hlen := hnx.len
            have h2n := HBD.out.two
            have HX4 := Lib.hid (HX3.out.nx hnx)
            have HRW4 := Lib.hid (HRW3.out.nx hnx)
            have HN4 := Lib.hid (HN3.out.trans hnx)
            clear hnx p0 p1 q0 q1 q2
            unfold plV at hres
            rcases hres with ⟨t, rfl, hsq, hal, hem⟩ | ⟨rfl, hfull⟩
            · have hbd4 := HBD.out.set HON.out hsq hal hem
              rw [show n + (L - n) = L by omega] at hbd4
              have HBD4 := Lib.hid hbd4
              clear hsq hal hem hbd4
              obtain ⟨r0, r1, rf0, rf1⟩ := res_cells HX4.out.nxt.at_
              obtain ⟨W, hW, hN, hX⟩ := HX4.out.put HN4.out hnb.1 hnb.2 (.pointer (some ⟨sb, 0, none⟩)) (.int .u32 (t : Int))
              have hrw5 := (HRW4.out.other (b := nb) (i := 0) HAN.out (.pointer (some ⟨sb, 0, none⟩))).other (b := nb) (i := 1) HAN.out (.int .u32 (t : Int))
              rw [hW] at hrw5
              have HW := Lib.hid hW
              have HN5 := Lib.hid hN
              have HX5 := Lib.hid hX
              have HRW5 := Lib.hid hrw5
              clear hW hN hX hrw5
              go_wp2_with fail
              rw [HW.out]
              go_meet
              exact ⟨g4, M4, HN5.out.mono (by omega), HRW5.out, Or.inl ⟨HON.out, rfl, t, HX5.out, HBD4.out⟩⟩
            · exfalso
              omega
          · have HON := Lib.hid (show (onP p && onP q) = false by simpa using hon')
            clear hon'
            go_wp2_with fail
            refine (set_off HS3.out HBD.out.sq HBD.out.two p q bz HON.out).mono ?_
            rintro e W4 ⟨rfl, hb⟩
            have HX4 := Lib.hid (HX3.out.later hb)
            have HN4 := Lib.hid (HN3.out.trans (Nx.of_below HS3.out hb))
            have HRW4 := Lib.hid (HRW3.out.later hb)
            clear hb p0 p1 q0 q1 q2
            obtain ⟨r0, r1, rf0, rf1⟩ := res_cells HX4.out.nxt.at_
            obtain ⟨W, hW, hN, hX⟩ := HX4.out.put HN4.out hnb.1 hnb.2 (.pointer none) (.int .u32 0)
            have hrw5 := (HRW4.out.other (b := nb) (i := 0) HAN.out (.pointer none)).other (b := nb) (i := 1) HAN.out (.int .u32 0)
            rw [hW] at hrw5
            have HW := Lib.hid hW
            have HN5 := Lib.hid hN
            have HX5 := Lib.hid hX
            have HRW5 := Lib.hid hrw5
            clear hW hN hX hrw5
            go_wp2_with fail
            rw [HW.out]
            go_meet
            exact ⟨g, M, HN5.out.mono (by omega), HRW5.out, Or.inr ⟨HON.out, rfl, HX5.out⟩⟩
        case rest =>
          obtain ⟨g4, M4, hN, hrw, hmid⟩ := hcut
          have HN5 := Lib.hid hN
          have HRW5 := Lib.hid hrw
          have HMID := Lib.hid hmid
          clear hN hrw hmid p0 p1 q0 q1 q2
          obtain ⟨o, hX5⟩ : ∃ o, Sx wc sb g4 tb w.heap.size nb x k p q o := by
            rcases HMID.out with ⟨_, _, t, h1, _⟩ | ⟨_, _, h1⟩
            · exact ⟨_, h1⟩
            · exact ⟨_, h1⟩
          have HAC := Lib.hid hX5.ac
          have hrl := hX5.res.lt
          clear hX5
          obtain ⟨q0, q1, q2⟩ := ac_cells HAC.out.at_
          obtain ⟨cap5, hS5⟩ := HN5.out.st
          have HS5 := Lib.hid hS5
          clear hS5
          go_upto_region 12 with fail
          refine region_sq 15 (fun W => Below wc.heap.size wc W) [(0, 1), (1, 2), (4, 1), (6, 1), (7, 1), (8, 2), (10, 1), (11, 2), (12, 1), (13, 1), (2, 0), (3, 0), (5, 0), (9, 0), (14, 0), (15, 3), (16, 3)] (by kernel_rfl) (by kernel_rfl) rfl (by intro c a d v w h; cases d <;> exact h) (by kernel_rfl) (below_drewN (Below.refl _ wc) 1) ?_
          refine ⟨_, ?_, rfl, by rfl, ?_, ?_⟩
          rotate_left
          · intro W; go_simp; first | done | rfl
          conv => arg 6; simp only [Act.put, List.setIfInBounds_toArray, List.set_cons_zero, List.set_cons_succ]
          refine ⟨_, ?_, rfl, by rfl, ?_, ?_⟩
          rotate_left
          · intro W hW
            have y := ac_cells (HAC.out.later hW).at_
            obtain ⟨y0, y1, y2⟩ := y
            go_simp; first | done | rfl
          conv => arg 6; simp only [Act.put, List.setIfInBounds_toArray, List.set_cons_zero, List.set_cons_succ]
          refine ⟨_, ?_, rfl, by rfl, ?_, ?_⟩
          rotate_left
          · intro W; go_simp; first | done | rfl
          conv => arg 6; simp only [Act.put, List.setIfInBounds_toArray, List.set_cons_zero, List.set_cons_succ]
          refine ⟨_, ?_, rfl, by rfl, ?_, ?_⟩
          rotate_left
          · intro W; go_simp; first | done | rfl
          conv => arg 6; simp only [Act.put, List.setIfInBounds_toArray, List.set_cons_zero, List.set_cons_succ]
          refine ⟨_, ?_, rfl, by rfl, ?_, ?_⟩
          rotate_left
          · intro W; go_simp; first | done | rfl
          conv => arg 6; simp only [Act.put, List.setIfInBounds_toArray, List.set_cons_zero, List.set_cons_succ]
          refine ⟨_, ?_, rfl, by rfl, ?_, ?_⟩
          rotate_left
          · intro W hW
            have y := ac_cells (HAC.out.later hW).at_
            obtain ⟨y0, y1, y2⟩ := y
            go_simp; first | done | rfl
          conv => arg 6; simp only [Act.put, List.setIfInBounds_toArray, List.set_cons_zero, List.set_cons_succ]
          refine ⟨_, ?_, rfl, by rfl, ?_, ?_⟩
          rotate_left
          · intro W; go_simp; first | done | rfl
          conv => arg 6; simp only [Act.put, List.setIfInBounds_toArray, List.set_cons_zero, List.set_cons_succ]
          refine ⟨_, ?_, rfl, by rfl, ?_, ?_⟩
          rotate_left
          · intro W hW
            have y := ac_cells (HAC.out.later hW).at_
            obtain ⟨y0, y1, y2⟩ := y
            go_simp; first | done | rfl
          conv => arg 6; simp only [Act.put, List.setIfInBounds_toArray, List.set_cons_zero, List.set_cons_succ]
          refine ⟨_, ?_, rfl, by rfl, ?_, ?_⟩
          rotate_left
          · intro W; go_simp; first | done | rfl
          conv => arg 6; simp only [Act.put, List.setIfInBounds_toArray, List.set_cons_zero, List.set_cons_succ]
          refine ⟨_, ?_, rfl, by rfl, ?_, ?_⟩
          rotate_left
          · intro W; go_simp; first | done | rfl
          conv => arg 6; simp only [Act.put, List.setIfInBounds_toArray, List.set_cons_zero, List.set_cons_succ]
          refine ⟨_, rfl, by rfl, fun K hK => ?_⟩
          go_simp
          refine (of_law p q _).mono ?_
          rintro e w6 ⟨rfl, hb6⟩
          have HB6 : Hid (Below wc.heap.size wc w6) := ⟨hb6.os, hb6.tape, hb6.output, hb6.size, hb6.block⟩
          clear hb6
          refine hK _ _ HB6.out ?_
          clear hK K
          conv => arg 6; simp only [Act.put, List.setIfInBounds_toArray, List.set_cons_zero, List.set_cons_succ]
          refine ⟨_, rfl, by rfl, fun K hK => ?_⟩
          go_simp
          have HB6A := Lib.hid (HB6.out.trans ((bel1 w6 (.cells #[.int .i64 p, .int .i64 q] 48)).mono HB6.out.size))
          refine hK _ _ HB6A.out ?_
          clear hK K
          conv => arg 6; simp only [Act.put, List.setIfInBounds_toArray, List.set_cons_zero, List.set_cons_succ]
          refine ⟨_, rfl, by rfl, fun K hK => ?_⟩
          go_simp
          have hlr : Calls Try.prog 27 #[.slice (some ⟨w6.heap.size, 0, none⟩) 1 1, .int .i64 ((n : Int) + 1)] (w6.alloc (.cells #[.int .i64 p, .int .i64 q] 48)) fun e w' => e = .returned (.int .i64 ((L : Int) + 1)) ∧ w6.alloc (.cells #[.int .i64 p, .int .i64 q] 48) = w' := level_ref [(p, q)] (some ⟨w6.heap.size, 0, none⟩) 1 n L hL1 hL2 hL3 hL4 _ (ro_one w6 p q 48) (by simp)
          have HLR := Lib.hid hlr
          clear hlr
          refine HLR.out.mono ?_
          clear HLR
          rintro e w9 ⟨rfl, rfl⟩
          refine hK _ _ HB6A.out ?_
          clear hK K
          conv => arg 6; simp only [Act.put, List.setIfInBounds_toArray, List.set_cons_zero, List.set_cons_succ]
          refine ⟨_, rfl, by rfl, fun K hK => ?_⟩
          go_simp
          refine (of_law p q _).mono ?_
          rintro e w7 ⟨rfl, hb7⟩
          have HB7 := Lib.hid (HB6A.out.trans (hb7.mono HB6A.out.size))
          clear hb7
          refine hK _ _ HB7.out ?_
          clear hK K
          conv => arg 6; simp only [Act.put, List.setIfInBounds_toArray, List.set_cons_zero, List.set_cons_succ]
          refine ⟨_, rfl, by rfl, fun K hK => ?_⟩
          go_simp
          rw [show ((k : Int).tmod 5 == 0) = bz by rw [IntWalk.rem_in _ _ (by omega)]; exact hbz1]
          refine (set_ref l a cap' p q bz _ (HRW5.out.1.later HB7.out) (by omega)).mono ?_
          rintro e w8 ⟨v, rfl, ho, hb8⟩
          have HO8 := Lib.hid (OwP.mono ho HB7.out.size)
          have HB8 := Lib.hid (HB7.out.trans (hb8.mono HB7.out.size))
          clear ho hb8
          refine hK _ _ HB8.out ?_
          clear hK K
          conv => arg 6; simp only [Act.put, List.setIfInBounds_toArray, List.set_cons_zero, List.set_cons_succ]
          refine ⟨_, rfl, by rfl, fun K hK => ?_⟩
          go_simp
          refine hK _ _ ?_
          clear hK K
          conv => arg 6; simp only [Act.put, List.setIfInBounds_toArray, List.set_cons_zero, List.set_cons_succ]
          refine ⟨_, rfl, by rfl, fun K hK => ?_⟩
          go_simp
          refine hK _ _ ?_
          clear hK K
          conv => arg 6; simp only [Act.put, List.setIfInBounds_toArray, List.set_cons_zero, List.set_cons_succ]
          unfold wpSq
          go_wp2_with fail
          go_meet
          all_goals
            obtain ⟨a8, c8, hv8, hro8, hbk8⟩ := HO8.out.ro
            have hlt8 := HS5.out.lt
            have hrw8 : Rw7 w8 sb g4 tb a8 (setL l (p, q) bz) := ⟨hro8, fun bk off e => by have := hbk8 bk off e; omega⟩
            refine ⟨g4, M4, (HN5.out.trans (Nx.of_below HS5.out HB8.out)).mono (by omega), ?_⟩
            rcases HMID.out with ⟨h1, h2, t, h3, h4⟩ | ⟨h1, h2, h3⟩
            · exact Or.inl ⟨L, t, setL l (p, q) bz, a8, c8, h2, rfl, hv8, rfl, h3.later HB8.out, h4, hrw8, fun off e => by have := hbk8 _ off e; omega, Or.inr (fun bk off e => by have := (hbk8 bk off e).1; have := HN5.out.frm.size; omega), setL_len _ _, Or.inl h1⟩
            · exact Or.inr ⟨8, h2, h3.later HB8.out, Or.inl ⟨rfl, rfl, h1, by omega, by omega⟩⟩
    · have hki : (k : Int) % 5 = 2 := by omega
      obtain ⟨p0, p1⟩ := pl_cells HX3.out.pl.at_
      by_cases htop : n = 61
      · subst htop
        go_wp2_with fail
        refine (expand_top HS3.out HBD.out.sq).mono ?_
        rintro e W4 ⟨rfl, hb⟩
        have HX4 := Lib.hid (HX3.out.later hb)
        have HN4 := Lib.hid (HN3.out.trans (Nx.of_below HS3.out hb))
        clear hb p0 p1 q0 q1 q2
        obtain ⟨r0, r1, rf0, rf1⟩ := res_cells HX4.out.nxt.at_
        go_wp2_with fail
        obtain ⟨W, hW, hN, hX⟩ := HX4.out.put HN4.out hnb.1 hnb.2 (.pointer none) (.int .u32 0)
        rw [hW]
        go_meet
        exact ⟨g, M, hN.mono (by omega), Or.inr ⟨1, rfl, hX, Or.inr ⟨rfl, rfl, hk5⟩⟩⟩
      · have h62 : ((n : Int) + 1 == 62) = false := by simp; omega
        have hww : IntKind.i64.wrap ((n : Int) + 1 + 1) = (n : Int) + 1 + 1 := IntWalk.i64_in _ (by omega)
        go_wp2_with fail
        refine (expand_any HS3.out HBD.out.sq HBD.out.two (by omega) HBD.out.em).mono ?_
        rintro e W4 ⟨g4, M4, hnx, hres⟩
        have hlen := hnx.len
        have HX4 := Lib.hid (HX3.out.nx hnx)
        have HRW4 := Lib.hid (HRW3.out.nx hnx)
        have HN4 := Lib.hid (HN3.out.trans hnx)
        clear hnx p0 p1 q0 q1 q2
        unfold plV at hres
        rcases hres with ⟨t, rfl, hsq, hal, hem⟩ | ⟨rfl, hfull⟩
        · have HBD4 := Lib.hid (HBD.out.up (by have := HBD.out.two; omega) (by omega) hsq hal hem)
          clear hsq hal hem
          obtain ⟨r0, r1, rf0, rf1⟩ := res_cells HX4.out.nxt.at_
          go_wp2_with fail
          obtain ⟨W, hW, hN, hX⟩ := HX4.out.put HN4.out hnb.1 hnb.2 (.pointer (some ⟨sb, 0, none⟩)) (.int .u32 (t : Int))
          have HRW5 := Lib.hid ((HRW4.out.other (b := nb) (i := 0) HAN.out (.pointer (some ⟨sb, 0, none⟩))).other (b := nb) (i := 1) HAN.out (.int .u32 (t : Int)))
          rw [hW] at HRW5 ⊢
          go_meet
          exact ⟨g4, M4, hN.mono (by omega), Or.inl ⟨n + 1, t, l, a, cap', rfl, by go_num, rfl, rfl, hX, HBD4.out, HRW5.out, HAR.out, Or.inl rfl, by omega, Or.inr (Or.inl hk5)⟩⟩
        · exfalso
          omega
    · have hki : (k : Int) % 5 = 3 := by omega
      obtain ⟨p0, p1⟩ := pl_cells HX3.out.pl.at_
      go_wp2_with fail
      refine (trim_any HS3.out HBD.out.sq HBD.out.two HBD.out.em).mono ?_
      rintro e W4 ⟨m, hm2, hmn, ⟨g4, M4, hnx, hres⟩, hmin⟩
      have hlen := hnx.len
      have HX4 := Lib.hid (HX3.out.nx hnx)
      have HRW4 := Lib.hid (HRW3.out.nx hnx)
      have HN4 := Lib.hid (HN3.out.trans hnx)
      clear hnx p0 p1 q0 q1 q2
      unfold plV at hres
      rcases hres with ⟨t, rfl, hsq, hal, hem⟩ | ⟨rfl, hfull⟩
      · have HBD4 := Lib.hid (HBD.out.up hm2 (Nat.le_refl _) hsq hal hem)
        clear hsq hal hem
        obtain ⟨r0, r1, rf0, rf1⟩ := res_cells HX4.out.nxt.at_
        obtain ⟨W, hW, hN, hX⟩ := HX4.out.put HN4.out hnb.1 hnb.2 (.pointer (some ⟨sb, 0, none⟩)) (.int .u32 (t : Int))
        have hrw5 := (HRW4.out.other (b := nb) (i := 0) HAN.out (.pointer (some ⟨sb, 0, none⟩))).other (b := nb) (i := 1) HAN.out (.int .u32 (t : Int))
        rw [hW] at hrw5
        have HW := Lib.hid hW
        have HN5 := Lib.hid hN
        have HX5 := Lib.hid hX
        have HRW5 := Lib.hid hrw5
        have hlr := level_ref l a cap' 2 m hm2 (by omega) (Or.inr HBD4.out.fits) (trim_lev HBD.out hmin) W hrw5.1 (by omega)
        rw [show ((2 : Nat) : Int) + 1 = 3 by rfl] at hlr
        have HLR := Lib.hid hlr
        clear hW hN hX hrw5 hlr hmin
        go_wp2_with fail
        rw [HW.out]
        refine HLR.out.mono ?_
        rintro e W6 ⟨rfl, rfl⟩
        go_wp2_with fail
        go_meet
        exact ⟨g4, M4, HN5.out.mono (by omega), Or.inl ⟨m, t, l, a, cap', rfl, rfl, rfl, rfl, HX5.out, HBD4.out, HRW5.out, HAR.out, Or.inl rfl, by omega, Or.inr (Or.inr hk5)⟩⟩
      · exfalso
        omega
    · have hki : (k : Int) % 5 = 4 := by omega
      obtain ⟨p0, p1⟩ := pl_cells HX3.out.pl.at_
      obtain ⟨L, hL1, hL2, hL3, hL4⟩ := lev_ex n hn61 [(p, q)]
      by_cases hon' : (onP p && onP q) = true
      · have HON := Lib.hid hon'
        clear hon'
        go_wp2_with fail
        refine (reach_any HS3.out HBD.out.sq HBD.out.two HBD.out.em p q HON.out (far_of hL1 hL2 hL3 hL4 HON.out)).mono ?_
        rintro e W4 ⟨g4, M4, hnx, hres⟩
        have hlen := hnx.len
        have HX4 := Lib.hid (HX3.out.nx hnx)
        have HRW4 := Lib.hid (HRW3.out.nx hnx)
        have HN4 := Lib.hid (HN3.out.trans hnx)
        clear hnx p0 p1 q0 q1 q2
        unfold plV at hres
        rcases hres with ⟨t, rfl, hsq, hal, hem⟩ | ⟨rfl, hfull⟩
        · have hbd4 := HBD.out.up (by have := HBD.out.two; omega) (by omega) hsq hal hem
          rw [show n + (L - n) = L by omega] at hbd4
          have HBD4 := Lib.hid hbd4
          clear hsq hal hem hbd4
          obtain ⟨r0, r1, rf0, rf1⟩ := res_cells HX4.out.nxt.at_
          obtain ⟨W, hW, hN, hX⟩ := HX4.out.put HN4.out hnb.1 hnb.2 (.pointer (some ⟨sb, 0, none⟩)) (.int .u32 (t : Int))
          have hrw5 := (HRW4.out.other (b := nb) (i := 0) HAN.out (.pointer (some ⟨sb, 0, none⟩))).other (b := nb) (i := 1) HAN.out (.int .u32 (t : Int))
          rw [hW] at hrw5
          have HW := Lib.hid hW
          have HN5 := Lib.hid hN
          have HX5 := Lib.hid hX
          have HRW5 := Lib.hid hrw5
          clear hW hN hX hrw5
          go_upto_region 8 with fail
          rw [HW.out]
          clear HW r0 r1 rf0 rf1
          obtain ⟨q0, q1, q2⟩ := ac_cells HX5.out.ac.at_
          obtain ⟨cap5, hS5⟩ := HN5.out.st
          go_wp2_with fail
          refine (of_law p q _).mono ?_
          rintro e W6 ⟨rfl, hb⟩
          have hbA := hb.trans ((bel1 W6 (.cells #[.int .i64 p, .int .i64 q] 48)).mono hb.size)
          have HN7 := Lib.hid (HN5.out.trans (Nx.of_below hS5 hbA))
          have HX7 := Lib.hid (HX5.out.later hbA)
          have HRW7 := Lib.hid (HRW5.out.later hbA)
          have HLR := Lib.hid (level_ref [(p, q)] (some ⟨W6.heap.size, 0, none⟩) 1 n L hL1 hL2 hL3 hL4 _ (ro_one W6 p q 48) (by simp))
          clear hb hbA q0 q1 q2 hS5
          go_wp2_with fail
          refine HLR.out.mono ?_
          rintro e W8 ⟨rfl, rfl⟩
          go_wp2_with fail
          go_meet
          exact ⟨g4, M4, HN7.out.mono (by omega), Or.inl ⟨L, t, l, a, cap', rfl, rfl, rfl, rfl, HX7.out, HBD4.out, HRW7.out, HAR.out, Or.inl rfl, by omega, Or.inl HON.out⟩⟩
        · exfalso
          omega
      · have HON := Lib.hid (show (onP p && onP q) = false by simpa using hon')
        clear hon'
        go_wp2_with fail
        refine (reach_off HS3.out HBD.out.sq HBD.out.two p q HON.out).mono ?_
        rintro e W4 ⟨rfl, hb⟩
        have HX4 := Lib.hid (HX3.out.later hb)
        have HN4 := Lib.hid (HN3.out.trans (Nx.of_below HS3.out hb))
        clear hb p0 p1 q0 q1 q2
        obtain ⟨r0, r1, rf0, rf1⟩ := res_cells HX4.out.nxt.at_
        obtain ⟨W, hW, hN, hX⟩ := HX4.out.put HN4.out hnb.1 hnb.2 (.pointer none) (.int .u32 0)
        have HW := Lib.hid hW
        have HN5 := Lib.hid hN
        have HX5 := Lib.hid hX
        clear hW hN hX
        go_upto_region 8 with fail
        rw [HW.out]
        clear HW r0 r1 rf0 rf1
        obtain ⟨q0, q1, q2⟩ := ac_cells HX5.out.ac.at_
        obtain ⟨cap5, hS5⟩ := HN5.out.st
        go_wp2_with fail
        refine (of_law p q _).mono ?_
        rintro e W6 ⟨rfl, hb⟩
        have hbA := hb.trans ((bel1 W6 (.cells #[.int .i64 p, .int .i64 q] 48)).mono hb.size)
        have HN7 := Lib.hid (HN5.out.trans (Nx.of_below hS5 hbA))
        have HX7 := Lib.hid (HX5.out.later hbA)
        have HLR := Lib.hid (level_ref [(p, q)] (some ⟨W6.heap.size, 0, none⟩) 1 n L hL1 hL2 hL3 hL4 _ (ro_one W6 p q 48) (by simp))
        clear hb hbA q0 q1 q2 hS5
        go_wp2_with fail
        refine HLR.out.mono ?_
        rintro e W8 ⟨rfl, rfl⟩
        go_wp2_with fail
        go_meet
        exact ⟨g, M, HN7.out.mono (by omega), Or.inr ⟨8, rfl, HX7.out, Or.inl ⟨rfl, rfl, HON.out, by omega, by omega⟩⟩⟩
  case rest =>
    obtain ⟨g4, M4, hN, hsw⟩ := hcut
    have HN4 := Lib.hid hN
    have HSW := Lib.hid hsw
    obtain ⟨cap4, hS4⟩ := hN.st
    have HS4 := Lib.hid hS4
    have HBD4 := Lib.hid (HBD.out.nx HS0.out.wf hN)
    have HRW4 := Lib.hid (HRW.out.nx hN)
    clear hN hsw hS4 HX3 HS3 HRW3 HN3 q0 q1 q2 HB3
    rcases HSW.out with ⟨n', t, l', a', c', rfl, rfl, rfl, rfl, hX, hbd, hrw, har, hfr, hll, hcond⟩ | ⟨cd, rfl, hX, hcd⟩
    · have HX4 := Lib.hid hX
      have HBT := Lib.hid hbd
      have HRT := Lib.hid hrw
      have HAT := Lib.hid har
      clear hX hbd hrw har HSW
      obtain ⟨q0, q1, q2⟩ := ac_cells HX4.out.ac.at_
      have htu := Sq.u32 HS4.out HBT.out.sq
      have HLV := Lib.hid (level_any HS4.out.drew t htu)
      rw [show lvZ M4 t = ((n' + 1 : Nat) : Int) from HBT.out.sq] at HLV
      rw [show ((n' + 1 : Nat) : Int) = (n' : Int) + 1 by omega] at HLV
      have hcond3 : (onP p && onP q) = true ∨ ((onP p && onP q) = false ∧ ((k : Int) % 5 != 2) = false) ∨ ((onP p && onP q) = false ∧ ((k : Int) % 5 != 2) = true ∧ ((k : Int) % 5 != 3) = false) := by
        cases hon : (onP p && onP q) with
        | true => exact Or.inl rfl
        | false =>
          rw [hon] at hcond
          rcases hcond with h1 | h1 | h1
          · cases h1
          · exact Or.inr (Or.inl ⟨rfl, by simp; omega⟩)
          · exact Or.inr (Or.inr ⟨rfl, by simp; omega, by simp; omega⟩)
      clear hcond
      have heqp := eqPtr sb
      have hlv1 : ((n' : Int) + 1 == (n' : Int) + 1) = true := by simp
      rcases hcond3 with hc1 | ⟨hc1, hc2⟩ | ⟨hc1, hc2, hc3⟩
      all_goals
        go_upto_region 25 with fail
        refine region_sq 20 (fun W => W = wc.drew) [(0, 2), (1, 1), (2, 1), (3, 1), (4, 1), (5, 1), (6, 2), (7, 1), (8, 2), (9, 1), (10, 1), (11, 1), (12, 1), (13, 2), (14, 1), (15, 2), (17, 1), (16, 0), (18, 1), (19, 1), (20, 3), (21, 3), (22, 3)] (by kernel_rfl) (by kernel_rfl) rfl (by intro c a d v w h; cases d <;> exact h) (by kernel_rfl) rfl ?_
        refine ⟨_, ?_, rfl, by rfl, ?_, ?_⟩
        rotate_left
        · rintro W rfl
          have y := pl_cells HX4.out.nxt.drew.at_
          obtain ⟨y0, y1⟩ := y
          have z := pl_cells HX4.out.pl.drew.at_
          obtain ⟨z0, z1⟩ := z
          go_simp; first | done | rfl
        conv => arg 6; simp only [Act.put, List.setIfInBounds_toArray, List.set_cons_zero, List.set_cons_succ]
        refine ⟨_, ?_, rfl, by rfl, ?_, ?_⟩
        rotate_left
        · intro W; go_simp; first | done | rfl
        conv => arg 6; simp only [Act.put, List.setIfInBounds_toArray, List.set_cons_zero, List.set_cons_succ]
        refine ⟨_, ?_, rfl, by rfl, ?_, ?_⟩
        rotate_left
        · intro W; go_simp; first | done | rfl
        conv => arg 6; simp only [Act.put, List.setIfInBounds_toArray, List.set_cons_zero, List.set_cons_succ]
        refine ⟨_, ?_, rfl, by rfl, ?_, ?_⟩
        rotate_left
        · intro W; go_simp; first | done | rfl
        conv => arg 6; simp only [Act.put, List.setIfInBounds_toArray, List.set_cons_zero, List.set_cons_succ]
        refine ⟨_, ?_, rfl, by rfl, ?_, ?_⟩
        rotate_left
        · intro W; go_simp; first | done | rfl
        conv => arg 6; simp only [Act.put, List.setIfInBounds_toArray, List.set_cons_zero, List.set_cons_succ]
        refine ⟨_, ?_, rfl, by rfl, ?_, ?_⟩
        rotate_left
        · intro W; go_simp; first | done | rfl
        conv => arg 6; simp only [Act.put, List.setIfInBounds_toArray, List.set_cons_zero, List.set_cons_succ]
        refine ⟨_, ?_, rfl, by rfl, ?_, ?_⟩
        rotate_left
        · rintro W rfl
          have y := pl_cells HX4.out.nxt.drew.at_
          obtain ⟨y0, y1⟩ := y
          have z := pl_cells HX4.out.pl.drew.at_
          obtain ⟨z0, z1⟩ := z
          go_simp; first | done | rfl
        conv => arg 6; simp only [Act.put, List.setIfInBounds_toArray, List.set_cons_zero, List.set_cons_succ]
        refine ⟨_, ?_, rfl, by rfl, ?_, ?_⟩
        rotate_left
        · intro W; go_simp; first | done | rfl
        conv => arg 6; simp only [Act.put, List.setIfInBounds_toArray, List.set_cons_zero, List.set_cons_succ]
        refine ⟨_, ?_, rfl, by rfl, ?_, ?_⟩
        rotate_left
        · rintro W rfl
          have y := pl_cells HX4.out.nxt.drew.at_
          obtain ⟨y0, y1⟩ := y
          have z := pl_cells HX4.out.pl.drew.at_
          obtain ⟨z0, z1⟩ := z
          go_simp; first | done | rfl
        conv => arg 6; simp only [Act.put, List.setIfInBounds_toArray, List.set_cons_zero, List.set_cons_succ]
        refine ⟨_, ?_, rfl, by rfl, ?_, ?_⟩
        rotate_left
        · intro W; go_simp; first | done | rfl
        conv => arg 6; simp only [Act.put, List.setIfInBounds_toArray, List.set_cons_zero, List.set_cons_succ]
        refine ⟨_, ?_, rfl, by rfl, ?_, ?_⟩
        rotate_left
        · intro W; go_simp; first | done | rfl
        conv => arg 6; simp only [Act.put, List.setIfInBounds_toArray, List.set_cons_zero, List.set_cons_succ]
        refine ⟨_, ?_, rfl, by rfl, ?_, ?_⟩
        rotate_left
        · intro W; go_simp; first | done | rfl
        conv => arg 6; simp only [Act.put, List.setIfInBounds_toArray, List.set_cons_zero, List.set_cons_succ]
        refine ⟨_, ?_, rfl, by rfl, ?_, ?_⟩
        rotate_left
        · intro W; go_simp; first | done | rfl
        conv => arg 6; simp only [Act.put, List.setIfInBounds_toArray, List.set_cons_zero, List.set_cons_succ]
        refine ⟨_, ?_, rfl, by rfl, ?_, ?_⟩
        rotate_left
        · rintro W rfl
          have y := pl_cells HX4.out.nxt.drew.at_
          obtain ⟨y0, y1⟩ := y
          have z := pl_cells HX4.out.pl.drew.at_
          obtain ⟨z0, z1⟩ := z
          go_simp; first | done | rfl
        conv => arg 6; simp only [Act.put, List.setIfInBounds_toArray, List.set_cons_zero, List.set_cons_succ]
        refine ⟨_, ?_, rfl, by rfl, ?_, ?_⟩
        rotate_left
        · intro W; go_simp; first | done | rfl
        conv => arg 6; simp only [Act.put, List.setIfInBounds_toArray, List.set_cons_zero, List.set_cons_succ]
        refine ⟨_, ?_, rfl, by rfl, ?_, ?_⟩
        rotate_left
        · rintro W rfl
          have y := pl_cells HX4.out.nxt.drew.at_
          obtain ⟨y0, y1⟩ := y
          have z := pl_cells HX4.out.pl.drew.at_
          obtain ⟨z0, z1⟩ := z
          go_simp; first | done | rfl
        conv => arg 6; simp only [Act.put, List.setIfInBounds_toArray, List.set_cons_zero, List.set_cons_succ]
        refine ⟨_, ?_, rfl, by rfl, ?_, ?_⟩
        rotate_left
        · intro W; go_simp; first | done | rfl
        conv => arg 6; simp only [Act.put, List.setIfInBounds_toArray, List.set_cons_zero, List.set_cons_succ]
        refine ⟨_, rfl, by rfl, fun K hK => ?_⟩
        go_simp
        refine HLV.out.mono ?_
        rintro e w9 ⟨rfl, rfl⟩
        refine hK _ _ rfl ?_
        clear hK K
        conv => arg 6; simp only [Act.put, List.setIfInBounds_toArray, List.set_cons_zero, List.set_cons_succ]
        refine ⟨_, ?_, rfl, by rfl, ?_, ?_⟩
        rotate_left
        · intro W; go_simp; first | done | rfl
        conv => arg 6; simp only [Act.put, List.setIfInBounds_toArray, List.set_cons_zero, List.set_cons_succ]
        refine ⟨_, ?_, rfl, by rfl, ?_, ?_⟩
        rotate_left
        · intro W; go_simp; first | done | rfl
        conv => arg 6; simp only [Act.put, List.setIfInBounds_toArray, List.set_cons_zero, List.set_cons_succ]
        refine ⟨_, rfl, by rfl, fun K hK => ?_⟩
        have y := res_cells HX4.out.res.at_
        obtain ⟨y0, y1, y2, y3⟩ := y
        go_simp
        refine hK _ _ ?_
        clear hK K y0 y1 y2 y3
        conv => arg 6; simp only [Act.put, List.setIfInBounds_toArray, List.set_cons_zero, List.set_cons_succ]
        refine ⟨_, rfl, by rfl, fun K hK => ?_⟩
        go_simp
        refine hK _ _ ?_
        clear hK K
        conv => arg 6; simp only [Act.put, List.setIfInBounds_toArray, List.set_cons_zero, List.set_cons_succ]
        refine ⟨_, rfl, by rfl, fun K hK => ?_⟩
        go_simp
        refine hK _ _ ?_
        clear hK K
        conv => arg 6; simp only [Act.put, List.setIfInBounds_toArray, List.set_cons_zero, List.set_cons_succ]
        unfold wpSq
        obtain ⟨W, hW, hN, _, s0, s1⟩ := put_pl HN4.out HX4.out.res (by omega) (.pointer (some ⟨sb, 0, none⟩)) (.int .u32 (t : Int))
        have hrw9 := (HRT.out.other (b := w.heap.size + 1 + 1) (i := 0) HAT.out (.pointer (some ⟨sb, 0, none⟩))).other (b := w.heap.size + 1 + 1) (i := 1) HAT.out (.int .u32 (t : Int))
        rw [hW] at hrw9 ⊢
        go_wp2_with fail
        refine bodyPost_ret (v := _) (by simp [results, Try.results10, go_sem, s0, s1]; rfl) rfl ?_
        exact ⟨g4, M4, n', t, l', a', c', rfl, hN.drewN.mono (by omega), HBT.out, hrw9, hfr, hll⟩
    · have HX4 := Lib.hid hX
      clear hX HSW
      obtain ⟨q0, q1, q2⟩ := ac_cells HX4.out.ac.at_
      have hen := eqNo7
      have HNE : Hid (w.heap.size + 1 + 1 < wc.heap.size) := HX4.out.res.lt
      rcases hcd with ⟨rfl, rfl, hc1, hc2, hc3⟩ | ⟨rfl, rfl, hc2⟩
      · have hd2 : ((k : Int) % 5 != 2) = true := by simp; omega
        have hd3 : ((k : Int) % 5 != 3) = true := by simp; omega
        go_upto_region 24 with fail
        refine region_sq 13 (fun W => W.heap[nb]? = some zeO ∧ W.heap[w.heap.size]? = some (plO sb x)) [(0, 2), (1, 1), (2, 1), (3, 1), (4, 0), (5, 0), (6, 1), (7, 2), (8, 1), (9, 1), (10, 1), (11, 0), (12, 0), (13, 3)] (by kernel_rfl) (by kernel_rfl) rfl (by intro c a d v w h; cases d <;> exact h) (by kernel_rfl) ⟨HX4.out.nxt.at_, HX4.out.pl.at_⟩ ?_
        refine ⟨_, ?_, rfl, by rfl, ?_, ?_⟩
        rotate_left
        · intro W hW
          have y := no_cells7 hW.1
          obtain ⟨y0, y1⟩ := y
          have z := pl_cells hW.2
          obtain ⟨z0, z1⟩ := z
          go_simp; first | done | rfl
        conv => arg 6; simp only [Act.put, List.setIfInBounds_toArray, List.set_cons_zero, List.set_cons_succ]
        refine ⟨_, ?_, rfl, by rfl, ?_, ?_⟩
        rotate_left
        · intro W; go_simp; first | done | rfl
        conv => arg 6; simp only [Act.put, List.setIfInBounds_toArray, List.set_cons_zero, List.set_cons_succ]
        refine ⟨_, ?_, rfl, by rfl, ?_, ?_⟩
        rotate_left
        · intro W; go_simp; first | done | rfl
        conv => arg 6; simp only [Act.put, List.setIfInBounds_toArray, List.set_cons_zero, List.set_cons_succ]
        refine ⟨_, ?_, rfl, by rfl, ?_, ?_⟩
        rotate_left
        · intro W; go_simp; first | done | rfl
        conv => arg 6; simp only [Act.put, List.setIfInBounds_toArray, List.set_cons_zero, List.set_cons_succ]
        refine ⟨_, rfl, by rfl, fun K hK => ?_⟩
        go_simp
        have HBA : Hid (Below wc.heap.size wc (wc.alloc (.cells #[.int .i64 8] 63)).drew) := below_drewN (bel1 wc (.cells #[.int .i64 8] 63)) 1
        have HCE : Hid ((wc.alloc (.cells #[.int .i64 8] 63)).drew.cell? ⟨wc.heap.size, 0, none⟩ = some (.int .i64 8)) := cell_s0 wc _ _
        refine hK _ _ ⟨(HX4.out.nxt.later HBA.out).at_, (HX4.out.pl.later HBA.out).at_⟩ ?_
        clear hK K
        generalize (wc.alloc (.cells #[.int .i64 8] 63)).drew = w6 at *
        conv => arg 6; simp only [Act.put, List.setIfInBounds_toArray, List.set_cons_zero, List.set_cons_succ]
        refine ⟨_, rfl, by rfl, fun K hK => ?_⟩
        go_simp
        refine (fis_one 8 (by omega) _ _ _ HCE.out).mono ?_
        rintro e w9 ⟨rfl, rfl⟩
        refine hK _ _ ⟨(HX4.out.nxt.later HBA.out).at_, (HX4.out.pl.later HBA.out).at_⟩ ?_
        clear hK K
        conv => arg 6; simp only [Act.put, List.setIfInBounds_toArray, List.set_cons_zero, List.set_cons_succ]
        refine ⟨_, ?_, rfl, by rfl, ?_, ?_⟩
        rotate_left
        · intro W; go_simp; first | done | rfl
        conv => arg 6; simp only [Act.put, List.setIfInBounds_toArray, List.set_cons_zero, List.set_cons_succ]
        refine ⟨_, ?_, rfl, by rfl, ?_, ?_⟩
        rotate_left
        · intro W hW
          have y := no_cells7 hW.1
          obtain ⟨y0, y1⟩ := y
          have z := pl_cells hW.2
          obtain ⟨z0, z1⟩ := z
          go_simp; first | done | rfl
        conv => arg 6; simp only [Act.put, List.setIfInBounds_toArray, List.set_cons_zero, List.set_cons_succ]
        refine ⟨_, ?_, rfl, by rfl, ?_, ?_⟩
        rotate_left
        · intro W; go_simp; first | done | rfl
        conv => arg 6; simp only [Act.put, List.setIfInBounds_toArray, List.set_cons_zero, List.set_cons_succ]
        refine ⟨_, ?_, rfl, by rfl, ?_, ?_⟩
        rotate_left
        · intro W; go_simp; first | done | rfl
        conv => arg 6; simp only [Act.put, List.setIfInBounds_toArray, List.set_cons_zero, List.set_cons_succ]
        refine ⟨_, ?_, rfl, by rfl, ?_, ?_⟩
        rotate_left
        · intro W; go_simp; first | done | rfl
        conv => arg 6; simp only [Act.put, List.setIfInBounds_toArray, List.set_cons_zero, List.set_cons_succ]
        refine ⟨_, rfl, by rfl, fun K hK => ?_⟩
        have y := res_cells (HX4.out.later HBA.out).res.at_
        obtain ⟨y0, y1, y2, y3⟩ := y
        go_simp
        have HD11 : Hid (((w6.setCell ⟨w.heap.size + 1 + 1, 0, none⟩ (.pointer (some ⟨sb, 0, none⟩))).setCell ⟨w.heap.size + 1 + 1, 1, none⟩ (.int .u32 (x : Int))).heap[nb]? = some zeO ∧ ((w6.setCell ⟨w.heap.size + 1 + 1, 0, none⟩ (.pointer (some ⟨sb, 0, none⟩))).setCell ⟨w.heap.size + 1 + 1, 1, none⟩ (.int .u32 (x : Int))).heap[w.heap.size]? = some (plO sb x)) := ⟨by rw [Below.heap_setCell _ _ _ _ hnb.2.2.2, Below.heap_setCell _ _ _ _ hnb.2.2.2]; exact (HX4.out.nxt.later HBA.out).at_, by rw [Below.heap_setCell _ _ _ _ (by show w.heap.size ≠ w.heap.size + 1 + 1; omega), Below.heap_setCell _ _ _ _ (by show w.heap.size ≠ w.heap.size + 1 + 1; omega)]; exact (HX4.out.pl.later HBA.out).at_⟩
        refine hK _ _ HD11.out ?_
        clear hK K y0 y1 y2 y3
        conv => arg 6; simp only [Act.put, List.setIfInBounds_toArray, List.set_cons_zero, List.set_cons_succ]
        refine ⟨_, rfl, by rfl, fun K hK => ?_⟩
        go_simp
        refine hK _ _ HD11.out ?_
        clear hK K
        conv => arg 6; simp only [Act.put, List.setIfInBounds_toArray, List.set_cons_zero, List.set_cons_succ]
        refine ⟨_, rfl, by rfl, fun K hK => ?_⟩
        go_simp
        refine hK _ _ ?_
        clear hK K
        conv => arg 6; simp only [Act.put, List.setIfInBounds_toArray, List.set_cons_zero, List.set_cons_succ]
        unfold wpSq
        have hX9 := HX4.out.later HBA.out
        obtain ⟨W, hW, hN, _, s0, s1⟩ := put_pl (HN4.out.trans (Nx.of_below HS4.out HBA.out)) hX9.res (by omega) (.pointer (some ⟨sb, 0, none⟩)) (.int .u32 (x : Int))
        have hrw9 := ((HRW4.out.later HBA.out).other (b := w.heap.size + 1 + 1) (i := 0) HAR.out (.pointer (some ⟨sb, 0, none⟩))).other (b := w.heap.size + 1 + 1) (i := 1) HAR.out (.int .u32 (x : Int))
        rw [hW] at hrw9 ⊢
        go_wp2_with fail
        refine bodyPost_ret (v := _) (by simp [results, Try.results10, go_sem, s0, s1]; rfl) rfl ?_
        exact ⟨g4, M4, n, x, l, a, cap', rfl, hN.mono (by omega), HBD4.out, hrw9, Or.inl rfl, by omega⟩
      · have hd2 : ((k : Int) % 5 != 2) = false := by simp; omega
        rcases Bool.eq_false_or_eq_true (onP p && onP q) with hc1 | hc1
        all_goals
          go_upto_region 24 with fail
          refine region_sq 13 (fun W => W.heap[nb]? = some zeO ∧ W.heap[w.heap.size]? = some (plO sb x)) [(0, 2), (1, 1), (2, 1), (3, 1), (4, 0), (5, 0), (6, 1), (7, 2), (8, 1), (9, 1), (10, 1), (11, 0), (12, 0), (13, 3)] (by kernel_rfl) (by kernel_rfl) rfl (by intro c a d v w h; cases d <;> exact h) (by kernel_rfl) ⟨HX4.out.nxt.at_, HX4.out.pl.at_⟩ ?_
          refine ⟨_, ?_, rfl, by rfl, ?_, ?_⟩
          rotate_left
          · intro W hW
            have y := no_cells7 hW.1
            obtain ⟨y0, y1⟩ := y
            have z := pl_cells hW.2
            obtain ⟨z0, z1⟩ := z
            go_simp; first | done | rfl
          conv => arg 6; simp only [Act.put, List.setIfInBounds_toArray, List.set_cons_zero, List.set_cons_succ]
          refine ⟨_, ?_, rfl, by rfl, ?_, ?_⟩
          rotate_left
          · intro W; go_simp; first | done | rfl
          conv => arg 6; simp only [Act.put, List.setIfInBounds_toArray, List.set_cons_zero, List.set_cons_succ]
          refine ⟨_, ?_, rfl, by rfl, ?_, ?_⟩
          rotate_left
          · intro W; go_simp; first | done | rfl
          conv => arg 6; simp only [Act.put, List.setIfInBounds_toArray, List.set_cons_zero, List.set_cons_succ]
          refine ⟨_, ?_, rfl, by rfl, ?_, ?_⟩
          rotate_left
          · intro W; go_simp; first | done | rfl
          conv => arg 6; simp only [Act.put, List.setIfInBounds_toArray, List.set_cons_zero, List.set_cons_succ]
          refine ⟨_, rfl, by rfl, fun K hK => ?_⟩
          go_simp
          have HBA : Hid (Below wc.heap.size wc (wc.alloc (.cells #[.int .i64 1] 63)).drew) := below_drewN (bel1 wc (.cells #[.int .i64 1] 63)) 1
          have HCE : Hid ((wc.alloc (.cells #[.int .i64 1] 63)).drew.cell? ⟨wc.heap.size, 0, none⟩ = some (.int .i64 1)) := cell_s0 wc _ _
          refine hK _ _ ⟨(HX4.out.nxt.later HBA.out).at_, (HX4.out.pl.later HBA.out).at_⟩ ?_
          clear hK K
          generalize (wc.alloc (.cells #[.int .i64 1] 63)).drew = w6 at *
          conv => arg 6; simp only [Act.put, List.setIfInBounds_toArray, List.set_cons_zero, List.set_cons_succ]
          refine ⟨_, rfl, by rfl, fun K hK => ?_⟩
          go_simp
          refine (fis_one 1 (by omega) _ _ _ HCE.out).mono ?_
          rintro e w9 ⟨rfl, rfl⟩
          refine hK _ _ ⟨(HX4.out.nxt.later HBA.out).at_, (HX4.out.pl.later HBA.out).at_⟩ ?_
          clear hK K
          conv => arg 6; simp only [Act.put, List.setIfInBounds_toArray, List.set_cons_zero, List.set_cons_succ]
          refine ⟨_, ?_, rfl, by rfl, ?_, ?_⟩
          rotate_left
          · intro W; go_simp; first | done | rfl
          conv => arg 6; simp only [Act.put, List.setIfInBounds_toArray, List.set_cons_zero, List.set_cons_succ]
          refine ⟨_, ?_, rfl, by rfl, ?_, ?_⟩
          rotate_left
          · intro W hW
            have y := no_cells7 hW.1
            obtain ⟨y0, y1⟩ := y
            have z := pl_cells hW.2
            obtain ⟨z0, z1⟩ := z
            go_simp; first | done | rfl
          conv => arg 6; simp only [Act.put, List.setIfInBounds_toArray, List.set_cons_zero, List.set_cons_succ]
          refine ⟨_, ?_, rfl, by rfl, ?_, ?_⟩
          rotate_left
          · intro W; go_simp; first | done | rfl
          conv => arg 6; simp only [Act.put, List.setIfInBounds_toArray, List.set_cons_zero, List.set_cons_succ]
          refine ⟨_, ?_, rfl, by rfl, ?_, ?_⟩
          rotate_left
          · intro W; go_simp; first | done | rfl
          conv => arg 6; simp only [Act.put, List.setIfInBounds_toArray, List.set_cons_zero, List.set_cons_succ]
          refine ⟨_, ?_, rfl, by rfl, ?_, ?_⟩
          rotate_left
          · intro W; go_simp; first | done | rfl
          conv => arg 6; simp only [Act.put, List.setIfInBounds_toArray, List.set_cons_zero, List.set_cons_succ]
          refine ⟨_, rfl, by rfl, fun K hK => ?_⟩
          have y := res_cells (HX4.out.later HBA.out).res.at_
          obtain ⟨y0, y1, y2, y3⟩ := y
          go_simp
          have HD11 : Hid (((w6.setCell ⟨w.heap.size + 1 + 1, 0, none⟩ (.pointer (some ⟨sb, 0, none⟩))).setCell ⟨w.heap.size + 1 + 1, 1, none⟩ (.int .u32 (x : Int))).heap[nb]? = some zeO ∧ ((w6.setCell ⟨w.heap.size + 1 + 1, 0, none⟩ (.pointer (some ⟨sb, 0, none⟩))).setCell ⟨w.heap.size + 1 + 1, 1, none⟩ (.int .u32 (x : Int))).heap[w.heap.size]? = some (plO sb x)) := ⟨by rw [Below.heap_setCell _ _ _ _ hnb.2.2.2, Below.heap_setCell _ _ _ _ hnb.2.2.2]; exact (HX4.out.nxt.later HBA.out).at_, by rw [Below.heap_setCell _ _ _ _ (by show w.heap.size ≠ w.heap.size + 1 + 1; omega), Below.heap_setCell _ _ _ _ (by show w.heap.size ≠ w.heap.size + 1 + 1; omega)]; exact (HX4.out.pl.later HBA.out).at_⟩
          refine hK _ _ HD11.out ?_
          clear hK K y0 y1 y2 y3
          conv => arg 6; simp only [Act.put, List.setIfInBounds_toArray, List.set_cons_zero, List.set_cons_succ]
          refine ⟨_, rfl, by rfl, fun K hK => ?_⟩
          go_simp
          refine hK _ _ HD11.out ?_
          clear hK K
          conv => arg 6; simp only [Act.put, List.setIfInBounds_toArray, List.set_cons_zero, List.set_cons_succ]
          refine ⟨_, rfl, by rfl, fun K hK => ?_⟩
          go_simp
          refine hK _ _ ?_
          clear hK K
          conv => arg 6; simp only [Act.put, List.setIfInBounds_toArray, List.set_cons_zero, List.set_cons_succ]
          unfold wpSq
          have hX9 := HX4.out.later HBA.out
          obtain ⟨W, hW, hN, _, s0, s1⟩ := put_pl (HN4.out.trans (Nx.of_below HS4.out HBA.out)) hX9.res (by omega) (.pointer (some ⟨sb, 0, none⟩)) (.int .u32 (x : Int))
          have hrw9 := ((HRW4.out.later HBA.out).other (b := w.heap.size + 1 + 1) (i := 0) HAR.out (.pointer (some ⟨sb, 0, none⟩))).other (b := w.heap.size + 1 + 1) (i := 1) HAR.out (.int .u32 (x : Int))
          rw [hW] at hrw9 ⊢
          go_wp2_with fail
          refine bodyPost_ret (v := _) (by simp [results, Try.results10, go_sem, s0, s1]; rfl) rfl ?_
          exact ⟨g4, M4, n, x, l, a, cap', rfl, hN.mono (by omega), HBD4.out, hrw9, Or.inl rfl, by omega⟩
end Go.Proofs.Ytfkjfkjhipieaaa
