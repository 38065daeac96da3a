-- M18
import Derived.Test.YtnfjmmkokhncoaaGreatProg
import Derived.WalkKit
import Derived.WalkLawsBesides
import Derived.Lib.Hide
import Derived.Deep.LoopGhost
import Derived.Below
import Derived.Laws.BytesArg
import Derived.Stop.Asserts
import Derived.RowKitTokens
import Derived.Test.YtnfjmmkokhncoaaGreatPs8
import Derived.Test.YtnfjmmkokhncoaaGreatM15
import Derived.Test.YtnfjmmkokhncoaaGreatM16
import Derived.Test.YtnfjmmkokhncoaaGreatM17
import Derived.Test.YtnfjmmkokhncoaaGreatM05
import Derived.Deep.CutBlock
import Derived.Deep.DeepCutAuto
import Derived.Deep.CutRange
section
namespace Go.Proofs.YtnfjmmkokhncoaaGreat
open Go.RowKit Go.Extern.Stop Go.Stop Go.Extern

/-- Two interface values that hold numbers of one integer type: equal just as the numbers are. -/
theorem eq_nums {P : Program} (w : World) {ti tn : TypeId} {ms : Array (String × TypeId)} {i : TypeInfo} {k : IntKind} (a b : Int)
    (hi : P.underlying ti = some (.interface ms)) (hn : P.underlying tn = some (.int k)) (hinfo : P.info? tn = some i) (hc : i.comparable = true) :
    (binOp .eql ti (.iface tn (.int k a)) (.iface tn (.int k b))).run P w = .ok (.bool (a == b)) w := by
  have h : ∀ d : Nat, (Op.equalIn (d + 2) ti (.iface tn (.int k a)) (.iface tn (.int k b))).run P w = .ok (a == b) w := fun d => by
    simp [Op.equalIn, run_underlying hi, run_underlying hn, typeInfo, hinfo, hc]
  simp only [binOp]
  simp [Op.equal, Op.maxDepth, h 9998]
theorem Tryz.mComparable (h : Value) (w : World) : (Go.method 320 172 (.agg #[h]) "Comparable").run Tryz.prog w = .ok (126, .agg #[h]) w := by kernel_rfl
theorem Tryz.cErrno (w : World) : (callFunc 126 #[.agg #[.pointer (some ⟨0, 52, none⟩)]]).run Tryz.prog w = .ok (.value (.bool true)) w := by kernel_rfl
theorem Tryz.tErrno (v : Value) (w : World) : (ReflectliteType.typeOf #[.iface 52 v]).run Tryz.prog w = .ok (.iface 172 (.agg #[.pointer (some ⟨0, 52, none⟩)])) w := by kernel_rfl
theorem Tryz.iErrno : (Tryz.prog.info? 52).map (·.comparable) = some true := by kernel_rfl
set_option maxHeartbeats 1000000 in
theorem is_one (c : Int) (w : World) :
    Calls Tryz.prog 92 #[.iface 52 (.int .i64 c), .iface 52 (.int .i64 c), .bool true] w fun e w' => e = .returned (.bool true) ∧ w = w' := by
  obtain ⟨i, hi, hcmp⟩ := Option.map_eq_some_iff.1 Tryz.iErrno
  have heq := fun w => eq_nums (P := Tryz.prog) w c c Tryz.underlying48 Tryz.underlying52 hi hcmp
  rw [show (c == c) = true by simp] at heq
  go_enter Tryz.func92, Tryz.ntmps92
  go_wp2
  go_loopg [0] 0 (fun k x wr => k = 0 ∧ x = .iface 52 (.int .i64 c) ∧ wr = w)
  case atStart => exact ⟨rfl, rfl, rfl⟩
  case round =>
    obtain ⟨_, rfl, rfl⟩ := hrel
    go_wp2
    go_ret
    exact ⟨rfl, rfl⟩
set_option maxHeartbeats 1000000 in
theorem isErr_one (c : Int) (w : World) :
    Calls Tryz.prog 70 #[.iface 52 (.int .i64 c), .iface 52 (.int .i64 c)] w fun e w' => e = .returned (.bool true) ∧ w = w' := by
  have h8 := @run_callFunc_extern Tryz.prog 91 _ ReflectliteType.typeOf Tryz.func91 (by kernel_rfl) (by kernel_rfl) (by kernel_rfl) (by kernel_rfl)
  have tT := Tryz.tErrno
  have cT := Tryz.cErrno
  have mR := Tryz.mComparable
  go_enter Tryz.func70, Tryz.ntmps70
  go_wp2_with fail
  refine (is_one c _).mono ?_
  rintro e w' ⟨rfl, rfl⟩
  go_wp2
  go_ret
  exact ⟨rfl, rfl⟩
theorem isNum_one (c : Int) (hc : c ≠ 0) (w : World) :
    Calls Tryz.prog 39 #[.iface 52 (.int .i64 c), .int .i64 c] w fun e w' => e = .returned (.bool true) ∧ w = w' := by
  have h' : (c == 0) = false := by simpa using hc
  go_enter Tryz.func39, Tryz.ntmps39
  go_wp2_with fail
  refine (isErr_one c _).mono ?_
  rintro e w' ⟨rfl, rfl⟩
  go_wp2
  go_ret
  exact ⟨rfl, rfl⟩
theorem fis_one (c : Int) (hc : c ≠ 0) (bk cap : Nat) (w : World) (h : w.cell? ⟨bk, 0, none⟩ = some (.int .i64 c)) :
    Calls Tryz.prog 12 #[.iface 52 (.int .i64 c), .slice (some ⟨bk, 0, none⟩) 1 cap] w fun e w' => e = .returned (.bool true) ∧ w = w' := by
  go_enter Tryz.func12, Tryz.ntmps12
  go_wp2
  go_loopg [9] 0 (fun k x wr => k = 0 ∧ x = .int .i64 0 ∧ wr = w)
  case atStart => exact ⟨rfl, rfl, rfl⟩
  case round =>
    obtain ⟨_, rfl, rfl⟩ := hrel
    go_wp2_with fail
    refine (isNum_one c hc _).mono ?_
    rintro e w' ⟨rfl, rfl⟩
    go_wp2
    go_ret
    exact ⟨rfl, rfl⟩
end Go.Proofs.YtnfjmmkokhncoaaGreat
end

section
namespace Go.Proofs.YtnfjmmkokhncoaaGreat
open Go.RowKit Go.Maps
set_option maxRecDepth 100000

def acO8 (k : Nat) (p q : Int) (W H : Nat) (sl : Value) (over : Bool) : Obj := .cells #[.int .u8 (k : Int), .int .i64 p, .int .i64 q, .int .u8 (W : Int), .int .u8 (H : Int), sl, .bool over] 38 (0, 0)
theorem ac_cells8 {w : World} {b k W H : Nat} {p q : Int} {sl : Value} {over : Bool} (h : w.heap[b]? = some (acO8 k p q W H sl over)) : w.cell? ⟨b, 0, none⟩ = some (.int .u8 (k : Int)) ∧ w.cell? ⟨b, 1, none⟩ = some (.int .i64 p) ∧ w.cell? ⟨b, 2, none⟩ = some (.int .i64 q) ∧ w.cell? ⟨b, 3, none⟩ = some (.int .u8 (W : Int)) ∧ w.cell? ⟨b, 4, none⟩ = some (.int .u8 (H : Int)) ∧ w.cell? ⟨b, 5, none⟩ = some sl ∧ w.cell? ⟨b, 6, none⟩ = some (.bool over) :=
  ⟨by rw [Lib.cell_of_heap h]; rfl, by rw [Lib.cell_of_heap h]; rfl, by rw [Lib.cell_of_heap h]; rfl, by rw [Lib.cell_of_heap h]; rfl, by rw [Lib.cell_of_heap h]; rfl, by rw [Lib.cell_of_heap h]; rfl, by rw [Lib.cell_of_heap h]; rfl⟩
def lbO (v : Value) : Obj := .cells #[v] 35 (0, 0)
theorem lb_cell {w : World} {b : Nat} {v : Value} (h : w.heap[b]? = some (lbO v)) : w.cell? ⟨b, 0, none⟩ = some v ∧ w.frozen? ⟨b, 0, none⟩ = false := ⟨by rw [Lib.cell_of_heap h]; rfl, Lib.frozen_of_heap h 0⟩
/-- The step's blocks: the plane, the cells, the act, the result. -/
structure S8x (W : World) (sb g tb B x : Nat) (A : Obj) (v : Value) : Prop where
  pl : Ob W sb g tb B (plO sb x)
  lb : Ob W sb g tb (B + 1) (lbO v)
  ac : Ob W sb g tb (B + 1 + 1) A
  res : Ob W sb g tb (B + 1 + 1 + 1) zeO8
theorem S8x.later {W W' : World} {sb g tb B x : Nat} {A : Obj} {v : Value} (h : S8x W sb g tb B x A v) (hb : Below W.heap.size W W') : S8x W' sb g tb B x A v := ⟨h.pl.later hb, h.lb.later hb, h.ac.later hb, h.res.later hb⟩
theorem S8x.nx {w w' : World} {sb tb most g g' c B x : Nat} {N N' : List Nd} {A : Obj} {v : Value} (h : S8x w sb g tb B x A v) (hn : Nx sb tb most w g N c w' g' N') : S8x w' sb g' tb B x A v := ⟨h.pl.nx hn, h.lb.nx hn, h.ac.nx hn, h.res.nx hn⟩
theorem S8x.set {W : World} {sb g tb B x b i : Nat} {A : Obj} {v : Value} (h : S8x W sb g tb B x A v) (hb : B + 1 + 1 + 1 < b) (u : Value) : S8x (W.setCell ⟨b, i, none⟩ u) sb g tb B x A v :=
  ⟨h.pl.other (by show b ≠ _; omega) u, h.lb.other (by show b ≠ _; omega) u, h.ac.other (by show b ≠ _; omega) u, h.res.other (by show b ≠ _; omega) u⟩
theorem S8x.lt {W : World} {sb g tb B x : Nat} {A : Obj} {v : Value} (h : S8x W sb g tb B x A v) : B + 1 + 1 + 1 < W.heap.size := h.res.lt
theorem s8_start {w : World} {sb g tb cap most : Nat} {N : List Nd} (h : St w sb g tb cap most N) (x : Nat) (v : Value) (cs : Array Value) (t : TypeId) :
    ∃ W, ((((w.alloc (.cells #[.pointer (some ⟨sb, 0, none⟩), .int .u32 (x : Int)] 32)).alloc (.cells #[v] 35)).alloc (.cells cs t)).alloc (.cells #[.pointer none, .int .u32 0] 32)) = W ∧ Below w.heap.size w W ∧ S8x W sb g tb w.heap.size x (.cells cs t (0, 0)) v ∧ W.heap.size = w.heap.size + 1 + 1 + 1 + 1 := by
  obtain ⟨l1, l2, l3⟩ := h.lt
  have hb : Below w.heap.size w ((((w.alloc (.cells #[.pointer (some ⟨sb, 0, none⟩), .int .u32 (x : Int)] 32)).alloc (.cells #[v] 35)).alloc (.cells cs t)).alloc (.cells #[.pointer none, .int .u32 0] 32)) := by go_grown
  have h4 := heap_alloc_new (((w.alloc (.cells #[.pointer (some ⟨sb, 0, none⟩), .int .u32 (x : Int)] 32)).alloc (.cells #[v] 35)).alloc (.cells cs t)) (.cells #[.pointer none, .int .u32 0] 32)
  rw [show (((w.alloc (.cells #[.pointer (some ⟨sb, 0, none⟩), .int .u32 (x : Int)] 32)).alloc (.cells #[v] 35)).alloc (.cells cs t)).heap.size = w.heap.size + 1 + 1 + 1 by simp] at h4
  exact ⟨_, rfl, hb, ⟨⟨keep8 (keep8 (keep8 (heap_alloc_new w _) (bel1 _ _)) (bel1 _ _)) (bel1 _ _), by omega, by omega, by omega⟩, ⟨keep8 (keep8 (new_2 w _ _) (bel1 _ _)) (bel1 _ _), by omega, by omega, by omega⟩, ⟨keep8 (new_3 w _ _ _) (bel1 _ _), by omega, by omega, by omega⟩, ⟨h4, by omega, by omega, by omega⟩⟩, by simp⟩
theorem below_drewN8 {B : Nat} {a w : World} (h : Below B a w) (q : Nat) : Below B a (w.drewN q) := ⟨h.os, h.tape, h.output, h.size, h.block⟩
theorem res_cell3 {P : Program} {fn : Func} {tmps : Array Value} {w : World} {i j k : Nat} {t : TypeId} {ad : Addr} {v u z : Value} (hr : fn.results = #[.cell i t, .tmp j, .tmp k]) (ha : tmps.getD i undef = .pointer (some ad)) (hj : tmps.getD j undef = u) (hk : tmps.getD k undef = z) (hl : (loadVar t ad).run P w = .ok v w) : (results fn tmps).run P w = .ok (.tuple #[v, u, z]) w := by
  unfold results
  rw [hr]
  rw [Array.getD_eq_getD_getElem?] at ha hj hk
  simp [ha, hj, hk, asAddr, hl]
theorem pl_ret3 {fn : Func} {tmps : Array Value} {w : World} {i j k b : Nat} {p v u z : Value} (hr : fn.results = #[.cell i 32, .tmp j, .tmp k]) (ha : tmps.getD i undef = .pointer (some ⟨b, 0, none⟩)) (hj : tmps.getD j undef = u) (hk : tmps.getD k undef = z) (h : w.heap[b]? = some (.cells #[p, v] 32 (0, 0))) : (results fn tmps).run Tryz.prog w = .ok (.tuple #[.agg #[p, v], u, z]) w :=
  res_cell3 hr ha hj hk (run_loadVar_row w b 32 32 _ (0, 0) _ h Tryz.underlying32 rfl (by as_aux_lemma => kernel_rfl))
/-- A plane of level n + 1 that has just these cells. -/
structure Pl8 (M : List Nd) (n x : Nat) (l : List (Int × Int)) : Prop where
  sq : Sq M (n + 1) x
  two : 2 ≤ n
  nd : l.Nodup
  on : ∀ c, c ∈ l → (onP c.1 && onP c.2) = true
  al : ∀ p q, alK M n (kidZ M x) p q = decide ((p, q) ∈ l)
/-- Cells that came in a row, in blocks beside a store's. -/
def Rv8 (w : World) (sb g tb : Nat) (a : Option Addr) (l : List (Int × Int)) : Prop := Ro w a l ∧ ∀ bk off, a = some ⟨bk, off, none⟩ → bk ≠ sb ∧ bk ≠ g ∧ bk ≠ tb ∧ bk < w.heap.size
theorem cell_blk8 {w w' : World} {b i : Nat} (h : w'.heap[b]? = w.heap[b]?) : w'.cell? ⟨b, i, none⟩ = w.cell? ⟨b, i, none⟩ := World.cell?_of_block (w := w) (a := ⟨b, i, none⟩) h
theorem Rv8.nx {w w' : World} {sb tb most g g' c : Nat} {M M' : List Nd} {a : Option Addr} {l : List (Int × Int)} (h : Rv8 w sb g tb a l) (hn : Nx sb tb most w g M c w' g' M') : Rv8 w' sb g' tb a l := by
  refine ⟨fun j c hc => ?_, fun bk off e => ?_⟩
  · obtain ⟨bk, ha, c0, c1⟩ := h.1 j c hc
    obtain ⟨h1, h2, h3, h4⟩ := h.2 bk 0 ha
    have hk := hn.frm.block bk h4 (by simp only [List.mem_cons, List.not_mem_nil, or_false]; omega)
    exact ⟨bk, ha, by rw [cell_blk8 hk]; exact c0, by rw [cell_blk8 hk]; exact c1⟩
  · obtain ⟨h1, h2, h3, h4⟩ := h.2 bk off e
    refine ⟨h1, ?_, h3, Nat.lt_of_lt_of_le h4 hn.frm.size⟩
    rcases hn.gin with e' | e'
    · rw [e']; exact h2
    · omega
theorem Rv8.later {w w' : World} {sb g tb : Nat} {a : Option Addr} {l : List (Int × Int)} (h : Rv8 w sb g tb a l) (hb : Below w.heap.size w w') : Rv8 w' sb g tb a l := ⟨h.1.later hb, fun bk off e => by obtain ⟨h1, h2, h3, h4⟩ := h.2 bk off e; exact ⟨h1, h2, h3, Nat.lt_of_lt_of_le h4 hb.size⟩⟩
theorem Rv8.other {w : World} {sb g tb b i : Nat} {a : Option Addr} {l : List (Int × Int)} (h : Rv8 w sb g tb a l) (hb : ∀ off, a ≠ some ⟨b, off, none⟩) (v : Value) : Rv8 (w.setCell ⟨b, i, none⟩ v) sb g tb a l := by
  refine ⟨fun j c hc => ?_, fun bk off e => ?_⟩
  · obtain ⟨bk, ha, c0, c1⟩ := h.1 j c hc
    have hne : bk ≠ b := fun e => hb 0 (by rw [ha, e])
    exact ⟨bk, ha, by rw [cell_blk8 (Below.heap_setCell _ _ _ _ hne)]; exact c0, by rw [cell_blk8 (Below.heap_setCell _ _ _ _ hne)]; exact c1⟩
  · obtain ⟨h1, h2, h3, h4⟩ := h.2 bk off e
    exact ⟨h1, h2, h3, by simpa using h4⟩
theorem nx_drew8 {w w' : World} {sb tb most g g' c : Nat} {N N' : List Nd} (h : Nx sb tb most w g N c w' g' N') : Nx sb tb most w g N c w'.drew g' N' := by
  obtain ⟨cap, hs⟩ := h.st
  exact ⟨⟨cap, hs.drew⟩, ⟨h.frm.os, h.frm.tape, h.frm.output, h.frm.size, h.frm.block⟩, h.gin, h.ext⟩
theorem Rv8.drew {w : World} {sb g tb : Nat} {a : Option Addr} {l : List (Int × Int)} (h : Rv8 w sb g tb a l) : Rv8 w.drew sb g tb a l := h
theorem cell_s8 (w : World) (v : Value) (t : TypeId) : (w.alloc (.cells #[v] t)).cell? ⟨w.heap.size, 0, none⟩ = some v := by simp
/-- What a step leaves: another plane, and its cells. -/
def Out8 (w : World) (sb g tb most : Nat) (M : List Nd) (l : List (Int × Int)) (a : Option Addr) (T : List Place) (e : Ending) (w' : World) : Prop :=
  ∃ g' M' n' x' l' a' c' T', e = .returned (.tuple #[.agg #[.pointer (some ⟨sb, 0, none⟩), .int .u32 ((x' : Nat) : Int)], .slice a' (List.length l') c', .bool true]) ∧ Nx sb tb most w g M (T.length + 3210) w' g' M' ∧ Pl8 M' n' x' l' ∧ Rv8 w' sb g' tb a' l' ∧ (a' = a ∨ ∀ bk off, a' = some ⟨bk, off, none⟩ → w.heap.size ≤ bk) ∧ l'.length ≤ l.length + 530 ∧ T'.length ≤ T.length + 3109 ∧ Cov T' (fun p q => (p, q) ∈ l')
end Go.Proofs.YtnfjmmkokhncoaaGreat
end

section
namespace Go.Proofs.YtnfjmmkokhncoaaGreat
open Go.RowKit Go.Maps
set_option maxRecDepth 100000

set_option maxHeartbeats 4000000 in
theorem step8_trim {w : World} {sb g tb cap most : Nat} {M : List Nd} (h : St w sb g tb cap most M) {n x : Nat} {l : List (Int × Int)} (hpl : Pl8 M n x l) (a : Option Addr) (cap' : Nat) (hr : Rv8 w sb g tb a l) (_ : l.length ≤ 5000) (T : List Place) (hT : Cov T (fun p q => (p, q) ∈ l)) (hroom : M.length + T.length + 3300 ≤ most) (k W H : Nat) (hk : k < 256) (hW : W < 256) (hH : H < 256) (p q : Int) (hp : -2305843009213693952 ≤ p ∧ p ≤ 2305843009213693952) (hq : -2305843009213693952 ≤ q ∧ q ≤ 2305843009213693952) (sl : Value) (over : Bool) (h3 : k % 4 = 3) :
    Calls Tryz.prog 7 #[.agg #[.pointer (some ⟨sb, 0, none⟩), .int .u32 (x : Int)], .slice a l.length cap', .agg #[.int .u8 (k : Int), .int .i64 p, .int .i64 q, .int .u8 (W : Int), .int .u8 (H : Int), sl, .bool over]] w fun e w' => Out8 w sb g tb most M l a T e w' := by
  have hxu := Sq.u32 h hpl.sq
  have hn61 : n ≤ 61 := by have := hpl.sq.le62 h.wf; omega
  have HS0 := Lib.hid h
  have HPL := Lib.hid hpl
  have HRV := Lib.hid hr
  have HT := Lib.hid hT
  obtain ⟨W0, hW0, hb0, hs0, hsz0⟩ := s8_start h x (.slice a l.length cap') #[.int .u8 (k : Int), .int .i64 p, .int .i64 q, .int .u8 (W : Int), .int .u8 (H : Int), sl, .bool over] 38
  have HW0 := Lib.hid hW0
  have HB0 := Lib.hid hb0
  have HX0 : Hid (S8x W0 sb g tb w.heap.size x (acO8 k p q W H sl over) (.slice a l.length cap')) := hs0
  clear h hpl hr hT hW0 hb0 hs0
  have m1 : IntKind.u8.wrap ((W : Int).tmod 24) = (W : Int) % 24 := by rw [Int.tmod_eq_emod_of_nonneg (by omega)]; exact IntWalk.u8_in _ (by omega)
  have m2 : IntKind.u8.wrap ((H : Int).tmod 24) = (H : Int) % 24 := by rw [Int.tmod_eq_emod_of_nonneg (by omega)]; exact IntWalk.u8_in _ (by omega)
  have m3 : IntKind.i64.wrap ((W : Int) % 24) = (W : Int) % 24 := IntWalk.i64_in _ (by omega)
  have m4 : IntKind.i64.wrap ((H : Int) % 24) = (H : Int) % 24 := IntWalk.i64_in _ (by omega)
  obtain ⟨q0, q1, q2, q3, q4, q5, q6⟩ := ac_cells8 HX0.out.ac.at_
  go_enter Tryz.func7, Tryz.ntmps7
  go_upto_region 1 with fail
  rw [HW0.out]
  go_quiet (fail)
  have hbq := below_drewN8 (Below.refl W0.heap.size W0) nq
  have HX1 := Lib.hid (HX0.out.later hbq)
  have HB1 := Lib.hid (HB0.out.trans (hbq.mono HB0.out.size))
  clear hbq HX0 HB0 m1 m2 m3 m4 q0 q1 q2 q3 q4 q5 q6
  clear HW0
  generalize W0.drewN nq = W1 at *
  clear hsz0 W0
  obtain ⟨wd, hwd⟩ : ∃ wd : Nat, wd = W % 24 := ⟨_, rfl⟩
  obtain ⟨hd, hhd⟩ : ∃ hd : Nat, hd = H % 24 := ⟨_, rfl⟩
  rw [show (W : Int) % 24 = (wd : Int) by omega, show (H : Int) % 24 = (hd : Int) by omega]
  have hwd24 : wd < 24 := by omega
  have hhd24 : hd < 24 := by omega
  clear hwd hhd
  have HRE := Lib.hid (rect8_any p q (wd : Int) (hd : Int) (by unfold I64; omega) (by unfold I64; omega) W1)
  obtain ⟨q0, q1, q2, q3, q4, q5, q6⟩ := ac_cells8 HX1.out.ac.at_
  go_wp2_with fail
  refine HRE.out.mono ?_
  rintro e W2 ⟨rfl, hb⟩
  have hba := hb.trans ((bel1 W2 (.cells #[.int .i64 p, .int .i64 q, .int .i64 (p + (wd : Int)), .int .i64 (q + (hd : Int))] 42)).mono hb.size)
  have HX3 := Lib.hid (HX1.out.later hba)
  have HB3 := Lib.hid (HB1.out.trans (hba.mono HB1.out.size))
  have HRC : Hid (Ob (W2.alloc (.cells #[.int .i64 p, .int .i64 q, .int .i64 (p + (wd : Int)), .int .i64 (q + (hd : Int))] 42)) sb g tb W2.heap.size (rcO8 ⟨p, q, p + (wd : Int), q + (hd : Int)⟩)) := Ob.new (HS0.out.later (HB1.out.trans (hb.mono HB1.out.size))) _ _
  have hrb : w.heap.size + 1 + 1 + 1 < W2.heap.size := by have := HX1.out.lt; have := hb.size; omega
  have HRB := Lib.hid hrb
  clear hb hba HRE HX1 HB1 hrb q0 q1 q2 q3 q4 q5 q6
  obtain ⟨q0, q1, q2, q3, q4, q5, q6⟩ := ac_cells8 HX3.out.ac.at_
  go_upto_region 3 with fail
  generalize W2.alloc (.cells #[.int .i64 p, .int .i64 q, .int .i64 (p + (wd : Int)), .int .i64 (q + (hd : Int))] 42) = W3 at *
  generalize W2.heap.size = rb at *
  clear W2
  have HS3 := Lib.hid (HS0.out.later HB3.out)
  have HN3 := Lib.hid (Nx.of_below HS0.out HB3.out)
  have HRV3 := Lib.hid (HRV.out.later HB3.out)
  have k0 : ((k : Int) % 4 == 0) = false := by simp; omega
  have k1 : ((k : Int) % 4 == 1) = false := by simp; omega
  have k2 : ((k : Int) % 4 == 2) = false := by simp; omega
  obtain ⟨p0, p1⟩ := pl_cells HX3.out.pl.at_
  have HTR := Lib.hid (trim8_any HS3.out HPL.out.sq HPL.out.two)
  go_wp2_with fail
  refine HTR.out.mono ?_
  rintro e W4 ⟨m, hm2, hmn, ⟨g4, M4, hnx, hres⟩, hmin⟩
  have hlen := nx_len8 hnx
  have HX4 := Lib.hid (HX3.out.nx hnx)
  have HRV4 := Lib.hid (HRV3.out.nx hnx)
  have HN4 := Lib.hid (HN3.out.trans hnx)
  clear hmin HTR
  clear hnx p0 p1 q0 q1 q2 q3 q4 q5 q6
  unfold plV at hres
  rcases hres with ⟨t, rfl, hsq, hal⟩ | ⟨rfl, hfull⟩
  · have HPL4 : Hid (Pl8 M4 m t l) := ⟨hsq, hm2, HPL.out.nd, HPL.out.on, fun a b => by rw [hal]; exact HPL.out.al a b⟩
    clear hsq hal
    have HBN : Hid (Below W4.heap.size W4 (W4.alloc (.cells #[.pointer (some ⟨sb, 0, none⟩), .int .u32 (t : Int)] 32))) := bel1 W4 _
    have HNB : Hid ((W4.alloc (.cells #[.pointer (some ⟨sb, 0, none⟩), .int .u32 (t : Int)] 32)).heap[W4.heap.size]? = some (plO sb t)) := heap_alloc_new W4 _
    obtain ⟨cap4, hS4⟩ := HN4.out.st
    have HS4 := Lib.hid hS4
    have HX5 := Lib.hid (HX4.out.later HBN.out)
    have HRV5 := Lib.hid (HRV4.out.later HBN.out)
    have HN5 := Lib.hid (HN4.out.trans (Nx.of_below HS4.out HBN.out))
    have hnb : w.heap.size + 1 + 1 + 1 < W4.heap.size := HX4.out.lt
    clear hS4 HX4 HRV4 HN4 HBN
    go_wp2_with fail
    generalize W4.alloc (.cells #[.pointer (some ⟨sb, 0, none⟩), .int .u32 (t : Int)] 32) = W5 at *
    generalize W4.heap.size = nb at *
    clear HS4 W4
    refine region_sq 6 (fun W => W.heap[nb]? = some (plO sb t) ∧ W.heap[w.heap.size + 1]? = some (lbO (.slice a l.length cap'))) [(0, 2), (1, 2), (2, 1), (3, 1), (4, 0), (5, 0), (6, 3)] (by kernel_rfl) (by kernel_rfl) rfl (by intro c a d v w h; cases d <;> exact h) (by kernel_rfl) ⟨HNB.out, HX5.out.lb.at_⟩ ?_
    refine ⟨_, ?_, rfl, by rfl, ?_, ?_⟩
    rotate_left
    · intro W hW
      have z := pl_cells hW.1
      obtain ⟨z0, z1⟩ := z
      have y := lb_cell hW.2
      obtain ⟨y0, _⟩ := y
      go_simp; first | done | rfl
    conv => arg 6; simp only [Act.put, List.setIfInBounds_toArray, List.set_cons_zero, List.set_cons_succ]
    refine ⟨_, ?_, rfl, by rfl, ?_, ?_⟩
    rotate_left
    · intro W hW
      have z := pl_cells hW.1
      obtain ⟨z0, z1⟩ := z
      have y := lb_cell hW.2
      obtain ⟨y0, _⟩ := y
      go_simp; first | done | rfl
    conv => arg 6; simp only [Act.put, List.setIfInBounds_toArray, List.set_cons_zero, List.set_cons_succ]
    refine ⟨_, ?_, rfl, by rfl, ?_, ?_⟩
    rotate_left
    · intro W; go_simp; first | done | rfl
    conv => arg 6; simp only [Act.put, List.setIfInBounds_toArray, List.set_cons_zero, List.set_cons_succ]
    refine ⟨_, ?_, rfl, by rfl, ?_, ?_⟩
    rotate_left
    · intro W; go_simp; first | done | rfl
    conv => arg 6; simp only [Act.put, List.setIfInBounds_toArray, List.set_cons_zero, List.set_cons_succ]
    refine ⟨_, rfl, by rfl, fun K hK => ?_⟩
    have y := res_cells HX5.out.res.at_
    obtain ⟨y0, y1, y2, y3⟩ := y
    go_simp
    have HDX : Hid (((W5.setCell ⟨w.heap.size + 1 + 1 + 1, 0, none⟩ (.pointer (some ⟨sb, 0, none⟩))).setCell ⟨w.heap.size + 1 + 1 + 1, 1, none⟩ (.int .u32 (t : Int))).drew.heap[nb]? = some (plO sb t) ∧ ((W5.setCell ⟨w.heap.size + 1 + 1 + 1, 0, none⟩ (.pointer (some ⟨sb, 0, none⟩))).setCell ⟨w.heap.size + 1 + 1 + 1, 1, none⟩ (.int .u32 (t : Int))).drew.heap[w.heap.size + 1]? = some (lbO (.slice a l.length cap'))) := by
      constructor
      · show ((W5.setCell _ _).setCell _ _).heap[nb]? = _
        rw [Below.heap_setCell _ _ _ _ (by show nb ≠ w.heap.size + 1 + 1 + 1; omega), Below.heap_setCell _ _ _ _ (by show nb ≠ w.heap.size + 1 + 1 + 1; omega)]; exact HNB.out
      · show ((W5.setCell _ _).setCell _ _).heap[w.heap.size + 1]? = _
        rw [Below.heap_setCell _ _ _ _ (by show w.heap.size + 1 ≠ w.heap.size + 1 + 1 + 1; omega), Below.heap_setCell _ _ _ _ (by show w.heap.size + 1 ≠ w.heap.size + 1 + 1 + 1; omega)]; exact HX5.out.lb.at_
    refine hK _ _ HDX.out ?_
    clear hK K y0 y1 y2 y3
    conv => arg 6; simp only [Act.put, List.setIfInBounds_toArray, List.set_cons_zero, List.set_cons_succ]
    refine ⟨_, rfl, by rfl, fun K hK => ?_⟩
    go_simp
    refine hK _ _ HDX.out ?_
    clear hK K
    conv => arg 6; simp only [Act.put, List.setIfInBounds_toArray, List.set_cons_zero, List.set_cons_succ]
    refine ⟨_, rfl, by rfl, fun K hK => ?_⟩
    go_simp
    refine hK _ _ ?_
    clear hK K
    conv => arg 6; simp only [Act.put, List.setIfInBounds_toArray, List.set_cons_zero, List.set_cons_succ]
    unfold wpSq
    obtain ⟨Wf, hWf, hNf, hOf, s0, s1⟩ := put_pl HN5.out HX5.out.res (by omega) (.pointer (some ⟨sb, 0, none⟩)) (.int .u32 (t : Int))
    have hrvf : Rv8 Wf sb g4 tb a l := by
      rw [← hWf]
      exact (HRV5.out.other (fun off e => by have := (HRV.out.2 _ off e).2.2.2; omega) _).other (fun off e => by have := (HRV.out.2 _ off e).2.2.2; omega) _
    rw [hWf]
    go_wp2_with fail
    refine bodyPost_ret (pl_ret3 (i := 6) (j := 7) (k := 8) rfl rfl rfl rfl hOf.at_) rfl ?_
    exact ⟨g4, M4, m, t, l, a, cap', T, rfl, nx_drew8 (hNf.mono (by omega)), HPL4.out, hrvf.drew, Or.inl rfl, by omega, by omega, HT.out⟩
  · exfalso
    omega
end Go.Proofs.YtnfjmmkokhncoaaGreat
end
