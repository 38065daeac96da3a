-- M24
import Derived.Test.YtnfjmmkokhncoaaGreatNw2
import Derived.Test.YtnfjmmkokhncoaaGreatM18
import Derived.LaidEqlPtr
import Derived.Test.YtnfjmmkokhncoaaGreatProg
import Derived.RangeFuncNested
import Derived.RangeFuncBound
import Derived.RangeFuncCalls
import Derived.RangeFuncLeaves
import Derived.Deep.Quiet
import Derived.Deep.QuietTactic
import Derived.OrdersIn
import Derived.TacticsIn
import Derived.Test.YtnfjmmkokhncoaaGreatM08
import Derived.WalkKit
import Derived.OwnWalkIn
import Derived.TacticsInMore
import Derived.LoopNIn
import Derived.LoopIn
import Derived.Shelf.Abstract
import Derived.Test.YtnfjmmkokhncoaaGreatM05
import Derived.Test.YtnfjmmkokhncoaaGreatM20
section
namespace Go.Proofs.YtnfjmmkokhncoaaGreat
open Go.RowKit
set_option maxRecDepth 100000

/-- What New returns of some points. -/
def New8R (B : Nat) (cs : List (Int × Int)) (w' : World) (e : Ending) : Prop :=
  e = .returned (.tuple #[.agg #[.int .i64 0, .int .i64 0, .slice none 0 0], .agg #[.int .i64 0, .int .i64 0], .bool false]) ∨
  ∃ (Wd Hh : Nat) (lo : Int × Int) (L : List (Int × Int)) (a' : Option Addr) (c' : Nat), e = .returned (.tuple #[.agg #[.int .i64 (Wd : Int), .int .i64 (Hh : Int), .slice a' L.length c'], .agg #[.int .i64 lo.1, .int .i64 lo.2], .bool true]) ∧
    (0 < Wd ∧ Wd ≤ 1024) ∧ (0 < Hh ∧ Hh ≤ 1024) ∧ L.length ≤ cs.length ∧ L.Nodup ∧ (∀ c ∈ L, (0 ≤ c.1 ∧ c.1 < (Wd : Int)) ∧ 0 ≤ c.2 ∧ c.2 < (Hh : Int)) ∧ Rk8 w' a' L ∧ ∀ bk off z, a' = some ⟨bk, off, z⟩ → B ≤ bk
theorem new8_any (cs : List (Int × Int)) (a : Option Addr) (cap : Nat) (w : World) (h : Pts w w.heap.size a cs) (hl : cs.length ≤ 20000) (hf : ∀ d ∈ cs, fits d) :
    Calls Tryz.prog 25 #[.slice a cs.length cap] w fun e w' => New8R w.heap.size cs w' e ∧ Below w.heap.size w w' := by
  cases cs with
  | nil => exact (pnew_none a cap w).mono fun e w' ⟨h1, h2⟩ => ⟨Or.inl h1, h2⟩
  | cons c r =>
    by_cases hg : ((c :: r).foldl hiF c).1 - ((c :: r).foldl loF c).1 < 1024 ∧ ((c :: r).foldl hiF c).2 - ((c :: r).foldl loF c).2 < 1024
    · refine (pnew_goodN c r a _ cap w h rfl (by simpa using hl) hf _ _ rfl rfl hg).mono fun e w' ⟨⟨v, he, hp, hpn⟩, hb⟩ => ⟨Or.inr ?_, hb⟩
      have h1 := lo_le (c :: r) c
      have h2 := hi_ge (c :: r) c
      generalize hlo : (c :: r).foldl loF c = lo at *
      generalize hhi : (c :: r).foldl hiF c = hi at *
      have hlc := h1.2 c List.mem_cons_self
      have hhc := h2.2 c List.mem_cons_self
      obtain ⟨a', c', rfl, _, _, hpt⟩ := hp
      have hz := cellsN_zc (c :: r) lo h1.2
      rw [hz] at hpt
      have hlen : (cellsN (c :: r) lo).length = (cellsZ (c :: r) lo).length := by rw [← hz, List.length_map]
      rw [hlen] at he
      refine ⟨(hi.1 - lo.1 + 1).toNat, (hi.2 - lo.2 + 1).toNat, lo, cellsZ (c :: r) lo, a', c', he, by omega, by omega, cellsZ_len _ _, strict_nodup (cellsZ_strict _ _), fun d hd => ?_, fun j d hd => ?_, fun bk off z e => ?_⟩
      · have hm := (cellsZ_mem (c :: r) lo d).1 hd
        have k1 := h1.2 _ hm
        have k2 := h2.2 _ hm
        simp only at k1 k2
        omega
      · obtain ⟨bk, off, e1, _, e3, e4⟩ := hpt j d hd
        exact ⟨bk, off, e1, e3, e4⟩
      · exact hpn _ _ bk off _ _ z (by rw [e])
    · exact (pnew_great c r a _ cap w h rfl (by simpa using hl) hf hg).mono fun e w' ⟨h1, h2⟩ => ⟨Or.inl h1, h2⟩
theorem New8R.gen {B : Nat} {cs : List (Int × Int)} {w' : World} {e : Ending} (h : New8R B cs w' e) : ∃ (Wv Hv : Int) (sa : Option Addr) (sn sc : Nat) (lo : Int × Int) (b : Bool), e = .returned (.tuple #[.agg #[.int .i64 Wv, .int .i64 Hv, .slice sa sn sc], .agg #[.int .i64 lo.1, .int .i64 lo.2], .bool b]) := by
  rcases h with h | ⟨Wd, Hh, lo, L, a', c', h, _⟩
  · exact ⟨0, 0, none, 0, 0, (0, 0), false, h⟩
  · exact ⟨_, _, _, _, _, lo, true, h⟩
theorem Pts.grow {w : World} {B B' : Nat} {a : Option Addr} {cs : List (Int × Int)} (h : Pts w B a cs) (hB : B ≤ B') : Pts w B' a cs := fun j c hc => by
  obtain ⟨bk, off, h1, h2, h3, h4⟩ := h j c hc
  exact ⟨bk, off, h1, by omega, h3, h4⟩
theorem Tryz.fieldsPl8 : ((Tryz.prog.fieldsOf 32).toList.map fun f => (f.name, f.type, f.offset)) = [("Store", 28, 0), ("Root", 30, 1)] := by kernel_rfl
theorem Tryz.partPl0 (a b : Value) (w : World) : (part 28 #[a, b] 0).run Tryz.prog w = .ok a w := by kernel_rfl
theorem Tryz.partPl1 (a b : Value) (w : World) : (part 30 #[a, b] 1).run Tryz.prog w = .ok b w := by kernel_rfl
theorem Tryz.infoSt8 : (Tryz.prog.info? 102).isSome = true := by kernel_rfl
theorem eqInPtr8 (sb d : Nat) (w : World) : (Op.equalIn (d + 1) 28 (.pointer (some ⟨sb, 0, none⟩)) (.pointer (some ⟨sb, 0, none⟩))).run Tryz.prog w = .ok true w := by
  obtain ⟨j, hj⟩ := Option.isSome_iff_exists.1 Tryz.infoSt8
  simp [Op.equalIn, run_underlying Tryz.underlying28, sizeOf, typeInfo, hj, run_sameAddr_same]
theorem eqInPl8 (sb x : Nat) (w : World) : (Op.equalIn 10000 32 (.agg #[.pointer (some ⟨sb, 0, none⟩), .int .u32 (x : Int)]) (.agg #[.pointer (some ⟨sb, 0, none⟩), .int .u32 (x : Int)])).run Tryz.prog w = .ok true w := by
  rw [run_equalIn_agg w 9999 32 _ _ (by kernel_rfl) (by kernel_rfl)]
  have hm := Tryz.fieldsPl8
  generalize (Tryz.prog.fieldsOf 32).toList = l at *
  have hl : l.length = 2 := by have := congrArg List.length hm; simpa using this
  match l, hl, hm with
  | [f, g], _, hm =>
    simp only [List.map_cons, List.map_nil, List.cons.injEq, Prod.mk.injEq, and_true] at hm
    obtain ⟨⟨n1, t1, o1⟩, n2, t2, o2⟩ := hm
    simp only [Op.eqFields, n1, t1, o1, n2, t2, o2, Sem.run_bind, Sem.run_ite, Tryz.partPl0, Tryz.partPl1, Result.andThen_ok, eqInPtr8 sb 9998, run_equalIn_int w 9998 _ .u32 .u32 _ _ Tryz.underlying30]
    simp
theorem eqPl8 (sb x : Nat) (w : World) : (binOp .eql 32 (.agg #[.pointer (some ⟨sb, 0, none⟩), .int .u32 (x : Int)]) (.agg #[.pointer (some ⟨sb, 0, none⟩), .int .u32 (x : Int)])).run Tryz.prog w = .ok (.bool true) w := by
  rw [run_eql_struct, eqInPl8]; rfl
theorem nx_four {w W : World} {sb tb most g g' c b : Nat} {N N' : List Nd} {r : R4} (h : Nx sb tb most w g N c W g' N') (hb : Ob W sb g' tb b (rcO8 r)) (hw : w.heap.size ≤ b) (x y X Y : Int) :
    Nx sb tb most w g N c ((((W.setCell ⟨b, 0, none⟩ (.int .i64 x)).setCell ⟨b, 1, none⟩ (.int .i64 y)).setCell ⟨b, 2, none⟩ (.int .i64 X)).setCell ⟨b, 3, none⟩ (.int .i64 Y)) g' N' := by
  obtain ⟨cap, hs⟩ := h.st
  have h1 := hb.sb_
  have h2 := hb.g_
  have h3 := hb.tb_
  refine ⟨⟨cap, st_set8 (st_set8 (st_set8 (st_set8 hs h1 h2 h3 _) h1 h2 h3 _) h1 h2 h3 _) h1 h2 h3 _⟩, ?_, h.gin, h.ext⟩
  exact (((h.frm.set4 hw _ _).set4 hw _ _).set4 hw _ _).set4 hw _ _
/-- The cells so far, in a row beside the store: the one that came in, or one of the step's own. -/
def Lst (w W : World) (sb g tb : Nat) (a : Option Addr) (v : Value) (l : List (Int × Int)) : Prop := ∃ a0 c0, v = .slice a0 l.length c0 ∧ Rv8 W sb g tb a0 l ∧ (a0 = a ∨ ∀ bk off, a0 = some ⟨bk, off, none⟩ → w.heap.size + 1 + 1 + 1 < bk)
theorem Lst.later {w W W' : World} {sb g tb : Nat} {a : Option Addr} {v : Value} {l : List (Int × Int)} (h : Lst w W sb g tb a v l) (hb : Below W.heap.size W W') : Lst w W' sb g tb a v l := by
  obtain ⟨a0, c0, h1, h2, h3⟩ := h
  exact ⟨a0, c0, h1, h2.later hb, h3⟩
theorem Lst.low {w W : World} {sb g tb b i : Nat} {a : Option Addr} {v : Value} {l : List (Int × Int)} (h : Lst w W sb g tb a v l) (ha : ∀ bk off, a = some ⟨bk, off, none⟩ → bk < w.heap.size) (hb : w.heap.size ≤ b ∧ b ≤ w.heap.size + 1 + 1 + 1) (u : Value) : Lst w (W.setCell ⟨b, i, none⟩ u) sb g tb a v l := by
  obtain ⟨a0, c0, h1, h2, h3⟩ := h
  refine ⟨a0, c0, h1, h2.other (fun off e => ?_) u, h3⟩
  rcases h3 with e' | h3
  · have := ha b off (e' ▸ e); omega
  · have := h3 b off e; omega
theorem S8x.lbput {W : World} {sb g tb B x : Nat} {A : Obj} {v : Value} (h : S8x W sb g tb B x A v) (u : Value) : S8x (W.setCell ⟨B + 1, 0, none⟩ u) sb g tb B x A u :=
  ⟨h.pl.other (by show B + 1 ≠ B; omega) u, ⟨by have := h.lb.at_; unfold lbO at *; simp only [World.setCell, Array.getElem?_modify, this]; simp, h.lb.sb_, h.lb.g_, h.lb.tb_⟩, h.ac.other (by show B + 1 ≠ B + 1 + 1; omega) u, h.res.other (by show B + 1 ≠ B + 1 + 1 + 1; omega) u⟩
theorem lst_own {w W : World} {sb g tb D : Nat} {a : Option Addr} {v : Value} {l : List (Int × Int)} (h : OwP W D v l) (hD : sb < D ∧ g < D ∧ tb < D ∧ w.heap.size + 1 + 1 + 1 < D) : Lst w W sb g tb a v l := by
  obtain ⟨a0, c0, h1, h2, h3⟩ := h.ro
  exact ⟨a0, c0, h1, ⟨h2, fun bk off e => by have := h3 bk off e; omega⟩, Or.inr fun bk off e => by have := (h3 bk off e).1; omega⟩
theorem of8_law (a b : Int) (w : World) : Calls Tryz.prog 13 #[.agg #[.int .i64 a, .int .i64 b]] w fun e w' => e = .returned (.agg #[.int .i64 a, .int .i64 b]) ∧ Below w.heap.size w w' := by
  go_enter Tryz.func13, Tryz.ntmps13
  go_wp2
  go_returns
  exact ⟨rfl, by go_grown⟩
end Go.Proofs.YtnfjmmkokhncoaaGreat
end

section
namespace Go.Proofs.YtnfjmmkokhncoaaGreat
open Go.RowKit

/-- A loop's record while a round goes on, behind it, behind a jump, behind the loop. -/
def busyL (r : Loop) : Loop := { r with state := .busy }
def readyL (r : Loop) : Loop := { r with state := .ready, pending := none }
def doneL (r : Loop) (c : Code) : Loop := { r with state := .done, pending := some c }
def overL (r : Loop) : Loop := { r with state := .exhausted }
/-- How a round may be left, the loop's record at l being r. -/
def leftBy (l : Nat) (r : Loop) (R : Ending → World → Prop) : Exit → Act → World → Prop
  | .normal, _, W => W.heap[l]? = some (.loop (busyL r)) ∧ R (.returned (.bool true)) (W.putObj l (.loop (readyL r)))
  | .ret, _, W => W.heap[l]? = some (.loop (busyL r)) ∧ R (.returned (.bool false)) (W.putObj l (.loop (doneL r .ret)))
  | .exit id, _, W => W.heap[l]? = some (.loop (busyL r)) ∧ R (.returned (.bool false)) (W.putObj l (.loop (doneL r (.exit id))))
  | _, _, _ => False

theorem leftBy_normal {l : Nat} {r : Loop} {R : Ending → World → Prop} {a : Act} {W : World} (h1 : W.heap[l]? = some (.loop (busyL r))) (h2 : R (.returned (.bool true)) (W.putObj l (.loop (readyL r)))) : leftBy l r R .normal a W := ⟨h1, h2⟩
theorem leftBy_exit {l id : Nat} {r : Loop} {R : Ending → World → Prop} {a : Act} {W : World} (h1 : W.heap[l]? = some (.loop (busyL r))) (h2 : R (.returned (.bool false)) (W.putObj l (.loop (doneL r (.exit id))))) : leftBy l r R (.exit id) a W := ⟨h1, h2⟩
theorem readyL_eq {r : Loop} (hs : r.state = .ready) (hp : r.pending = none) : readyL r = r := by
  cases r
  simp only at hs hp
  subst hs hp
  rfl
/-- One round. -/
theorem yield_round {P : Program} {m l : Nat} {r : Loop} {W : World} {args : Array Value} {R : Ending → World → Prop} (hl : W.heap[l]? = some (.loop r)) (hr : r.state = .ready) (hs : args.size = r.params.size)
    (h : r.assign.wpIn (Fence.wide.inRound l) m P (Exit.then (fun a1 W1 => W1.heap[l]? = some (.loop r) ∧ r.body.wpIn (Fence.wide.inRound l) m P (leftBy l r R) a1 (W1.putObj l (.loop (busyL r)))) (fun _ _ _ => False))
      { tmps := (r.params.zip args).foldl (fun t (p, v) => t.setIfInBounds p v) r.tmps, defers := [] } W) : YieldAt Fence.wide m P l args W R := by
  refine ⟨r.fn, _, r.assign, r.body, run_yield hl hs, roundIn_of_wpIn trivial (wpIn_mono h ?_)⟩
  intro e a1 W1 he
  cases e with
  | normal =>
    obtain ⟨hl1, hb⟩ := he
    refine ⟨_, run_beginRound hl1 hr, wpIn_mono hb ?_⟩
    intro e2 a2 W2 h2
    cases e2 with
    | normal => exact ⟨_, _, run_endRound none h2.1, h2.2⟩
    | ret => exact ⟨_, _, run_endRound (some .ret) h2.1, h2.2⟩
    | exit id => exact ⟨_, _, run_endRound (some (.exit id)) h2.1, h2.2⟩
    | goto t => exact h2.elim
    | panic c => exact h2.elim
    | outgrown => exact h2.elim
  | _ => exact he

/-- The call of a function value whose receiver is bound. -/
theorem bound_resolve {P : Program} {W : World} {a : Act} {g : Operand} {gf : Nat} {first : Array Value} (hg : a.eval g = .func (.func gf) first #[]) (l : Nat) :
    (resolve a.eval (rangeCall g l) 0).run P W = .ok { target := .fn (.func gf) #[], args := first ++ #[.func (.yield l) #[] #[]] } W := by
  simp only [resolve, hg]
  simp [go_sem]
theorem bound_invoke {P : Program} {W : World} {gf : Nat} (eg : ∀ args w, (callFunc gf args).run P w = .ok (.enter gf args) w) (args : Array Value) :
    (invoke (.fn (.func gf) #[]) args).run P W = .ok (.enter gf args) W := by
  simp [invoke, go_sem, eg]
/-- The statement. -/
theorem range_meth {P : Program} {g : Operand} {ps : Array Tmp} {assign body : Code} {Q : Exit → Act → World → Prop} {a : Act} {w : World} {n gf : Nat} {first : Array Value} (h1 : 1 ≤ n) (hg : a.eval g = .func (.func gf) first #[]) (eg : ∀ args w, (callFunc gf args).run P w = .ok (.enter gf args) w)
    (h : ∀ (r : Loop) (W1 : World), r.state = .ready → r.pending = none → r.tmps = a.tmps → r.params = ps → r.assign = assign → r.body = body → W1 = (w.alloc (.deferred (some []))).alloc (.loop r) →
      CallsIn Fence.wide (n - 1) P gf (first ++ #[.func (.yield (w.heap.size + 1)) #[] #[]]) W1 fun e W2 => (∃ v, e = .returned v) ∧
        ((W2.heap[w.heap.size + 1]? = some (.loop r) ∧ Q .normal { a with defers := { target := .collected w.heap.size, args := #[] } :: a.defers } (W2.putObj (w.heap.size + 1) (.loop (overL r)))) ∨
         (∃ c, W2.heap[w.heap.size + 1]? = some (.loop (doneL r c)) ∧ c.wpIn Fence.wide n P Q { a with defers := { target := .collected w.heap.size, args := #[] } :: a.defers } (W2.putObj (w.heap.size + 1) (.loop (overL (doneL r c))))))) :
    (Code.rangeFunc g ps assign body).wpIn Fence.wide n P Q a w := by
  refine wpIn_rangeFunc ?_
  intro fn _
  obtain ⟨r, hr⟩ : ∃ r : Loop, r = { state := .ready, pending := none, fn := fn, tmps := a.tmps, params := ps, assign := assign, body := body, defers := w.heap.size } := ⟨_, rfl⟩
  obtain ⟨W1, hW1⟩ : ∃ W1, W1 = (w.alloc (.deferred (some []))).alloc (.loop r) := ⟨_, rfl⟩
  have hc := h r W1 (by rw [hr]) (by rw [hr]) (by rw [hr]) (by rw [hr]) (by rw [hr]) (by rw [hr]) hW1
  have hen : (Instr.enterLoop fn a.tmps ps assign body none).run P w = .ok (w.heap.size + 1, [{ target := .collected w.heap.size, args := #[] }]) W1 := by rw [hW1, hr]; exact run_enterLoop_outer _ _ _ _ _
  have hres := bound_resolve (P := P) (W := W1) hg (w.heap.size + 1)
  have hinv := bound_invoke (P := P) (W := W1) eg (first ++ #[.func (.yield (w.heap.size + 1)) #[] #[]])
  have hrs : r.state ≠ .busy := by rw [hr]; simp
  have hrp : r.pending = none := by rw [hr]
  clear hW1 h hr
  refine ⟨w.heap.size + 1, [{ target := .collected w.heap.size, args := #[] }], W1, _, W1, gf, _, W1, hen, hres, fun _ _ => trivial, hinv, fun _ => h1, CallsIn.mono hc ?_⟩
  rintro e W2 ⟨⟨v, rfl⟩, (⟨hl, hq⟩ | ⟨c, hl, hq⟩)⟩
  · exact ⟨_, _, run_endLoop hl hrs, by unfold overL at hq; rw [hrp] at hq ⊢; exact hq⟩
  · exact ⟨_, _, run_endLoop hl (by simp [doneL]), hq⟩

/-- In a round, at the wide fence: an operation that keeps to a class of worlds. -/
theorem opIn_of_qOp {P : Program} {ops : Array Oper} {C : World → Prop} {i l n : Nat} {a : Act} {K : Act → Prop} {K' : Act → World → Prop} {Q : Exit → Act → World → Prop} {w : World} (hd : ∀ o, ops[i]? = some o → ∀ c, o.op ≠ .defer c) (hC : C w) (h : ∀ a w', C w' → K a → K' a w') (hh : qOp P ops C i K a) :
    wpOpIn (Fence.wide.inRound l) n P ops Q i K' a w := by
  unfold qOp at hh
  unfold wpOpIn
  split
  · rename_i ho; simp only [ho] at hh; exact h _ _ hC hh
  · rename_i o ho
    simp only [ho] at hh
    split
    · rename_i hw
      simp only [hw, if_true] at hh
      obtain ⟨v, h1, h2⟩ := hh
      have h3 := h1 w hC
      unfold Oper.quietAt at h3
      unfold Oper.wpIn
      refine ⟨fun _ _ => trivial, ?_⟩
      rw [show (Fence.wide.inRound l).round = some l from rfl, Oper.semAt_some l _ _ (hd o ho)]
      generalize (execOp a.eval o).run P w = res at *
      cases res with
      | ok x w' =>
        cases x <;> simp only [Oper.quietUpon] at h3 <;> simp only [Oper.uponIn]
        case value u => obtain ⟨e1, e2⟩ := h3; rw [e1, e2]; exact h _ _ hC h2
        case skip => obtain ⟨e1, e2⟩ := h3; rw [e1, ← e2]; exact h _ _ hC h2
        case enter f args =>
          obtain ⟨e1, hc⟩ := h3
          rw [e1]
          refine ⟨fun hs => (by cases hs), CallsIn.inRound l ((callsIn_wide (n := n - 1)).2 (hc.mono ?_))⟩
          rintro e w'' ⟨rfl, hw''⟩
          exact h _ _ hw'' h2
      | halt x w' => simp only [Oper.quietUpon] at h3
    · rename_i hw
      simp only [hw] at hh
      exact ⟨fun _ _ => trivial, h _ _ hC hh⟩
theorem anyIn_of_quiet {P : Program} {md : Region.Mode} {ops : Array Oper} {C : World → Prop} {l n : Nat} {Q : Act → Prop} {Q' : Exit → Act → World → Prop} (hd : ∀ (i : Nat) o, ops[i]? = some o → ∀ c, o.op ≠ .defer c) (hQ : ∀ a w, C w → Q a → Q' .normal a w) : ∀ (fuel : Nat) (listed : Array Bool) (a : Act) (w : World), C w →
    wpAnyQ P md ops C Q fuel listed a → wpAnyIn (Fence.wide.inRound l) n P md ops Q' fuel listed a w
  | 0, _, _, _, hw, h => ⟨h.1, hQ _ _ hw h.2⟩
  | fuel + 1, _, _, _, hw, h => ⟨fun h0 => hQ _ _ hw (h.1 h0), fun i hi => opIn_of_qOp (hd i) hw (fun a' w' hw' => anyIn_of_quiet hd hQ fuel _ a' w' hw') (h.2 i hi)⟩
/-- No operation of a region defers. -/
def noDefer (l : List Oper) : Bool := l.all fun o => match o.op with
  | .defer _ => false
  | _ => true
theorem noDefer_at {L : List Oper} (h : noDefer L = true) (i : Nat) (o : Oper) (ho : L.toArray[i]? = some o) (c : Call) : o.op ≠ .defer c := by
  intro e
  have hm : o ∈ L := by
    have : L[i]? = some o := by simpa using ho
    exact List.mem_of_getElem? this
  have := List.all_eq_true.1 h o hm
  rw [e] at this
  cases this
theorem region_round {P : Program} {id l n : Nat} {Q : Exit → Act → World → Prop} {a : Act} {w : World} {L : List Oper} (C : World → Prop) (hd : noDefer L = true) (hm : P.follows .mixedOrders = true) (hB : Region.lexB .any L.toArray = true) (hC : C { w with drawn := w.drawn + 1 })
    (h : wpQuiet P L.toArray C (fun a' => ∀ w', C w' → Q .normal a' w') L a) : (Code.region id L.toArray true).wpIn (Fence.wide.inRound l) n P Q a w := by
  simp only [Region.lexB, Bool.and_eq_true] at hB
  refine wpIn_region_any hm (anyIn_of_quiet (Q := fun a' => ∀ w', C w' → Q .normal a' w') (noDefer_at hd) (fun _ w' hw' h => h w' hw') _ _ _ _ hC ?_)
  have := wpAnyQ_lex (C := C) (md := .any) hB.1 L 0 (Array.replicate L.toArray.size false) a (by simp) (by simpa using hB.2) h
  simpa using this
end Go.Proofs.YtnfjmmkokhncoaaGreat
end

section
namespace Go.Proofs.YtnfjmmkokhncoaaGreat
open Go.RowKit Go.Shelf

attribute [local go_sem] Oper.semAt_some

theorem Nums.of_block {W W' : World} {b : Nat} {zs : List Int} (h : Nums W b zs) (he : W'.heap[b]? = W.heap[b]?) : Nums W' b zs := by
  have hlt : b < W'.heap.size := by
    have h1 := h.1
    apply Classical.byContradiction
    intro hn
    rw [Array.getElem?_eq_none (by omega), Array.getElem?_eq_getElem h1] at he
    cases he
  exact ⟨hlt, fun j z hz => ⟨(World.cell?_of_block (a := ⟨b, j, none⟩) he).trans (h.2 j z hz).1, (World.frozen?_of_block (a := ⟨b, j, none⟩) he).trans (h.2 j z hz).2⟩⟩

theorem Tryz.yieldNil (l : Nat) (w : World) : (binOp .eql 46 (.func (.yield l) #[] #[]) .nilFunc).run Tryz.prog w = .ok (.bool false) w := by kernel_rfl
set_option maxRecDepth 100000 in
set_option maxHeartbeats 2000000 in
theorem all_iter (x y X Y : Int) (wd hg n : Nat) (hw : 1 ≤ wd) (hh : 1 ≤ hg) (hX : X = x + wd) (hY' : Y = y + hg) (x0 : -9223372036854775808 ≤ x) (y0 : -9223372036854775808 ≤ y) (X1 : X ≤ 9223372036854775807) (Y1 : Y ≤ 9223372036854775807) (l B : Nat) (J Jx : Nat → World → Prop)
    (hJ : ∀ k W W', J k W → Below W.heap.size W W' → J k W')
    (hY : ∀ (i j : Nat) W, i < wd → j < hg → B < W.heap.size → J (wd * j + i) W → YieldAt Fence.wide (n - 1) Tryz.prog l #[.agg #[.int .i64 (x + i), .int .i64 (y + j)]] W fun e W' =>
      (e = .returned (.bool true) ∧ J (wd * j + i + 1) W' ∧ W'.heap[B]? = W.heap[B]?) ∨ (e = .returned (.bool false) ∧ Jx (wd * j + i + 1) W'))
    (W : World) (hB : W.heap.size = B) (h0 : J 0 W) :
    CallsIn Fence.wide n Tryz.prog 21 #[.agg #[.int .i64 x, .int .i64 y, .int .i64 X, .int .i64 Y], .func (.yield l) #[] #[]] W fun e W' => (∃ v, e = .returned v) ∧ (J (wd * hg) W' ∨ ∃ k, Jx k W') := by
  subst hX hY'
  have hyn := Tryz.yieldNil l
  have HE := Lib.hid (fun w => rempty_any x y (x + wd) (y + hg) w)
  rw [show noPts x y (x + wd) (y + hg) = false by unfold noPts; simp only [Bool.or_eq_false_iff, decide_eq_false_iff_not]; omega] at HE
  have HJ := Lib.hid hJ
  have HY := Lib.hid hY
  have HN0 : Hid (Nums (W.alloc (.cells #[.int .i64 x, .int .i64 y, .int .i64 (x + wd), .int .i64 (y + hg)] 42)) B [x, y, x + wd, y + hg]) := by
    have := rc_new W x y (x + wd) (y + hg) 42
    rw [hB] at this
    exact this
  have H0 : Hid (J 0 (W.alloc (.cells #[.int .i64 x, .int .i64 y, .int .i64 (x + wd), .int .i64 (y + hg)] 42))) := hJ 0 W _ h0 (bel1 W _)
  clear hJ hY h0
  refine callsIn_of_wp Tryz.func21 rfl trivial ?_ rfl
  simp only [Tryz.ntmps21, List.size_toArray, List.length_cons, List.length_nil, Nat.reduceAdd, Nat.reduceSub, Array.replicate_succ, Array.replicate_zero, List.push_toArray, List.append_toArray, List.nil_append, List.cons_append]
  gi_wp2_with fail
  refine ⟨trivial, fun h => (by cases h), CallsIn.mono ((callsIn_wide (n := n - 1)).2 (HE.out _)) ?_⟩
  rintro e w1 ⟨rfl, hb⟩
  have HJ1 := Lib.hid (HJ.out 0 _ _ H0.out hb)
  have HN1 := Lib.hid (HN0.out.later hb)
  clear hb HN0 H0
  obtain ⟨c0, c1, c2, c3, _⟩ := HN1.out.four
  gi_wp2_with fail
  gi_loopw [4] (fun p wr => ∃ j : Nat, p = .int .i64 (y + j) ∧ j ≤ hg ∧ J (wd * j) wr ∧ Nums wr B [x, y, x + wd, y + hg])
    (fun p wr => (y + hg - intOf p).toNat)
  case atStart => exact ⟨0, by simp, by omega, HJ1.out, HN1.out⟩
  case round =>
    obtain ⟨j, rfl, hj, hjs, hns⟩ := hrel
    have HJ2 := Lib.hid hjs
    have HN2 := Lib.hid hns
    clear hjs hns HJ1 HN1 c0 c1 c2 c3
    obtain ⟨c0, c1, c2, c3, _⟩ := HN2.out.four
    by_cases hlt : j < hg
    · gi_wp2_with fail
      gi_loopw [5] (fun p wr => ∃ i : Nat, p = .int .i64 (x + i) ∧ i ≤ wd ∧ J (wd * j + i) wr ∧ Nums wr B [x, y, x + wd, y + hg])
        (fun p wr => (x + wd - intOf p).toNat)
      case atStart => exact ⟨0, by simp, by omega, HJ2.out, HN2.out⟩
      case round =>
        obtain ⟨i, rfl, hi, hjs, hns⟩ := hrel
        have HJ3 := Lib.hid hjs
        have HN3 := Lib.hid hns
        clear hjs hns HJ2 HN2 c0 c1 c2 c3
        obtain ⟨c0, c1, c2, c3, _⟩ := HN3.out.four
        by_cases hli : i < wd
        · obtain ⟨fn, tmps, assign, body, hy, hR⟩ := HY.out i j wr hli hlt HN3.out.1 HJ3.out
          have HR := Lib.hid hR
          clear hR
          gi_wp2
          refine ⟨fun h => (by cases h), HR.out.mono ?_⟩
          rintro e W3 (⟨rfl, hJ4, hk⟩ | ⟨rfl, hx⟩)
          · have HJ4 := Lib.hid hJ4
            have HN4 := Lib.hid (HN3.out.of_block hk)
            clear hJ4 hk HR hy c0 c1 c2 c3
            gi_wp2
            go_roundw
            case rel => exact ⟨i + 1, by go_num, by omega, HJ4.out, HN4.out⟩
            case measure => simp [intOf]; omega
          · have HX := Lib.hid hx
            clear hx HR hy
            gi_wp2
            refine bodyPost_ret (results_none rfl _ _ _) rfl ?_
            exact ⟨⟨_, rfl⟩, .inr ⟨_, HX.out⟩⟩
        · obtain rfl : i = wd := by omega
          gi_wp2
          go_roundw
          case rel => exact ⟨j + 1, by go_num, by omega, by rw [Nat.mul_add, Nat.mul_one]; exact HJ3.out, HN3.out⟩
          case measure => simp [intOf]; omega
    · obtain rfl : j = hg := by omega
      gi_wp2
      go_end0
      exact ⟨⟨_, rfl⟩, .inl HJ2.out⟩

set_option maxRecDepth 100000 in
theorem all_none (x y X Y : Int) (h : noPts x y X Y = true) (l : Nat) (w : World) :
    Calls Tryz.prog 21 #[.agg #[.int .i64 x, .int .i64 y, .int .i64 X, .int .i64 Y], .func (.yield l) #[] #[]] w fun e w' => (∃ v, e = .returned v) ∧ Below w.heap.size w w' := by
  have HE := Lib.hid (fun w => rempty_any x y X Y w)
  rw [h] at HE
  clear h
  go_enter Tryz.func21, Tryz.ntmps21
  go_wp2_with fail
  refine (HE.out _).mono ?_
  rintro e w1 ⟨rfl, hb⟩
  have HB : Hid (Below w.heap.size w w1) := (bel1 w _).trans (hb.mono (by simp))
  clear hb
  go_wp2
  go_returns
  exact ⟨⟨_, rfl⟩, HB.out⟩
end Go.Proofs.YtnfjmmkokhncoaaGreat
end

section
namespace Go.Proofs.YtnfjmmkokhncoaaGreat
open Go.RowKit

theorem opIn_of_op {P : Program} {ops : Array Oper} {i l n : Nat} {a : Act} {K K' : Act → World → Prop} {Q : Exit → Act → World → Prop} {w : World} (hd : ∀ o, ops[i]? = some o → ∀ c, o.op ≠ .defer c) (hQ : ¬ LetsOut Q) (h : ∀ a w, K a w → K' a w) (hh : wpOp P ops Q i K a w) :
    wpOpIn (Fence.wide.inRound l) n P ops Q i K' a w := by
  unfold wpOp at hh
  unfold wpOpIn
  split
  · rename_i ho; simp only [ho] at hh; exact h _ _ hh
  · rename_i o ho
    simp only [ho] at hh
    split
    · rename_i hw
      simp only [hw, if_true] at hh
      have h3 := hh.resolve_right (fun hx => hQ hx.2)
      unfold Oper.wp at h3
      unfold Oper.wpIn
      refine ⟨fun _ _ => trivial, ?_⟩
      rw [show (Fence.wide.inRound l).round = some l from rfl, Oper.semAt_some l _ _ (hd o ho)]
      generalize (execOp a.eval o).run P w = res at *
      cases res with
      | ok x w' =>
        cases x <;> simp only [Oper.upon] at h3 <;> simp only [Oper.uponIn]
        case value u => exact h _ _ h3
        case skip => exact h _ _ h3
        case defer d => exact h _ _ h3
        case enter f args =>
          refine ⟨fun hs => (by cases hs), CallsIn.inRound l ((callsIn_wide (n := n - 1)).2 (h3.mono ?_))⟩
          intro e w'' he
          cases e with
          | returned v => exact h _ _ he
          | panicked c => exact he
          | outgrown => exact he
        case row row args =>
          refine ⟨fun hs => (by cases hs), ?_⟩
          intro c cs _
          obtain ⟨v, w3, r, s⟩ := h3 c cs
          exact ⟨v, w3, h _ _ r, stepsIn_wide.2 s⟩
      | halt x w' =>
        cases x <;> simp only [Oper.upon] at h3 <;> simp only [Oper.uponIn]
        exact h3
    · rename_i hw
      simp only [hw] at hh
      exact ⟨fun _ _ => trivial, h _ _ hh⟩
theorem anyIn_of_any {P : Program} {md : Region.Mode} {ops : Array Oper} {l n : Nat} {Q : Exit → Act → World → Prop} (hd : ∀ (i : Nat) o, ops[i]? = some o → ∀ c, o.op ≠ .defer c) (hQ : ¬ LetsOut Q) : ∀ (fuel : Nat) (listed : Array Bool) (a : Act) (w : World),
    wpAny P md ops Q fuel listed a w → wpAnyIn (Fence.wide.inRound l) n P md ops Q fuel listed a w
  | 0, _, _, _, h => h
  | fuel + 1, _, _, _, h => ⟨h.1, fun i hi => opIn_of_op (hd i) hQ (fun a' w' hw' => anyIn_of_any hd hQ fuel _ a' w' hw') (h.2 i hi)⟩
/-- The whole region. -/
theorem region_sq_round {P : Program} {Q : Exit → Act → World → Prop} {id l n : Nat} {L : List Oper} {a : Act} {w : World} (s : Nat) (D : World → Prop) (js : List (Nat × Nat)) (hdf : noDefer L = true) (hlo : ¬ LetsOut Q) (hm : P.follows .mixedOrders = true) (hs : Region.noSelect L.toArray = true) (hl : js.length = L.length) (hQ : ∀ c a d v w, Q (.panic c) (a.put d v) w → Q (.panic c) a w)
    (hB : sqB .any L s js 0 = true) (hD : D w.drew) (h : wpSq P L Q D js a w.drew) : (Code.region id L.toArray true).wpIn (Fence.wide.inRound l) n P Q a w := by
  refine wpIn_region_any hm (anyIn_of_any (fun i o ho c => noDefer_at hdf i o ho c) hlo _ _ _ _ (wpAny_of_J (s := s) (D := D) _ _ _ _ ?_))
  have := wpAnyJ_seq (md := .any) (s := s) (D := D) (P := P) (Q := Q) rfl hs hQ js 0 (Array.replicate L.length false) a w.drew (marks_none L.length) (closed_none _) (fun _ => hD) hB h
  rw [hl] at this
  simpa using this
theorem leftBy_lets {l : Nat} {r : Loop} {R : Ending → World → Prop} : ¬ LetsOut (leftBy l r R) := fun ⟨_, _, h⟩ => h
end Go.Proofs.YtnfjmmkokhncoaaGreat
end

section
namespace Go.Proofs.YtnfjmmkokhncoaaGreat
open Go.RowKit
set_option maxRecDepth 100000

/-- The rectangle's points, row by row, as far as they have come. -/
def ptsU (p q : Int) (wd k : Nat) : List (Int × Int) := (List.range k).map fun m => (p + ((m % wd : Nat) : Int), q + ((m / wd : Nat) : Int))
theorem ptsU_succ (p q : Int) (wd k : Nat) : ptsU p q wd (k + 1) = ptsU p q wd k ++ [(p + ((k % wd : Nat) : Int), q + ((k / wd : Nat) : Int))] := by
  unfold ptsU
  rw [List.range_succ, List.map_append]
  rfl
theorem ptsU_len (p q : Int) (wd k : Nat) : (ptsU p q wd k).length = k := by simp [ptsU]
theorem ptsU_mem (p q : Int) (wd hg : Nat) (hw : 0 < wd) (a b : Int) : (a, b) ∈ ptsU p q wd (wd * hg) ↔ (R4.mk p q (p + (wd : Int)) (q + (hg : Int))).has a b = true := by
  rw [R4.has_iff]
  unfold ptsU
  simp only [List.mem_map, List.mem_range, Prod.mk.injEq]
  constructor
  · rintro ⟨m, hm, rfl, rfl⟩
    have h1 : m % wd < wd := Nat.mod_lt _ hw
    have h2 : m / wd < hg := Nat.div_lt_of_lt_mul hm
    generalize m % wd = u at *
    generalize m / wd = v at *
    omega
  · rintro ⟨⟨h1, h2⟩, h3, h4⟩
    obtain ⟨i, hi⟩ := Int.eq_ofNat_of_zero_le (show 0 ≤ a - p by omega)
    obtain ⟨j, hj⟩ := Int.eq_ofNat_of_zero_le (show 0 ≤ b - q by omega)
    have hi' : i < wd := by omega
    have hj' : j < hg := by omega
    refine ⟨wd * j + i, ?_, ?_, ?_⟩
    · have : wd * (j + 1) ≤ wd * hg := Nat.mul_le_mul_left _ hj'
      rw [Nat.mul_add, Nat.mul_one] at this
      omega
    · rw [Nat.mul_add_mod, Nat.mod_eq_of_lt hi']; omega
    · rw [Nat.mul_add_div hw, Nat.div_eq_of_lt hi', Nat.add_zero]; omega
theorem Ob.blk {w w' : World} {sb g tb b : Nat} {o : Obj} (h : Ob w sb g tb b o) (hb : w'.heap[b]? = w.heap[b]?) : Ob w' sb g tb b o := ⟨by rw [hb]; exact h.at_, h.sb_, h.g_, h.tb_⟩
theorem S8x.putObj {W : World} {sb g tb B x L : Nat} {A : Obj} {v : Value} (h : S8x W sb g tb B x A v) (hb : B + 1 + 1 + 1 < L) (o : Obj) : S8x (W.putObj L o) sb g tb B x A v :=
  ⟨h.pl.blk (World.putObj_heap_other (by omega)), h.lb.blk (World.putObj_heap_other (by omega)), h.ac.blk (World.putObj_heap_other (by omega)), h.res.blk (World.putObj_heap_other (by omega))⟩
theorem Rv8.putLoop {W : World} {sb g tb L : Nat} {a : Option Addr} {l : List (Int × Int)} {r : Loop} (h : Rv8 W sb g tb a l) (hl : W.heap[L]? = some (.loop r)) (o : Obj) : Rv8 (W.putObj L o) sb g tb a l := by
  refine ⟨fun j c hc => ?_, fun bk off e => ?_⟩
  · obtain ⟨bk, e1, e2, e3⟩ := h.1 j c hc
    by_cases hbl : bk = L
    · subst hbl
      simp [World.cell?, hl] at e2
    · have hbk : (W.putObj L o).heap[bk]? = W.heap[bk]? := World.putObj_heap_other hbl
      exact ⟨bk, e1, by rw [cell_blk8 hbk]; exact e2, by rw [cell_blk8 hbk]; exact e3⟩
  · have := h.2 bk off e
    simpa using this
theorem Rv8.putDef {W : World} {sb g tb L : Nat} {a : Option Addr} {l : List (Int × Int)} {d : Option (List Deferred)} (h : Rv8 W sb g tb a l) (hl : W.heap[L]? = some (.deferred d)) (o : Obj) : Rv8 (W.putObj L o) sb g tb a l := by
  refine ⟨fun j c hc => ?_, fun bk off e => ?_⟩
  · obtain ⟨bk, e1, e2, e3⟩ := h.1 j c hc
    by_cases hbl : bk = L
    · subst hbl
      simp [World.cell?, hl] at e2
    · have hbk : (W.putObj L o).heap[bk]? = W.heap[bk]? := World.putObj_heap_other hbl
      exact ⟨bk, e1, by rw [cell_blk8 hbk]; exact e2, by rw [cell_blk8 hbk]; exact e3⟩
  · have := h.2 bk off e
    simpa using this
theorem Lst.putLoop {w W : World} {sb g tb L : Nat} {a : Option Addr} {v : Value} {l : List (Int × Int)} {r : Loop} (h : Lst w W sb g tb a v l) (hl : W.heap[L]? = some (.loop r)) (o : Obj) : Lst w (W.putObj L o) sb g tb a v l := by
  obtain ⟨a0, c0, h1, h2, h3⟩ := h
  exact ⟨a0, c0, h1, h2.putLoop hl o, h3⟩
theorem Nx.putObj {w W : World} {sb tb most g g' c L : Nat} {N N' : List Nd} (h : Nx sb tb most w g N c W g' N') (hw : w.heap.size ≤ L) (h1 : L ≠ sb) (h2 : L ≠ g') (h3 : L ≠ tb) (o : Obj) : Nx sb tb most w g N c (W.putObj L o) g' N' := by
  obtain ⟨cap, hs⟩ := h.st
  refine ⟨⟨cap, hs.keep (World.putObj_heap_other (Ne.symm h1)) (World.putObj_heap_other (Ne.symm h2)) (World.putObj_heap_other (Ne.symm h3))⟩, ⟨h.frm.os, h.frm.tape, h.frm.output, by simpa using h.frm.size, fun b hb hn => ?_⟩, h.gin, h.ext⟩
  rw [World.putObj_heap_other (by omega)]
  exact h.frm.block b hb hn
theorem Nx.low {w W : World} {sb tb most g g' c b i : Nat} {N N' : List Nd} (h : Nx sb tb most w g N c W g' N') (hw : w.heap.size ≤ b) (h1 : b ≠ sb) (h2 : b ≠ g') (h3 : b ≠ tb) (v : Value) : Nx sb tb most w g N c (W.setCell ⟨b, i, none⟩ v) g' N' := by
  obtain ⟨cap, hs⟩ := h.st
  exact ⟨⟨cap, st_set8 hs h1 h2 h3 v⟩, h.frm.set4 hw _ _, h.gin, h.ext⟩
theorem lt_of_some {W : World} {b : Nat} {o : Obj} (h : W.heap[b]? = some o) : b < W.heap.size := (Array.getElem?_eq_some_iff.1 h).1
/-- The state between two rounds: D the marks' block, the loop's record behind it. -/
structure Jd8 (w : World) (sb g tb most c : Nat) (M : List Nd) (x : Nat) (A : Obj) (g4 : Nat) (M4 : List Nd) (rb : Nat) (R : Obj) (nb : Nat) (P : Obj) (a : Option Addr) (l : List (Int × Int)) (D : Nat) (r : Loop) (W : World) : Prop where
  v : ∃ v, S8x W sb g4 tb w.heap.size x A v ∧ Lst w W sb g4 tb a v l
  nx : Nx sb tb most w g M c W g4 M4
  rc : Ob W sb g4 tb rb R
  nb : Ob W sb g4 tb nb P
  lp : Ob W sb g4 tb (D + 1) (.loop r)
  df : W.heap[D]? = some (.deferred (some []))
theorem Jd8.later {w W W' : World} {sb g tb most c x g4 rb nb D : Nat} {M M4 : List Nd} {A R P : Obj} {a : Option Addr} {l : List (Int × Int)} {r : Loop} (h : Jd8 w sb g tb most c M x A g4 M4 rb R nb P a l D r W) (hb : Below W.heap.size W W') : Jd8 w sb g tb most c M x A g4 M4 rb R nb P a l D r W' := by
  obtain ⟨v, h1, h2⟩ := h.v
  obtain ⟨cap, hs⟩ := h.nx.st
  exact ⟨⟨v, h1.later hb, h2.later hb⟩, h.nx.trans (Nx.of_below hs hb), h.rc.later hb, h.nb.later hb, h.lp.later hb, (hb.block _ (lt_of_some h.df)).trans h.df⟩
theorem Jd8.put {w W : World} {sb g tb most c x g4 rb nb D : Nat} {M M4 : List Nd} {A R P : Obj} {a : Option Addr} {l : List (Int × Int)} {r : Loop} (h : Jd8 w sb g tb most c M x A g4 M4 rb R nb P a l D r W) (hD : w.heap.size + 1 + 1 + 1 < D ∧ rb < D ∧ nb < D) (r' : Loop) : Jd8 w sb g tb most c M x A g4 M4 rb R nb P a l D r' (W.putObj (D + 1) (.loop r')) := by
  obtain ⟨v, h1, h2⟩ := h.v
  exact ⟨⟨v, h1.putObj (by omega) _, h2.putLoop h.lp.at_ _⟩, h.nx.putObj (by omega) h.lp.sb_ h.lp.g_ h.lp.tb_ _, h.rc.blk (World.putObj_heap_other (by omega)), h.nb.blk (World.putObj_heap_other (by omega)), ⟨World.putObj_heap_same h.lp.lt, h.lp.sb_, h.lp.g_, h.lp.tb_⟩, (World.putObj_heap_other (by omega)).trans h.df⟩
theorem Jd8.drew {w W : World} {sb g tb most c x g4 rb nb D : Nat} {M M4 : List Nd} {A R P : Obj} {a : Option Addr} {l : List (Int × Int)} {r : Loop} (h : Jd8 w sb g tb most c M x A g4 M4 rb R nb P a l D r W) : Jd8 w sb g tb most c M x A g4 M4 rb R nb P a l D r W.drew := by
  obtain ⟨v, h1, h2⟩ := h.v
  exact ⟨⟨v, ⟨h1.pl.drew, h1.lb.drew, h1.ac.drew, h1.res.drew⟩, h2⟩, nx_drew8 h.nx, h.rc.drew, h.nb.drew, h.lp.drew, h.df⟩
/-- The list's variable is put. -/
theorem Jd8.list {w W : World} {sb g tb most c x g4 rb nb D : Nat} {M M4 : List Nd} {A R P : Obj} {a : Option Addr} {l l' : List (Int × Int)} {r : Loop} (h : Jd8 w sb g tb most c M x A g4 M4 rb R nb P a l D r W) (hD : w.heap.size + 1 + 1 + 1 < rb ∧ w.heap.size + 1 + 1 + 1 < nb ∧ w.heap.size + 1 + 1 + 1 < D) (ha : ∀ bk off, a = some ⟨bk, off, none⟩ → bk < w.heap.size) (u : Value) (hu : Lst w W sb g4 tb a u l') : Jd8 w sb g tb most c M x A g4 M4 rb R nb P a l' D r (W.setCell ⟨w.heap.size + 1, 0, none⟩ u) := by
  obtain ⟨v, h1, h2⟩ := h.v
  refine ⟨⟨u, h1.lbput u, hu.low ha ⟨by omega, by omega⟩ u⟩, h.nx.low (by omega) h1.lb.sb_ h1.lb.g_ h1.lb.tb_ u, h.rc.other (by show w.heap.size + 1 ≠ rb; omega) u, h.nb.other (by show w.heap.size + 1 ≠ nb; omega) u, h.lp.other (by show w.heap.size + 1 ≠ D + 1; omega) u, ?_⟩
  rw [Below.heap_setCell _ _ _ _ (by show D ≠ w.heap.size + 1; omega)]
  exact h.df
theorem inb_left {id l : Nat} {r : Loop} {R : Ending → World → Prop} {a : Act} {W : World} (h1 : W.heap[l]? = some (.loop (busyL r))) (h2 : R (.returned (.bool true)) (W.putObj l (.loop (readyL r)))) : Exit.inBlock id (leftBy l r R) .normal a W := ⟨h1, h2⟩
theorem ro_two (w : World) (a b c d : Int) (t : TypeId) : Ro (w.alloc (.cells #[.int .i64 a, .int .i64 b, .int .i64 c, .int .i64 d] t)) (some ⟨w.heap.size, 0, none⟩) [(a, b), (c, d)] := fun j e he => by
  match j, he with
  | 0, he => simp at he; subst he; exact ⟨_, rfl, by simp, by simp⟩
  | 1, he => simp at he; subst he; exact ⟨_, rfl, by simp, by simp⟩
  | j + 2, he => simp at he
theorem level_two {p q u v : Int} {n n4 : Nat} (h1 : n ≤ n4) (h2 : n4 ≤ 61) (h3 : n4 = 61 ∨ fitB n4 [(p, q), (u, v)] = true) (h4 : ∀ i, n ≤ i → i < n4 → fitB i [(p, q), (u, v)] = false) (w : World) :
    Calls Tryz.prog 23 #[.slice (some ⟨w.heap.size, 0, none⟩) 2 2, .int .i64 ((n : Int) + 1)] (w.alloc (.cells #[.int .i64 p, .int .i64 q, .int .i64 u, .int .i64 v] 45)) fun e w' => e = .returned (.int .i64 ((n4 : Int) + 1)) ∧ w.alloc (.cells #[.int .i64 p, .int .i64 q, .int .i64 u, .int .i64 v] 45) = w' :=
  level_ref [(p, q), (u, v)] (some ⟨w.heap.size, 0, none⟩) 2 n n4 h1 h2 h3 h4 _ (ro_two w p q _ _ 45) (by simp)
/-- A region that never panics. -/
def noPan (Q : Exit → Act → World → Prop) : Exit → Act → World → Prop
  | .panic _, _, _ => False
  | e, a, w => Q e a w
theorem noPan_n {Q : Exit → Act → World → Prop} {a : Act} {w : World} (h : Q .normal a w) : noPan Q .normal a w := h
theorem wp_np {P : Program} {c : Code} {Q : Exit → Act → World → Prop} {a : Act} {w : World} (h : c.wp P (noPan Q) a w) : c.wp P Q a w := wp_mono h (fun e _ _ h => by cases e <;> first | exact h | exact h.elim)
theorem region_sq_np {P : Program} {Q : Exit → Act → World → Prop} {id : Nat} {L : List Oper} {a : Act} {w : World} (s : Nat) (D : World → Prop) (js : List (Nat × Nat)) (hm : P.follows .mixedOrders = true) (hs : Region.noSelect L.toArray = true) (hl : js.length = L.length)
    (hB : sqB .any L s js 0 = true) (hD : D w.drew) (h : wpSq P L (noPan Q) D js a w.drew) : (Code.region id L.toArray true).wp P Q a w :=
  wp_mono (region_sq (Q := noPan Q) s D js hm hs hl (fun _ _ _ _ _ h => h) hB hD h) (fun e _ _ h => by cases e <;> first | exact h | exact h.elim)
/-- Set's answer is such a list. -/
theorem lst_set {w W W' : World} {sb g tb cap most : Nat} {N : List Nd} {a : Option Addr} {v : Value} {l : List (Int × Int)} (hs : St W sb g tb cap most N) (ho : OwP W' W.heap.size v l) (hw : w.heap.size + 1 + 1 + 1 < W.heap.size) : Lst w W' sb g tb a v l := by
  obtain ⟨h1, h2, h3⟩ := hs.lt
  exact lst_own ho ⟨h1, h2, h3, hw⟩
end Go.Proofs.YtnfjmmkokhncoaaGreat
end
