/- append(own, row...), the row nil or not: one law. -/
import Derived.Test.YtnhhdnhfijaijaaRw
import Derived.Laws.AppendOwnNone
import Derived.Laws.MakeOwn
import Derived.Laws.OwnMore
namespace Go.Proofs.Ytnhhdnhfijaijaa
open Go.RowKit

theorem Row.none_nil {k : IntKind} {w : World} {B : Nat} {zs : List Int} (h : Row k w B none zs) : zs = [] := by
  match zs, h with
  | [], _ => rfl
  | z :: r, h => obtain ⟨_, _, h, _⟩ := h 0 z rfl; cases h

theorem wpList_append_row {P : Program} {w : World} {ops : Array Oper} {rest : List Oper} {o : Oper} {a : Act} {Q : Exit → Act → World → Prop} (hgd : o.guard = none) (s x : Operand) (t : TypeId)
    (ho : o.op = .call { callee := .builtin .append, args := #[s, x], argTypes := #[t, t] })
    (base : Nat) (e : TypeId) (i : TypeInfo) (z : Value) (bytes : Nat) (ht : P.underlying t = some (.slice e)) (hi : P.info? e = some i) (hz : i.zero = some z)
    (hsize : i.size = 1) (hby : i.bytes = bytes) (hzs : z.cells.size = 1)
    (v : Value) (n : Nat) (xs : List Value) (hs : a.eval s = v) (hown : w.ownsRow base e 1 v n xs)
    (A : Option Addr) (m c : Nat) (k : IntKind) (B : Nat) (zs : List Int) (hx : a.eval x = .slice A m c) (hm : zs.length = m) (hA : A = none → c = 0) (hrow : Row k w B A zs)
    (h63 : n + m ≤ maxLen) (hbytes : (n + m) * bytes ≤ 140737488355328) (hbase : base ≤ w.heap.size)
    (h : ∀ v' w', w'.ownsRow base e 1 v' (n + m) (xs ++ zs.map (Value.int k)) → w.grownBy w' v.ownBlock → wpList P ops Q rest (a.put o.dst v') w') : wpList P ops Q (o :: rest) a w := by
  match A, hA, hrow, hx with
  | none, hA, hrow, hx =>
    obtain rfl := hrow.none_nil
    obtain rfl : 0 = m := hm
    obtain rfl := hA rfl
    refine wpList_append_own_none hgd s x t ho base e i 1 ht hi v n xs hs hown hx (h v w ?_ ⟨rfl, rfl, rfl, Nat.le_refl _, fun _ _ _ => rfl⟩)
    simpa using hown
  | some ad, _, hrow, hx =>
    refine wpList_append_own (w := w) hgd s x t ho base e i z 1 bytes ht hi hz hsize hby hzs (by decide) v n xs hs hown ad m c (zs.map (Value.int k)) hx (by simp [hm]) (fun j u hu => ?_) (fun u hu => ?_) h63 hbytes hbase (fun v' w' h1 h2 _ => h v' w' h1 h2)
    · rw [List.getElem?_map] at hu
      obtain ⟨z, hz, rfl⟩ := Option.map_eq_some_iff.1 hu
      obtain ⟨bk, off, e, _, hc⟩ := hrow j z hz
      obtain rfl := Option.some.inj e
      rw [add_at]; exact hc
    · obtain ⟨x, _, rfl⟩ := List.mem_map.1 hu; rfl
/-- The same behind a guard that says yes. -/
theorem wpList_wanted {P : Program} {w : World} {ops : Array Oper} {rest : List Oper} {o : Oper} {a : Act} {Q : Exit → Act → World → Prop} (hw : Region.wanted o (yielded ops a.tmps) = true) (h : o.wp P a w (wpList P ops Q rest) Q) : wpList P ops Q (o :: rest) a w := by
  unfold wpList
  rw [if_pos hw]
  exact Or.inl h
theorem wpList_append_row_g {P : Program} {w : World} {ops : Array Oper} {rest : List Oper} {o : Oper} {a : Act} {Q : Exit → Act → World → Prop} (hw : Region.wanted o (yielded ops a.tmps) = true) (s x : Operand) (t : TypeId)
    (ho : o.op = .call { callee := .builtin .append, args := #[s, x], argTypes := #[t, t] })
    (base : Nat) (e : TypeId) (i : TypeInfo) (z : Value) (bytes : Nat) (ht : P.underlying t = some (.slice e)) (hi : P.info? e = some i) (hz : i.zero = some z)
    (hsize : i.size = 1) (hby : i.bytes = bytes) (hzs : z.cells.size = 1)
    (v : Value) (n : Nat) (xs : List Value) (hs : a.eval s = v) (hown : w.ownsRow base e 1 v n xs)
    (A : Option Addr) (m c : Nat) (k : IntKind) (B : Nat) (zs : List Int) (hx : a.eval x = .slice A m c) (hm : zs.length = m) (hA : A = none → c = 0) (hrow : Row k w B A zs)
    (h63 : n + m ≤ maxLen) (hbytes : (n + m) * bytes ≤ 140737488355328) (hbase : base ≤ w.heap.size)
    (h : ∀ v' w', w'.ownsRow base e 1 v' (n + m) (xs ++ zs.map (Value.int k)) → w.grownBy w' v.ownBlock → wpList P ops Q rest (a.put o.dst v') w') : wpList P ops Q (o :: rest) a w := by
  match A, hA, hrow, hx with
  | none, hA, hrow, hx =>
    obtain rfl := hrow.none_nil
    obtain rfl : 0 = m := hm
    obtain rfl := hA rfl
    refine wpList_wanted hw ?_
    have hrun := run_append_owned_none (P := P) (w := w) base t o.type e i 1 ht hi v n xs hown
    unfold Oper.wp
    simp [execOp, ho, resolve, invoke, builtin, hs, hx, hrun, Result.andThen]
    exact h v w (by simpa using hown) ⟨rfl, rfl, rfl, Nat.le_refl _, fun _ _ _ => rfl⟩
  | some ad, _, hrow, hx =>
    refine wpList_wanted hw (wp_append_own w s x t ho base e i z 1 bytes ht hi hz hsize hby hzs (by decide) v n xs hs hown ad m c (zs.map (Value.int k)) hx (by simp [hm]) (fun j u hu => ?_) (fun u hu => ?_) h63 hbytes hbase (fun v' w' h1 h2 _ => h v' w' h1 h2))
    · rw [List.getElem?_map] at hu
      obtain ⟨z, hz, rfl⟩ := Option.map_eq_some_iff.1 hu
      obtain ⟨bk, off, e, _, hc⟩ := hrow j z hz
      obtain rfl := Option.some.inj e
      rw [add_at]; exact hc
    · obtain ⟨x, _, rfl⟩ := List.mem_map.1 hu; rfl
/-- append(own, row...), behind a guard that says yes or without one, over what is known of the world at the start. -/
theorem apd_own {w0 w : World} {ops : Array Oper} {rest : List Oper} {o : Oper} {a : Act} {Q : Exit → Act → World → Prop} (hw : Region.wanted o (yielded ops a.tmps) = true) (s x : Operand)
    (ho : o.op = .call { callee := .builtin .append, args := #[s, x], argTypes := #[22, 22] }) (B : Nat) (v : Value) (xs : List Int) (hs : a.eval s = v) (hown : Own w B v xs)
    (A : Option Addr) (m c : Nat) (zs : List Int) (hx : a.eval x = .slice A m c) (hm : zs.length = m) (hA : A = none → c = 0) (hB : B ≤ w0.heap.size) (hbel : Below B w0 w) (hrow : Row .u8 w0 B A zs) (hlen : xs.length + zs.length ≤ 1000000000)
    (h : ∀ v' w', Own w' B v' (xs ++ zs) → Below B w0 w' → wpList Try.prog ops Q rest (a.put o.dst v') w') : wpList Try.prog ops Q (o :: rest) a w := by
  obtain ⟨i0, hi, hz0, hz1, hz2⟩ := info_parts Try.infoU8
  have hB' : B ≤ w.heap.size := Nat.le_trans hB hbel.size
  refine wpList_append_row_g hw s x 22 ho B 5 i0 (.int .u8 0) 1 Try.underlying22 hi hz0 hz1 hz2 rfl v xs.length (xs.map (Value.int .u8)) hs hown A m c .u8 B zs hx hm hA (hrow.later hbel (Nat.le_refl _)) (by unfold maxLen; omega) (by omega) hB' (fun v' w' h1 h2 => h v' w' ?_ (hbel.grown h2 hB' (fun k hk => (hown.lt k hk).1)))
  unfold Own
  rw [List.map_append, List.length_append, hm]
  exact h1
/-- The same, the row known in the world in which it is appended. -/
theorem apd_own2 {w0 w : World} {ops : Array Oper} {rest : List Oper} {o : Oper} {a : Act} {Q : Exit → Act → World → Prop} (hw : Region.wanted o (yielded ops a.tmps) = true) (s x : Operand)
    (ho : o.op = .call { callee := .builtin .append, args := #[s, x], argTypes := #[22, 22] }) (B : Nat) (v : Value) (xs : List Int) (hs : a.eval s = v) (hown : Own w B v xs)
    (A : Option Addr) (m c Bx : Nat) (zs : List Int) (hx : a.eval x = .slice A m c) (hm : zs.length = m) (hA : A = none → c = 0) (hB : B ≤ w0.heap.size) (hbel : Below B w0 w) (hrow : Row .u8 w Bx A zs) (hlen : xs.length + zs.length ≤ 1000000000)
    (h : ∀ v' w', Own w' B v' (xs ++ zs) → Below B w0 w' → wpList Try.prog ops Q rest (a.put o.dst v') w') : wpList Try.prog ops Q (o :: rest) a w := by
  obtain ⟨i0, hi, hz0, hz1, hz2⟩ := info_parts Try.infoU8
  have hB' : B ≤ w.heap.size := Nat.le_trans hB hbel.size
  refine wpList_append_row_g hw s x 22 ho B 5 i0 (.int .u8 0) 1 Try.underlying22 hi hz0 hz1 hz2 rfl v xs.length (xs.map (Value.int .u8)) hs hown A m c .u8 Bx zs hx hm hA hrow (by unfold maxLen; omega) (by omega) hB' (fun v' w' h1 h2 => h v' w' ?_ (hbel.grown h2 hB' (fun k hk => (hown.lt k hk).1)))
  unfold Own
  rw [List.map_append, List.length_append, hm]
  exact h1
/-- make([]byte, 0, n). -/
theorem made_row (n : Nat) (hn : n ≤ 1000000000) :
    ∃ MC : Array Value, MC.toList = List.replicate n (.int .u8 0) ∧ (∀ (W : World) (E : Int), E = (n : Int) → (Instr.makeSlice 22 (.int .i64 0) (.int .i64 E)).run Try.prog W = .ok (.slice (some ⟨W.heap.size, 0, none⟩) 0 n) (W.alloc (.cells MC 5))) ∧
      (∀ (W : World) (B : Nat), B ≤ W.heap.size → Own (W.alloc (.cells MC 5)) B (.slice (some ⟨W.heap.size, 0, none⟩) 0 n) []) := by
  obtain ⟨i0, hi, hz0, hz1, hz2⟩ := info_parts Try.infoU8
  refine ⟨madeCells (Value.int .u8 0).cells n, toList_madeCells_one _ _, fun W E hE => ?_, fun W B h => ?_⟩
  · have := run_make (P := Try.prog) W 22 5 i0 (.int .u8 0) Try.underlying22 hi hz0 .i64 .i64 0 E (by omega) (by omega) (by rw [hz2]; omega) (by omega)
    rw [hz1, Nat.mul_one, show E.toNat = n by omega, show (0 : Int).toNat = 0 from rfl] at this
    exact this
  · exact World.ownsRow_made W _ n h (by unfold maxLen; omega) (by rw [size_madeCells, Nat.mul_one])
/-- append(made, row...): what was made with room keeps its zeros behind. -/
theorem apd_whole {w0 w : World} {ops : Array Oper} {rest : List Oper} {o : Oper} {a : Act} {Q : Exit → Act → World → Prop} (hw : Region.wanted o (yielded ops a.tmps) = true) (s x : Operand)
    (ho : o.op = .call { callee := .builtin .append, args := #[s, x], argTypes := #[22, 22] }) (B g n : Nat) (MC : Array Value) (hs : a.eval s = .slice (some ⟨g, 0, none⟩) 0 n) (hg : w.heap[g]? = some (.cells MC 5 (0, 0))) (hMC : MC.toList = List.replicate n (.int .u8 0)) (hBg : B ≤ g) (hnm : n ≤ 1000000000)
    (A : Option Addr) (m c : Nat) (zs : List Int) (hx : a.eval x = .slice A m c) (hm : zs.length = m) (hA : A = none → c = 0) (hB : B ≤ w0.heap.size) (hbel : Below B w0 w) (hrow : Row .u8 w0 B A zs) (hlen : m ≤ n)
    (h : ∀ w', w'.heap[g]? = some (.cells ((zs ++ List.replicate (n - m) 0).map (Value.int .u8)).toArray 5 (0, 0)) → Below B w0 w' → wpList Try.prog ops Q rest (a.put o.dst (.slice (some ⟨g, 0, none⟩) m n)) w') : wpList Try.prog ops Q (o :: rest) a w := by
  obtain ⟨i0, hi, hz0, hz1, hz2⟩ := info_parts Try.infoU8
  have hsz : MC.size = n := by rw [← Array.length_toList, hMC, List.length_replicate]
  have hB' : B ≤ w.heap.size := Nat.le_trans hB hbel.size
  match A, hA, hrow, hx with
  | none, hA, hrow, hx =>
    obtain rfl := hrow.none_nil
    obtain rfl : 0 = m := hm
    obtain rfl := hA rfl
    have hown : w.ownsRow B 5 1 (.slice (some ⟨g, 0, none⟩) 0 n) 0 [] := ⟨rfl, Or.inr ⟨g, n, MC, rfl, hBg, hg, Nat.zero_le _, by unfold maxLen; omega, by omega, by simp⟩⟩
    refine wpList_wanted hw ?_
    have hrun := run_append_owned_none (P := Try.prog) (w := w) B 22 o.type 5 i0 1 Try.underlying22 hi _ _ _ hown
    unfold Oper.wp
    simp [execOp, ho, resolve, invoke, builtin, hs, hx, hrun, Result.andThen]
    refine h w ?_ hbel
    rw [hg, List.nil_append, List.map_replicate, Nat.sub_zero, ← hMC, Array.toArray_toList]
  | some ad, _, hrow, hx =>
    have hr := run_append_room (P := Try.prog) w 22 o.type 5 i0 Try.underlying22 hi g 0 n MC hg ad m c (zs.map (Value.int .u8)) (by rw [hz1, List.length_map]; omega) (fun j u hu => by
      rw [List.getElem?_map] at hu
      obtain ⟨z, hz, rfl⟩ := Option.map_eq_some_iff.1 hu
      obtain ⟨bk, off, e, _, hc⟩ := (hrow.later hbel (Nat.le_refl _)) j z hz
      obtain rfl := Option.some.inj e
      rw [add_at]; exact hc) (fun u hu => by obtain ⟨x, _, rfl⟩ := List.mem_map.1 hu; rfl) (by omega) (by rw [List.length_map]; omega)
    refine wpList_wanted hw ?_
    unfold Oper.wp execOp
    simp only [ho, resolve, invoke, builtin, Sem.run_bind, Sem.run_pure, Result.andThen_ok, List.map_toArray, List.map_cons, List.map_nil, hs, hx, hr]
    rw [Nat.zero_add]
    generalize hcs : (List.take (0 * i0.size) MC.toList ++ List.map (Value.int .u8) zs ++ List.drop (0 * i0.size + (List.map (Value.int .u8) zs).length) MC.toList).toArray = cs
    have hgr : w.grownBy (w.setRow g cs) (some g) := ⟨rfl, rfl, rfl, by simp, fun k _ hk => setRow_other w g k _ (fun e => hk (by simp [e]))⟩
    refine h _ ?_ (hbel.grown hgr hB' (fun k hk => by obtain rfl := Option.some.inj hk; exact hBg))
    subst hcs
    rw [setRow_heap w g MC _ 5 (0, 0) hg]
    congr 2
    rw [hMC, Nat.zero_mul, List.take_zero, List.nil_append, Nat.zero_add, List.length_map, hm, List.drop_replicate, List.map_append, List.map_replicate]
/-- An empty row that was built. -/
theorem own_empty (W : World) (B : Nat) (h : B ≤ W.heap.size) : (W.alloc (.cells #[] 5)).ownsRow B 5 1 (.slice (some ⟨W.heap.size, 0, none⟩) 0 0) 0 [] :=
  World.ownsRow_made W #[] 0 h (by unfold maxLen; omega) rfl
theorem own_built (W : World) (B : Nat) (h : B ≤ W.heap.size) : Own (W.alloc (.cells #[] 5)) B (.slice (some ⟨W.heap.size, 0, none⟩) 0 0) [] := own_empty W B h
end Go.Proofs.Ytnhhdnhfijaijaa
