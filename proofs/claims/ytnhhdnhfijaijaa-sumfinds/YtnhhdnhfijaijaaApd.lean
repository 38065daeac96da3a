/- append(own, row...), the row nil or not: one law. -/
import Derived.Test.YtnhhdnhfijaijaaRw
import Derived.Laws.AppendOwnNone
import Derived.Laws.MakeOwn
namespace Go.Proofs.Ytnhhdnhfijaijaa
open Go.RowKit

theorem Row.none_nil {k : IntKind} {w : World} {B : Nat} {zs : List Int} (h : Row k w B none zs) : zs = [] := by
  match zs, h with
  | [], _ => rfl
  | z :: r, h => obtain ⟨_, _, h, _⟩ := h 0 z rfl; cases h

theorem wpList_append_row {P : Program} {w : World} {ops : Array Oper} {rest : List Oper} {o : Oper} {a : Act} {Q : Exit → Act → World → Prop} (hgd : o.guard = none) (s x : Operand) (t : TypeId)
    (ho : o.op = .call { callee := .builtin .append, args := #[s, x], argTypes := #[t, t] })
    (base : Nat) (e : TypeId) (i : TypeInfo) (z : Value) (bytes : Nat) (ht : P.underlying t = some (.slice e)) (hi : P.info? e = some i) (hz : i.zero = some z)
    (hsize : i.size = 1) (hby : i.bytes = bytes) (hzs : z.cells.size = 1)
    (v : Value) (n : Nat) (xs : List Value) (hs : a.eval s = v) (hown : w.ownsRow base e 1 v n xs)
    (A : Option Addr) (m c : Nat) (k : IntKind) (B : Nat) (zs : List Int) (hx : a.eval x = .slice A m c) (hm : zs.length = m) (hA : A = none → c = 0) (hrow : Row k w B A zs)
    (h63 : n + m ≤ maxLen) (hbytes : (n + m) * bytes ≤ 140737488355328) (hbase : base ≤ w.heap.size)
    (h : ∀ v' w', w'.ownsRow base e 1 v' (n + m) (xs ++ zs.map (Value.int k)) → w.grownBy w' v.ownBlock → wpList P ops Q rest (a.put o.dst v') w') : wpList P ops Q (o :: rest) a w := by
  match A, hA, hrow, hx with
  | none, hA, hrow, hx =>
    obtain rfl := hrow.none_nil
    obtain rfl : 0 = m := hm
    obtain rfl := hA rfl
    refine wpList_append_own_none hgd s x t ho base e i 1 ht hi v n xs hs hown hx (h v w ?_ ⟨rfl, rfl, rfl, Nat.le_refl _, fun _ _ _ => rfl⟩)
    simpa using hown
  | some ad, _, hrow, hx =>
    refine wpList_append_own (w := w) hgd s x t ho base e i z 1 bytes ht hi hz hsize hby hzs (by decide) v n xs hs hown ad m c (zs.map (Value.int k)) hx (by simp [hm]) (fun j u hu => ?_) (fun u hu => ?_) h63 hbytes hbase (fun v' w' h1 h2 _ => h v' w' h1 h2)
    · rw [List.getElem?_map] at hu
      obtain ⟨z, hz, rfl⟩ := Option.map_eq_some_iff.1 hu
      obtain ⟨bk, off, e, _, hc⟩ := hrow j z hz
      obtain rfl := Option.some.inj e
      rw [add_at]; exact hc
    · obtain ⟨x, _, rfl⟩ := List.mem_map.1 hu; rfl
/-- The same behind a guard that says yes. -/
theorem wpList_wanted {P : Program} {w : World} {ops : Array Oper} {rest : List Oper} {o : Oper} {a : Act} {Q : Exit → Act → World → Prop} (hw : Region.wanted o (yielded ops a.tmps) = true) (h : o.wp P a w (wpList P ops Q rest) Q) : wpList P ops Q (o :: rest) a w := by
  unfold wpList
  rw [if_pos hw]
  exact Or.inl h
theorem wpList_append_row_g {P : Program} {w : World} {ops : Array Oper} {rest : List Oper} {o : Oper} {a : Act} {Q : Exit → Act → World → Prop} (hw : Region.wanted o (yielded ops a.tmps) = true) (s x : Operand) (t : TypeId)
    (ho : o.op = .call { callee := .builtin .append, args := #[s, x], argTypes := #[t, t] })
    (base : Nat) (e : TypeId) (i : TypeInfo) (z : Value) (bytes : Nat) (ht : P.underlying t = some (.slice e)) (hi : P.info? e = some i) (hz : i.zero = some z)
    (hsize : i.size = 1) (hby : i.bytes = bytes) (hzs : z.cells.size = 1)
    (v : Value) (n : Nat) (xs : List Value) (hs : a.eval s = v) (hown : w.ownsRow base e 1 v n xs)
    (A : Option Addr) (m c : Nat) (k : IntKind) (B : Nat) (zs : List Int) (hx : a.eval x = .slice A m c) (hm : zs.length = m) (hA : A = none → c = 0) (hrow : Row k w B A zs)
    (h63 : n + m ≤ maxLen) (hbytes : (n + m) * bytes ≤ 140737488355328) (hbase : base ≤ w.heap.size)
    (h : ∀ v' w', w'.ownsRow base e 1 v' (n + m) (xs ++ zs.map (Value.int k)) → w.grownBy w' v.ownBlock → wpList P ops Q rest (a.put o.dst v') w') : wpList P ops Q (o :: rest) a w := by
  match A, hA, hrow, hx with
  | none, hA, hrow, hx =>
    obtain rfl := hrow.none_nil
    obtain rfl : 0 = m := hm
    obtain rfl := hA rfl
    refine wpList_wanted hw ?_
    have hrun := run_append_owned_none (P := P) (w := w) base t o.type e i 1 ht hi v n xs hown
    unfold Oper.wp
    simp [execOp, ho, resolve, invoke, builtin, hs, hx, hrun, Result.andThen]
    exact h v w (by simpa using hown) ⟨rfl, rfl, rfl, Nat.le_refl _, fun _ _ _ => rfl⟩
  | some ad, _, hrow, hx =>
    refine wpList_wanted hw (wp_append_own w s x t ho base e i z 1 bytes ht hi hz hsize hby hzs (by decide) v n xs hs hown ad m c (zs.map (Value.int k)) hx (by simp [hm]) (fun j u hu => ?_) (fun u hu => ?_) h63 hbytes hbase (fun v' w' h1 h2 _ => h v' w' h1 h2))
    · rw [List.getElem?_map] at hu
      obtain ⟨z, hz, rfl⟩ := Option.map_eq_some_iff.1 hu
      obtain ⟨bk, off, e, _, hc⟩ := hrow j z hz
      obtain rfl := Option.some.inj e
      rw [add_at]; exact hc
    · obtain ⟨x, _, rfl⟩ := List.mem_map.1 hu; rfl
/-- append(own, row...), behind a guard that says yes or without one, over what is known of the world at the start. -/
theorem apd_own {w0 w : World} {ops : Array Oper} {rest : List Oper} {o : Oper} {a : Act} {Q : Exit → Act → World → Prop} (hw : Region.wanted o (yielded ops a.tmps) = true) (s x : Operand)
    (ho : o.op = .call { callee := .builtin .append, args := #[s, x], argTypes := #[22, 22] }) (B : Nat) (v : Value) (xs : List Int) (hs : a.eval s = v) (hown : Own w B v xs)
    (A : Option Addr) (m c : Nat) (zs : List Int) (hx : a.eval x = .slice A m c) (hm : zs.length = m) (hA : A = none → c = 0) (hB : B ≤ w0.heap.size) (hbel : Below B w0 w) (hrow : Row .u8 w0 B A zs) (hlen : xs.length + zs.length ≤ 1000000000)
    (h : ∀ v' w', Own w' B v' (xs ++ zs) → Below B w0 w' → wpList Try.prog ops Q rest (a.put o.dst v') w') : wpList Try.prog ops Q (o :: rest) a w := by
  obtain ⟨i0, hi, hz0, hz1, hz2⟩ := info_parts Try.infoU8
  have hB' : B ≤ w.heap.size := Nat.le_trans hB hbel.size
  refine wpList_append_row_g hw s x 22 ho B 5 i0 (.int .u8 0) 1 Try.underlying22 hi hz0 hz1 hz2 rfl v xs.length (xs.map (Value.int .u8)) hs hown A m c .u8 B zs hx hm hA (hrow.later hbel (Nat.le_refl _)) (by unfold maxLen; omega) (by omega) hB' (fun v' w' h1 h2 => h v' w' ?_ (hbel.grown h2 hB' (fun k hk => (hown.lt k hk).1)))
  unfold Own
  rw [List.map_append, List.length_append, hm]
  exact h1
/-- An empty row that was built. -/
theorem own_empty (W : World) (B : Nat) (h : B ≤ W.heap.size) : (W.alloc (.cells #[] 5)).ownsRow B 5 1 (.slice (some ⟨W.heap.size, 0, none⟩) 0 0) 0 [] :=
  World.ownsRow_made W #[] 0 h (by unfold maxLen; omega) rfl
theorem own_built (W : World) (B : Nat) (h : B ≤ W.heap.size) : Own (W.alloc (.cells #[] 5)) B (.slice (some ⟨W.heap.size, 0, none⟩) 0 0) [] := own_empty W B h
end Go.Proofs.Ytnhhdnhfijaijaa
