/- append(own, row...), the row nil or not: one law. -/
import Derived.Test.YtbliddmkmieppaaDoorPuts
import Derived.Laws.AppendOwnNone
namespace Go.Proofs.YtbliddmkmieppaaDoor
open Go.RowKit

theorem Row.none_nil {k : IntKind} {w : World} {B : Nat} {zs : List Int} (h : Row k w B none zs) : zs = [] := by
  match zs, h with
  | [], _ => rfl
  | z :: r, h => obtain ⟨_, _, h, _⟩ := h 0 z rfl; cases h

theorem wpList_append_row {P : Program} {w : World} {ops : Array Oper} {rest : List Oper} {o : Oper} {a : Act} {Q : Exit → Act → World → Prop} (hgd : o.guard = none) (s x : Operand) (t : TypeId)
    (ho : o.op = .call { callee := .builtin .append, args := #[s, x], argTypes := #[t, t] })
    (base : Nat) (e : TypeId) (i : TypeInfo) (z : Value) (bytes : Nat) (ht : P.underlying t = some (.slice e)) (hi : P.info? e = some i) (hz : i.zero = some z)
    (hsize : i.size = 1) (hby : i.bytes = bytes) (hzs : z.cells.size = 1)
    (v : Value) (n : Nat) (xs : List Value) (hs : a.eval s = v) (hown : w.ownsRow base e 1 v n xs)
    (A : Option Addr) (m c : Nat) (k : IntKind) (B : Nat) (zs : List Int) (hx : a.eval x = .slice A m c) (hm : zs.length = m) (hA : A = none → c = 0) (hrow : Row k w B A zs)
    (h63 : n + m ≤ maxLen) (hbytes : (n + m) * bytes ≤ 140737488355328) (hbase : base ≤ w.heap.size)
    (h : ∀ v' w', w'.ownsRow base e 1 v' (n + m) (xs ++ zs.map (Value.int k)) → w.grownBy w' v.ownBlock → wpList P ops Q rest (a.put o.dst v') w') : wpList P ops Q (o :: rest) a w := by
  match A, hA, hrow, hx with
  | none, hA, hrow, hx =>
    obtain rfl := hrow.none_nil
    obtain rfl : 0 = m := hm
    obtain rfl := hA rfl
    refine wpList_append_own_none hgd s x t ho base e i 1 ht hi v n xs hs hown hx (h v w ?_ ⟨rfl, rfl, rfl, Nat.le_refl _, fun _ _ _ => rfl⟩)
    simpa using hown
  | some ad, _, hrow, hx =>
    refine wpList_append_own (w := w) hgd s x t ho base e i z 1 bytes ht hi hz hsize hby hzs (by decide) v n xs hs hown ad m c (zs.map (Value.int k)) hx (by simp [hm]) (fun j u hu => ?_) (fun u hu => ?_) h63 hbytes hbase (fun v' w' h1 h2 _ => h v' w' h1 h2)
    · rw [List.getElem?_map] at hu
      obtain ⟨z, hz, rfl⟩ := Option.map_eq_some_iff.1 hu
      obtain ⟨bk, off, e, _, hc⟩ := hrow j z hz
      obtain rfl := Option.some.inj e
      rw [add_at]; exact hc
    · obtain ⟨x, _, rfl⟩ := List.mem_map.1 hu; rfl
end Go.Proofs.YtbliddmkmieppaaDoor
