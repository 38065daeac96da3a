-- M09
import Derived.Test.YtnfjmmkokhncoaaGreatM08
import Derived.Test.YtnfjmmkokhncoaaGreatM03
import Derived.Test.YtnfjmmkokhncoaaGreatM02
import Derived.Laws.StructEq
section
namespace Go.Proofs.YtnfjmmkokhncoaaGreat
open Go.RowKit Go.Maps
set_option maxRecDepth 100000

theorem and_cut (r : R4) (p q h : Int) (hp : 0 ≤ p ∧ p ≤ 2305843009213693952) (hq : 0 ≤ q ∧ q ≤ 2305843009213693952) (hh : 0 < h ∧ h ≤ 2305843009213693952) : ∃ A B C D, andV r.x r.y r.X r.Y p q (p + h) (q + h) = [A, B, C, D] ∧ cutR r p q h = ⟨A + -p, B + -q, C + -p, D + -q⟩ ∧ I64 (A + -p) ∧ I64 (B + -q) ∧ I64 (C + -p) ∧ I64 (D + -q) := by
  unfold andV cutR I64
  show ∃ A B C D, (if (R4.mk (max r.x p) (max r.y q) (min r.X (p + h)) (min r.Y (q + h))).no then _ else _) = _ ∧ _
  by_cases hm : (R4.mk (max r.x p) (max r.y q) (min r.X (p + h)) (min r.Y (q + h))).no = true
  · simp only [hm, if_true]
    refine ⟨0, 0, 0, 0, rfl, by simp, ?_⟩
    omega
  · simp only [hm]
    have := R4.no_not.1 (Bool.not_eq_true _ ▸ hm)
    simp only at this
    refine ⟨_, _, _, _, rfl, ?_, ?_⟩
    · simp only [Int.sub_eq_add_neg]; rfl
    · omega
structure Hq (w : World) (r : R4) (p q h : Int) (fb qb : Nat) (W : World) : Prop where
  bel : Below w.heap.size w W
  one : Nums W w.heap.size [r.x, r.y, r.X, r.Y]
  res : Nums W (w.heap.size + 1) [0, 0, 0, 0]
  fr : Nums W fb [p, q]
  qu : Nums W qb [p, q, p + h, q + h]
theorem Hq.later {w W W' : World} {r : R4} {p q h : Int} {fb qb : Nat} (hh : Hq w r p q h fb qb W) (hb : Below W.heap.size W W') : Hq w r p q h fb qb W' :=
  ⟨hh.bel.trans (hb.mono hh.bel.size), hh.one.later hb, hh.res.later hb, hh.fr.later hb, hh.qu.later hb⟩
theorem Hq.drewN {w W : World} {r : R4} {p q h : Int} {fb qb : Nat} (hh : Hq w r p q h fb qb W) (k : Nat) : Hq w r p q h fb qb (W.drewN k) :=
  ⟨⟨hh.bel.os, hh.bel.tape, hh.bel.output, hh.bel.size, hh.bel.block⟩, hh.one, hh.res, hh.fr, hh.qu⟩
theorem hq_done {w W : World} {r : R4} {p q h : Int} {fb qb : Nat} (hh : Hq w r p q h fb qb W) {s0 s1 s2 s3 : Int} : Below w.heap.size w ((((W.setCell ⟨w.heap.size + 1, 0, none⟩ (.int .i64 s0)).setCell ⟨w.heap.size + 1, 1, none⟩ (.int .i64 s1)).setCell ⟨w.heap.size + 1, 2, none⟩ (.int .i64 s2)).setCell ⟨w.heap.size + 1, 3, none⟩ (.int .i64 s3)) ∧ Nums ((((W.setCell ⟨w.heap.size + 1, 0, none⟩ (.int .i64 s0)).setCell ⟨w.heap.size + 1, 1, none⟩ (.int .i64 s1)).setCell ⟨w.heap.size + 1, 2, none⟩ (.int .i64 s2)).setCell ⟨w.heap.size + 1, 3, none⟩ (.int .i64 s3)) (w.heap.size + 1) [s0, s1, s2, s3] := by
  obtain ⟨W', hW', hb, hn⟩ := put_four hh.res hh.bel (by omega) s0 s1 s2 s3
  rw [hW']
  exact ⟨hb, hn⟩
/-- A rectangle as a value. -/
def rV (r : R4) : Value := .agg #[.int .i64 r.x, .int .i64 r.y, .int .i64 r.X, .int .i64 r.Y]
set_option maxHeartbeats 4000000 in
theorem quarter8_any (r : R4) (n : Nat) (hn : n < 62) (c d : Bool) (w : World) : Calls Tryz.prog 79 #[.agg #[.int .i64 r.x, .int .i64 r.y, .int .i64 r.X, .int .i64 r.Y], .int .i64 ((n : Int) + 1), .int .i64 (pl c d : Int)] w fun e w' => e = .returned (.agg #[.int .i64 (qR r n c d).x, .int .i64 (qR r n c d).y, .int .i64 (qR r n c d).X, .int .i64 (qR r n c d).Y]) ∧ Below w.heap.size w w' := by
  have h0 := pow_pos2 n
  have h1 := pow_61 hn
  have o1 := off_rng n c
  have o2 := off_rng n d
  obtain ⟨A, B, C, D, hand, hcut', i1, i2, i3, i4⟩ := and_cut r (off n c) (off n d) (2 ^ n) (by omega) (by omega) (by omega)
  have HQ : Hid (qR r n c d = ⟨A + -off n c, B + -off n d, C + -off n c, D + -off n d⟩) := hcut'
  have HA : Hid (∀ W, Calls Tryz.prog 33 #[.agg #[.int .i64 r.x, .int .i64 r.y, .int .i64 r.X, .int .i64 r.Y], .agg #[.int .i64 (off n c), .int .i64 (off n d), .int .i64 (off n c + 2 ^ n), .int .i64 (off n d + 2 ^ n)]] W fun e w' => e = .returned (.agg #[.int .i64 A, .int .i64 B, .int .i64 C, .int .i64 D]) ∧ Below W.heap.size W w') := fun W => by
    have := and_any r.x r.y r.X r.Y (off n c) (off n d) (off n c + 2 ^ n) (off n d + 2 ^ n) W
    rw [hand] at this
    exact this
  have HM : Hid (∀ W, Calls Tryz.prog 32 #[.agg #[.int .i64 0, .int .i64 0, .int .i64 (2 ^ n), .int .i64 (2 ^ n)], .agg #[.int .i64 (off n c), .int .i64 (off n d)]] W fun e w' => e = .returned (.agg #[.int .i64 (off n c), .int .i64 (off n d), .int .i64 (off n c + 2 ^ n), .int .i64 (off n d + 2 ^ n)]) ∧ Below W.heap.size W w') := fun W => by
    have := moved_any 0 0 (2 ^ n) (2 ^ n) (off n c) (off n d) (by unfold I64; omega) (by unfold I64; omega) (by unfold I64; omega) (by unfold I64; omega) W
    rw [Int.zero_add, Int.zero_add, Int.add_comm (2 ^ n) (off n c), Int.add_comm (2 ^ n) (off n d)] at this
    exact this
  have HM2 := Lib.hid (moved_any A B C D (-off n c) (-off n d) i1 i2 i3 i4)
  have HMI := Lib.hid (minus_any (off n c) (off n d) (by unfold I64; omega) (by unfold I64; omega))
  have HF := Lib.hid (first_any n hn c d)
  have HSD := Lib.hid (side8_any n (by omega))
  rw [HQ.out]
  clear HQ hand hcut' i1 i2 i3 i4 o1 o2 h0 h1
  generalize off n c = p at *
  generalize off n d = q at *
  generalize (2 : Int) ^ n = h at *
  go_enter Tryz.func79, Tryz.ntmps79
  go_wp2_with fail
  refine (HF.out _).mono ?_
  rintro e W1 ⟨rfl, hb⟩
  have HB1 : Hid (Below w.heap.size w W1) := (bel2 w _ _).trans (hb.mono (by simp; omega))
  have HR1 := Lib.hid (((rc_new w r.x r.y r.X r.Y 42).later (bel1 _ (.cells #[.int .i64 0, .int .i64 0, .int .i64 0, .int .i64 0] 42))).later hb)
  have hz1 := (rc_new (w.alloc (.cells #[.int .i64 r.x, .int .i64 r.y, .int .i64 r.X, .int .i64 r.Y] 42)) 0 0 0 0 42).later hb
  rw [show (w.alloc (.cells #[.int .i64 r.x, .int .i64 r.y, .int .i64 r.X, .int .i64 r.Y] 42)).heap.size = w.heap.size + 1 by simp] at hz1
  have HZ1 := Lib.hid hz1
  clear hb hz1
  go_wp2_with fail
  refine (HSD.out _).mono ?_
  rintro e W2 ⟨rfl, rfl⟩
  have HF1 := Lib.hid (pt_new W1 p q 24)
  have HB2 := Lib.hid (HB1.out.trans ((bel1 W1 (.cells #[.int .i64 p, .int .i64 q] 24)).mono HB1.out.size))
  have HR2 := Lib.hid (HR1.out.later (bel1 W1 (.cells #[.int .i64 p, .int .i64 q] 24)))
  have HZ2 := Lib.hid (HZ1.out.later (bel1 W1 (.cells #[.int .i64 p, .int .i64 q] 24)))
  have nf1 : ¬ w.heap.size + 1 = W1.heap.size := by have := HZ1.out.1; omega
  have nf2 : ¬ W1.heap.size = w.heap.size + 1 := by omega
  clear HB1 HR1 HZ1
  go_wp2_with fail
  generalize W1.alloc (.cells #[.int .i64 p, .int .i64 q] 24) = W3 at *
  generalize W1.heap.size = fb at *
  refine (HM.out _).mono ?_
  rintro e W4 ⟨rfl, hb⟩
  have HB4 := Lib.hid (HB2.out.trans (hb.mono HB2.out.size))
  have HR4 := Lib.hid (HR2.out.later hb)
  have HZ4 := Lib.hid (HZ2.out.later hb)
  have HF4 := Lib.hid (HF1.out.later hb)
  clear hb HB2 HR2 HZ2 HF1
  have HH : Hid (Hq w r p q h fb W4.heap.size (W4.alloc (.cells #[.int .i64 p, .int .i64 q, .int .i64 (p + h), .int .i64 (q + h)] 42))) := 
    ⟨HB4.out.trans ((bel1 W4 _).mono HB4.out.size), HR4.out.later (bel1 W4 _), HZ4.out.later (bel1 W4 _), HF4.out.later (bel1 W4 _), rc_new W4 _ _ _ _ _⟩
  have nk1 : ¬ w.heap.size + 1 = W4.heap.size := by have := HZ4.out.1; omega
  have nk2 : ¬ W4.heap.size = w.heap.size + 1 := by omega
  clear HB4 HR4 HZ4 HF4
  go_upto_region 3 with fail
  generalize W4.alloc (.cells #[.int .i64 p, .int .i64 q, .int .i64 (p + h), .int .i64 (q + h)] 42) = W5 at *
  generalize W4.heap.size = kb at *
  have hh := HH.out.drewN 1
  obtain ⟨c0, c1, c2, c3, _⟩ := HH.out.one.four
  obtain ⟨d0, d1, _⟩ := HH.out.fr.two
  obtain ⟨e0, e1, e2, e3, _⟩ := HH.out.qu.four
  obtain ⟨r0, r1, r2, r3, f0, f1, f2, f3⟩ := HH.out.res.four
  go_cut [] from 0 to 0 (fun wx => Below w.heap.size w wx ∧ Nums wx (w.heap.size + 1) [A + -p, B + -q, C + -p, D + -q])
  case first =>
    go_region_held3 (fun w' => (w'.cell? ⟨w.heap.size, 0, none⟩ = some (.int .i64 r.x) ∧ w'.cell? ⟨w.heap.size, 1, none⟩ = some (.int .i64 r.y) ∧ w'.cell? ⟨w.heap.size, 2, none⟩ = some (.int .i64 r.X) ∧ w'.cell? ⟨w.heap.size, 3, none⟩ = some (.int .i64 r.Y)) ∧ w'.cell? ⟨fb, 0, none⟩ = some (.int .i64 p) ∧ w'.cell? ⟨fb, 1, none⟩ = some (.int .i64 q) ∧ w'.cell? ⟨kb, 0, none⟩ = some (.int .i64 p) ∧ w'.cell? ⟨kb, 1, none⟩ = some (.int .i64 q) ∧ w'.cell? ⟨kb, 2, none⟩ = some (.int .i64 (p + h)) ∧ w'.cell? ⟨kb, 3, none⟩ = some (.int .i64 (q + h))) (go_keep)
      (first
        | (go_at_call 33; refine (HA.out _).mono ?_; rintro e wl ⟨rfl, hb⟩; have hl := Hq.later (by assumption) hb; have k1 := hl.one.four; have k2 := hl.fr.two; have k3 := hl.res.four; have k4 := hl.qu.four; clear hb)
        | (go_at_call 34; refine (HMI.out _).mono ?_; rintro e wl ⟨rfl, hb⟩; have hl := Hq.later (by assumption) hb; have k1 := hl.one.four; have k2 := hl.fr.two; have k3 := hl.res.four; have k4 := hl.qu.four; clear hb)
        | (go_at_call 32; refine (HM2.out _).mono ?_; rintro e wl ⟨rfl, hb⟩; have hl := Hq.later (by assumption) hb; have k1 := hl.one.four; have k2 := hl.fr.two; have k3 := hl.res.four; have k4 := hl.qu.four; clear hb))
    all_goals go_wp2_with fail
    all_goals go_meet
    all_goals first | exact hq_done hl | exact hq_done (by assumption)
  case rest =>
  obtain ⟨hbw, hn'⟩ := hcut
  obtain ⟨q0, q1, q2, q3, _⟩ := hn'.four
  go_wp2
  refine bodyPost_ret (v := _) (by simp [results, Tryz.results79, go_sem, q0, q1, q2, q3]; rfl) rfl ?_
  exact ⟨rfl, hbw⟩
/-- Rectangles compared. -/
theorem Tryz.fieldsPt8 : ((Tryz.prog.fieldsOf 24).toList.map fun f => (f.name, f.type, f.offset)) = [("X", 2, 0), ("Y", 2, 1)] := by kernel_rfl
theorem Tryz.fieldsRc8 : ((Tryz.prog.fieldsOf 42).toList.map fun f => (f.name, f.type, f.offset)) = [("From", 24, 0), ("To", 24, 2)] := by kernel_rfl
end Go.Proofs.YtnfjmmkokhncoaaGreat
end

section
namespace Go.Proofs.YtnfjmmkokhncoaaGreat
open Go.RowKit Go.Maps

/-- A map's types, and its keys. -/
structure Mk (k e t : TypeId) (α : Type) where
  keyed : Keyed Tryz.prog k
  ht : Tryz.prog.underlying t = some (.map k e)
  kv : α → Value
  ok : α → Prop
  kl : α → Lit
  hkey : ∀ a, ok a → keyOf Tryz.prog k (kv a) = some (kl a)
  inj : ∀ a b, ok a → ok b → kl a = kl b → a = b
  zero : Value
  hz : ∀ w, (zeroValue e).run Tryz.prog w = .ok zero w
  few : ∀ ks : List α, ks.Nodup → (∀ a ∈ ks, ok a) → ks.length < maxLen
/-- An element, as it is. -/
def heldR (v : Value) : Option (DataW Value × List MemPlace) := some (.held v, [])
theorem owns_exact {w : World} {k : TypeId} {R : Value → Option (DataW Value × List MemPlace)} {b n : Nat} {D : DataW Value} (h : w.ownsMap Tryz.prog k R b n D) : w.ownsMap Tryz.prog k R b (Maps.size D) D := by
  obtain ⟨es, clock, hb, F, _, rfl⟩ := h
  exact ⟨es, clock, hb, F, by simp [Maps.size, length_sorted], rfl⟩
/-- Block b holds a map that is this function. -/
def GMap {k e t : TypeId} {α : Type} (K : Mk k e t α) (w : World) (b : Nat) (m : α → Option Value) : Prop :=
  ∃ (D : DataW Value) (ks : List α), w.ownsMap Tryz.prog k heldR b (Maps.size D) D ∧ Maps.size D = ks.length ∧ ks.Nodup ∧ (∀ a ∈ ks, K.ok a) ∧ (∀ a, a ∈ ks ↔ (m a).isSome = true) ∧
    ∀ a, K.ok a → (∀ v, m a = some v → Maps.has D (K.kl a) = true ∧ ∀ z, D.atKey (K.kl a) z = .held v) ∧ (m a = none → Maps.has D (K.kl a) = false)
section
variable {k e t : TypeId} {α : Type} {K : Mk k e t α}
theorem GMap.lt {w : World} {b : Nat} {m : α → Option Value} (h : GMap K w b m) : b < w.heap.size := by
  obtain ⟨D, ks, h, _⟩ := h
  exact h.lt
theorem GMap.blk {w w' : World} {b : Nat} {m : α → Option Value} (h : GMap K w b m) (hb : w'.heap[b]? = w.heap[b]?) : GMap K w' b m := by
  obtain ⟨D, ks, ⟨es, clock, h1, h2⟩, r⟩ := h
  exact ⟨D, ks, ⟨es, clock, hb.trans h1, h2⟩, r⟩
theorem GMap.is_map {w : World} {b : Nat} {m : α → Option Value} (h : GMap K w b m) : ∃ es clock, w.heap[b]? = some (.map es clock) := by
  obtain ⟨D, ks, ⟨es, clock, h1, h2⟩, r⟩ := h
  exact ⟨es, clock, h1⟩
theorem GMap.later {w w' : World} {b : Nat} {m : α → Option Value} (h : GMap K w b m) (hb : Below w.heap.size w w') : GMap K w' b m := h.blk (hb.block b h.lt)
theorem GMap.drewN {w : World} {b : Nat} {m : α → Option Value} (h : GMap K w b m) (q : Nat) : GMap K (w.drewN q) b m := h.blk rfl
theorem gmap_new (K : Mk k e t α) (w : World) : GMap K (w.alloc (.map #[] 0)) w.heap.size (fun _ => none) := by
  refine ⟨.map [], [], World.ownsMap_made w _ _ _, rfl, List.nodup_nil, by simp, by simp, fun a _ => ⟨fun v h => by simp at h, fun _ => by simp [Maps.has]⟩⟩
theorem GMap.look {w : World} {b : Nat} {m : α → Option Value} (h : GMap K w b m) (a : α) (ha : K.ok a) :
    (∀ v, m a = some v → (Instr.lookup t (.map (some b)) (K.kv a) true).run Tryz.prog w = .ok (.tuple #[v, .bool true]) w) ∧
    (m a = none → (Instr.lookup t (.map (some b)) (K.kv a) true).run Tryz.prog w = .ok (.tuple #[K.zero, .bool false]) w) := by
  obtain ⟨D, ks, ho, hs, hnd, hok, hmem, hval⟩ := h
  obtain ⟨v, ps, hr, hv⟩ := ho.look_ok K.keyed K.ht (K.hz w) (zd := .held K.zero) (zp := []) rfl (K.hkey a ha)
  obtain ⟨g1, g2⟩ := hval a ha
  simp only [heldR, Option.some.injEq, Prod.mk.injEq] at hv
  refine ⟨fun u hu => ?_, fun hn => ?_⟩
  · obtain ⟨h1, h2⟩ := g1 u hu
    rw [h2] at hv
    rw [hr, h1]
    have := hv.1
    simp only [DataW.held.injEq] at this
    rw [this]
  · have h1 := g2 hn
    rw [Maps.atKey_of_not_has h1] at hv
    rw [hr, h1]
    have := hv.1
    simp only [DataW.held.injEq] at this
    rw [this]
theorem GMap.put [DecidableEq α] {w : World} {b : Nat} {m : α → Option Value} (h : GMap K w b m) (a : α) (ha : K.ok a) (v : Value) :
    ∃ w', (Instr.mapUpdate t (.map (some b)) (K.kv a) v).run Tryz.prog w = .ok () w' ∧ GMap K w' b (fun x => if x = a then some v else m x) ∧ w.grownBy w' (some b) := by
  obtain ⟨D, ks, ho, hs, hnd, hok, hmem, hval⟩ := h
  obtain ⟨w', r1, r2, r3⟩ := ho.update K.keyed K.ht (by rw [hs]; exact K.few ks hnd hok) (K.hkey a ha) (d := .held v) (ps := []) rfl
  have hkl : WideAt.IsKeyLit (K.kl a) := K.keyed.key (K.hkey a ha)
  have hsz := Maps.size_put (k := K.kl a) (ho.tidy K.keyed) (.held v)
  refine ⟨w', r1, ⟨D.put (K.kl a) (.held v), if a ∈ ks then ks else a :: ks, owns_exact r2, ?_, ?_, ?_, fun x => ?_, fun x hx => ?_⟩, r3⟩
  · rw [hsz]
    by_cases hm : a ∈ ks
    · rw [if_pos hm]
      obtain ⟨u, hu⟩ := Option.isSome_iff_exists.1 ((hmem a).1 hm)
      rw [((hval a ha).1 u hu).1, if_pos rfl, hs]
    · rw [if_neg hm]
      have hn : m a = none := by
        cases hma : m a with
        | none => rfl
        | some u => exact absurd ((hmem a).2 (by rw [hma]; rfl)) hm
      rw [(hval a ha).2 hn]
      simp [hs]
  · split
    · exact hnd
    · rename_i hm
      exact List.nodup_cons.2 ⟨hm, hnd⟩
  · split
    · exact hok
    · intro x hx
      rcases List.mem_cons.1 hx with rfl | hx
      · exact ha
      · exact hok x hx
  · by_cases hxa : x = a
    · subst hxa
      simp only [if_true, Option.isSome_some, iff_true]
      split
      · assumption
      · exact List.mem_cons_self
    · simp only [if_neg hxa]
      rw [← hmem]
      split
      · exact Iff.rfl
      · simp [hxa]
  · by_cases hxa : x = a
    · subst hxa
      simp only [if_true]
      refine ⟨fun u hu => ?_, fun hn => by simp at hn⟩
      obtain rfl := Option.some.inj hu
      exact ⟨Maps.has_put_same ho.isMap hkl _, fun z => Maps.atKey_put_same ho.isMap hkl _ _⟩
    · simp only [if_neg hxa]
      have hne : K.kl x ≠ K.kl a := fun hh => hxa (K.inj _ _ hx ha hh)
      refine ⟨fun u hu => ?_, fun hn => ?_⟩
      · obtain ⟨h1, h2⟩ := (hval x hx).1 u hu
        exact ⟨by rw [Maps.has_put_other hne]; exact h1, fun z => by rw [Maps.atKey_put_other hne]; exact h2 z⟩
      · rw [Maps.has_put_other hne]; exact (hval x hx).2 hn
end
/-- Numbers below a bound, each once, are no more than it. -/
theorem nat_few : ∀ (M : Nat) (l : List Nat), l.Nodup → (∀ x ∈ l, x < M) → l.length ≤ M
  | 0, l, _, h => by
    cases l with
    | nil => simp
    | cons x r => exact absurd (h x List.mem_cons_self) (by omega)
  | M + 1, l, hn, h => by
    have h1 := nat_few M (l.filter (· != M)) (hn.filter _) (fun x hx => by
      obtain ⟨h1, h2⟩ := List.mem_filter.1 hx
      have := h x h1
      simp at h2
      omega)
    have h2 : l.length ≤ (l.filter (· != M)).length + 1 := by
      clear h1 h
      induction l with
      | nil => simp
      | cons x r ih =>
        obtain ⟨hx, hr⟩ := List.nodup_cons.1 hn
        by_cases e : x = M
        · subst e
          rw [List.filter_cons_of_neg (by simp)]
          have : r.filter (· != x) = r := List.filter_eq_self.2 fun y hy => by
            simp
            rintro rfl
            exact hx hy
          rw [this]; simp
        · rw [List.filter_cons_of_pos (by simp [e])]
          have := ih hr
          simp
          omega
    omega
theorem map_nodup {α : Type} {f : α → Nat} : ∀ {l : List α}, l.Nodup → (∀ x ∈ l, ∀ y ∈ l, f x = f y → x = y) → (l.map f).Nodup
  | [], _, _ => List.nodup_nil
  | x :: r, hn, h => by
    obtain ⟨hx, hr⟩ := List.nodup_cons.1 hn
    rw [List.map_cons, List.nodup_cons]
    refine ⟨fun hm => ?_, map_nodup hr fun a ha b hb => h a (List.mem_cons_of_mem _ ha) b (List.mem_cons_of_mem _ hb)⟩
    obtain ⟨y, hy, e⟩ := List.mem_map.1 hm
    exact hx (by rw [← h y (List.mem_cons_of_mem _ hy) x List.mem_cons_self e]; exact hy)
/-- A stock of keys, by their codes. -/
theorem few_of {α : Type} {ok : α → Prop} (f : α → Nat) (M : Nat) (hM : M < maxLen) (hf : ∀ a, ok a → f a < M) (hi : ∀ a b, ok a → ok b → f a = f b → a = b) (ks : List α) (hn : ks.Nodup) (h : ∀ a ∈ ks, ok a) : ks.length < maxLen := by
  have h1 := nat_few M (ks.map f) (map_nodup hn fun x hx y hy e => hi x y (h x hx) (h y hy) e) (fun x hx => by
    obtain ⟨y, hy, rfl⟩ := List.mem_map.1 hx
    exact hf y (h y hy))
  rw [List.length_map] at h1
  omega
end Go.Proofs.YtnfjmmkokhncoaaGreat
end

section
namespace Go.Proofs.YtnfjmmkokhncoaaGreat
open Go.RowKit Go.Maps
set_option maxRecDepth 100000

/-- A part: a square, its level, the rectangle of its cells that matter. -/
structure Part where
  x : Nat
  n : Nat
  r : R4
  deriving DecidableEq
/-- A part, as a value. -/
def pV (a : Part) : Value := .agg #[.int .u32 (a.x : Int), .int .i64 (a.n : Int), .int .i64 a.r.x, .int .i64 a.r.y, .int .i64 a.r.X, .int .i64 a.r.Y]
/-- A part that comes of a rectangle's. -/
def PtOk (P : R4) (a : Part) : Prop := a.x < 1048576 ∧ a.n ≤ 62 ∧ a.r.no = false ∧ RIn a.n a.r ∧ Pr P a.n a.r
def b2n (b : Bool) : Nat := if b then 1 else 0
def codeP (a : Part) : Nat := a.x + 1048576 * (a.n + 64 * (b2n (decide (a.r.x = 0)) + 2 * (b2n (decide (a.r.X = 2 ^ a.n)) + 2 * (b2n (decide (a.r.y = 0)) + 2 * b2n (decide (a.r.Y = 2 ^ a.n))))))
theorem b2n_le (b : Bool) : b2n b ≤ 1 := by cases b <;> decide
theorem b2n_inj {a b : Bool} (h : b2n a = b2n b) : a = b := by cases a <;> cases b <;> first | rfl | simp [b2n] at h
theorem codeP_lt {P : R4} {a : Part} (h : PtOk P a) : codeP a < 1073741824 := by
  unfold codeP
  have := h.1
  have := h.2.1
  have := b2n_le (decide (a.r.x = 0))
  have := b2n_le (decide (a.r.X = 2 ^ a.n))
  have := b2n_le (decide (a.r.y = 0))
  have := b2n_le (decide (a.r.Y = 2 ^ a.n))
  omega
theorem codeP_inj {P : R4} {a b : Part} (ha : PtOk P a) (hb : PtOk P b) (h : codeP a = codeP b) : a = b := by
  obtain ⟨a1, a2, a3, a4, a5⟩ := ha
  obtain ⟨b1, b2, b3, b4, b5⟩ := hb
  obtain ⟨p1, p2, p3, p4⟩ := a5.resolve_left (by rw [a3]; decide)
  obtain ⟨q1, q2, q3, q4⟩ := b5.resolve_left (by rw [b3]; decide)
  unfold codeP at h
  have c1 := b2n_le (decide (a.r.x = 0))
  have c2 := b2n_le (decide (a.r.X = 2 ^ a.n))
  have c3 := b2n_le (decide (a.r.y = 0))
  have c4 := b2n_le (decide (a.r.Y = 2 ^ a.n))
  have d1 := b2n_le (decide (b.r.x = 0))
  have d2 := b2n_le (decide (b.r.X = 2 ^ b.n))
  have d3 := b2n_le (decide (b.r.y = 0))
  have d4 := b2n_le (decide (b.r.Y = 2 ^ b.n))
  have hx : a.x = b.x := by omega
  have hn : a.n = b.n := by omega
  have h1 := b2n_inj (show b2n (decide (a.r.x = 0)) = b2n (decide (b.r.x = 0)) by omega)
  have h2 := b2n_inj (show b2n (decide (a.r.X = 2 ^ a.n)) = b2n (decide (b.r.X = 2 ^ b.n)) by omega)
  have h3 := b2n_inj (show b2n (decide (a.r.y = 0)) = b2n (decide (b.r.y = 0)) by omega)
  have h4 := b2n_inj (show b2n (decide (a.r.Y = 2 ^ a.n)) = b2n (decide (b.r.Y = 2 ^ b.n)) by omega)
  obtain ⟨ax, an, ⟨rx, ry, rX, rY⟩⟩ := a
  obtain ⟨bx, bn, ⟨sx, sy, sX, sY⟩⟩ := b
  simp only at hx hn h1 h2 h3 h4 p1 p2 p3 p4 q1 q2 q3 q4
  subst hx hn
  rw [decide_eq_decide] at h1 h2 h3 h4
  have e1 : rx = sx := by
    rcases p1 with p | p <;> rcases q1 with q | q
    · rw [p, q]
    · rw [h1.1 p, p]
    · rw [q, h1.2 q]
    · rw [p, q]
  have e2 : rX = sX := by
    rcases p2 with p | p <;> rcases q2 with q | q
    · rw [p, q]
    · rw [h2.1 p, p]
    · rw [q, h2.2 q]
    · rw [p, q]
  have e3 : ry = sy := by
    rcases p3 with p | p <;> rcases q3 with q | q
    · rw [p, q]
    · rw [h3.1 p, p]
    · rw [q, h3.2 q]
    · rw [p, q]
  have e4 : rY = sY := by
    rcases p4 with p | p <;> rcases q4 with q | q
    · rw [p, q]
    · rw [h4.1 p, p]
    · rw [q, h4.2 q]
    · rw [p, q]
  rw [e1, e2, e3, e4]
theorem Tryz.cellsI8 : Tryz.prog.cellsOf 2 = 1 := by kernel_rfl
theorem Tryz.cellsInt8 : Tryz.prog.cellsOf 3 = 1 := by kernel_rfl
theorem Tryz.cellsPtG : Tryz.prog.cellsOf 24 = 2 := by kernel_rfl
theorem Tryz.cellsRcG : Tryz.prog.cellsOf 42 = 4 := by kernel_rfl
theorem Tryz.cellsPart : Tryz.prog.cellsOf 83 = 6 := by kernel_rfl
theorem i64_wf {x : Int} (h : -9223372036854775808 ≤ x ∧ x ≤ 9223372036854775807) : (Lit.int .i64 x).wf = true := by
  simp [Lit.wf, IntKind.min, IntKind.max, IntKind.bits, IntKind.signed]; omega
theorem lits_i64 (d : Nat) (x : Int) (h : (Lit.int .i64 x).wf = true) : Tryz.prog.keyLits (d + 1) 2 [.int .i64 x] = some [.int .i64 x] := by
  unfold Program.keyLits
  rw [Tryz.underlying2]
  simp only [h, and_self, if_true]
theorem lits_int8 (d : Nat) (x : Int) (h : (Lit.int .i64 x).wf = true) : Tryz.prog.keyLits (d + 1) 3 [.int .i64 x] = some [.int .i64 x] := by
  unfold Program.keyLits
  rw [Tryz.underlying3]
  simp only [h, and_self, if_true]
theorem lits_ptG (d : Nat) (x y : Int) (h1 : (Lit.int .i64 x).wf = true) (h2 : (Lit.int .i64 y).wf = true) : Tryz.prog.keyLits (d + 1 + 1) 24 [.int .i64 x, .int .i64 y] = some [.int .i64 x, .int .i64 y] := by
  have e1 := lits_i64 d x h1
  have e2 := lits_i64 d y h2
  unfold Program.keyLits
  rw [Tryz.underlying24]
  simp only [Tryz.cellsPtG]
  rw [if_pos ⟨rfl, by simp⟩]
  simp only [List.mapM_cons, List.mapM_nil, Tryz.cellsI8, List.drop, List.take, e1, e2]
  rfl
theorem lits_rcG (d : Nat) (x y X Y : Int) (h1 : (Lit.int .i64 x).wf = true) (h2 : (Lit.int .i64 y).wf = true) (h3 : (Lit.int .i64 X).wf = true) (h4 : (Lit.int .i64 Y).wf = true) :
    Tryz.prog.keyLits (d + 1 + 1 + 1) 42 [.int .i64 x, .int .i64 y, .int .i64 X, .int .i64 Y] = some [.int .i64 x, .int .i64 y, .int .i64 X, .int .i64 Y] := by
  have e1 := lits_ptG d x y h1 h2
  have e2 := lits_ptG d X Y h3 h4
  unfold Program.keyLits
  rw [Tryz.underlying42]
  simp only [Tryz.cellsRcG]
  rw [if_pos ⟨rfl, by simp⟩]
  simp only [List.mapM_cons, List.mapM_nil, Tryz.cellsPtG, List.drop, List.take, e1, e2]
  rfl
theorem lits_part (d : Nat) (s n x y X Y : Int) (hs : (Lit.int .u32 s).wf = true) (hn : (Lit.int .i64 n).wf = true) (h1 : (Lit.int .i64 x).wf = true) (h2 : (Lit.int .i64 y).wf = true) (h3 : (Lit.int .i64 X).wf = true) (h4 : (Lit.int .i64 Y).wf = true) :
    Tryz.prog.keyLits (d + 1 + 1 + 1 + 1) 83 [.int .u32 s, .int .i64 n, .int .i64 x, .int .i64 y, .int .i64 X, .int .i64 Y] = some [.int .u32 s, .int .i64 n, .int .i64 x, .int .i64 y, .int .i64 X, .int .i64 Y] := by
  have e1 := lits_id (d + 1 + 1) s hs
  have e2 := lits_int8 (d + 1 + 1) n hn
  have e3 := lits_rcG d x y X Y h1 h2 h3 h4
  unfold Program.keyLits
  rw [Tryz.underlying83]
  simp only [Tryz.cellsPart]
  rw [if_pos ⟨rfl, by simp⟩]
  simp only [List.mapM_cons, List.mapM_nil, Tryz.cellsRcG, Tryz.cellsID, Tryz.cellsInt8, List.drop, List.take, e1, e2, e3]
  rfl
theorem Tryz.keyDeepP8 : Tryz.prog.keyTypeAt (Tryz.prog.types.size + 1) 83 = true := by kernel_rfl
theorem Tryz.keyRowP8 : (83 : TypeId) < Tryz.prog.types.size := of_decide_eq_true (by kernel_rfl)
theorem Tryz.keyWideP8 : (match Tryz.prog.underlying 83 with | some (.array _ _) | some (.struct _) => true | _ => false) = true := by rw [Tryz.underlying83]
theorem Tryz.keyedP8 : Keyed Tryz.prog 83 := Keyed.of_law (deep_law_laid Tryz.laidOutT (m := 4) (by omega) Tryz.keyRowP8 (by kernel_rfl) Tryz.keyWideP8)
noncomputable def klP (a : Part) : Lit := (keyOf Tryz.prog 83 (pV a)).getD (.bool false)
/-- Within int64, all. -/
def FitP (a : Part) : Prop := a.x < 4294967296 ∧ a.n ≤ 62 ∧ (-9223372036854775808 ≤ a.r.x ∧ a.r.x ≤ 9223372036854775807) ∧ (-9223372036854775808 ≤ a.r.y ∧ a.r.y ≤ 9223372036854775807) ∧ (-9223372036854775808 ≤ a.r.X ∧ a.r.X ≤ 9223372036854775807) ∧ (-9223372036854775808 ≤ a.r.Y ∧ a.r.Y ≤ 9223372036854775807)
theorem PtOk.fit {P : R4} {a : Part} (h : PtOk P a) : FitP a := by
  obtain ⟨h1, h2, h3, h4, _⟩ := h
  obtain ⟨i1, i2, i3, i4⟩ := h4.resolve_left (by rw [h3]; decide)
  have hlt := R4.no_not.1 h3
  have hp : (2 : Int) ^ a.n ≤ 4611686018427387904 := by
    have h1 : (2 : Nat) ^ a.n ≤ 2 ^ 62 := Nat.pow_le_pow_right (by decide) h2
    have h2 : ((2 ^ a.n : Nat) : Int) ≤ ((2 ^ 62 : Nat) : Int) := Int.ofNat_le.2 h1
    rw [Int.natCast_pow] at h2
    exact h2
  unfold FitP
  omega
theorem keyP (a : Part) (h : FitP a) : keyOf Tryz.prog 83 (pV a) = some (klP a) := by
  obtain ⟨h1, h2, h3, h4, h5, h6⟩ := h
  have hk : Tryz.prog.keyType 83 = true := Tryz.keyDeepP8
  have hf : (pV a).formed Tryz.prog 83 = true := by simp [pV, Value.formed, Tryz.underlying83, Tryz.cellsPart]
  have hl : Tryz.prog.keyLits (Tryz.prog.types.size + 1) 83 [.int .u32 (a.x : Int), .int .i64 (a.n : Int), .int .i64 a.r.x, .int .i64 a.r.y, .int .i64 a.r.X, .int .i64 a.r.Y] = some [.int .u32 (a.x : Int), .int .i64 (a.n : Int), .int .i64 a.r.x, .int .i64 a.r.y, .int .i64 a.r.X, .int .i64 a.r.Y] := by
    have hsz : Tryz.prog.types.size = 220 := by kernel_rfl
    obtain ⟨d, hd⟩ : ∃ d, Tryz.prog.types.size + 1 = d + 1 + 1 + 1 + 1 := ⟨Tryz.prog.types.size - 3, (by omega)⟩
    rw [hd]
    exact lits_part d _ _ _ _ _ _ (u32_wf h1) (i64_wf (by omega)) (i64_wf h3) (i64_wf h4) (i64_wf h5) (i64_wf h6)
  have : ∃ l, keyOf Tryz.prog 83 (pV a) = some l := by
    unfold keyOf
    rw [Tryz.underlying83]
    simp only [hk, hf, Bool.and_self, if_true]
    refine ⟨.string (keyBytes [.int .u32 (a.x : Int), .int .i64 (a.n : Int), .int .i64 a.r.x, .int .i64 a.r.y, .int .i64 a.r.X, .int .i64 a.r.Y]), ?_⟩
    show Option.map _ (Tryz.prog.keyLits (Tryz.prog.types.size + 1) 83 [.int .u32 (a.x : Int), .int .i64 (a.n : Int), .int .i64 a.r.x, .int .i64 a.r.y, .int .i64 a.r.X, .int .i64 a.r.Y]) = _
    rw [hl]; rfl
  obtain ⟨l, hl⟩ := this
  unfold klP
  rw [hl]; rfl
theorem klP_inj {a b : Part} (ha : FitP a) (hb : FitP b) (h : klP a = klP b) : a = b := by
  have := Tryz.keyedP8.inj (keyP a ha) (by rw [h]; exact keyP b hb)
  obtain ⟨ax, an, ⟨rx, ry, rX, rY⟩⟩ := a
  obtain ⟨bx, bn, ⟨sx, sy, sX, sY⟩⟩ := b
  simp only [pV, Value.agg.injEq, Array.mk.injEq, List.cons.injEq, Value.int.injEq, and_true, true_and] at this
  obtain ⟨h1, h2, h3, h4, h5, h6⟩ := this
  have e1 : ax = bx := by omega
  have e2 : an = bn := by omega
  rw [e1, e2, h3, h4, h5, h6]
/-- A painter's map, of one rectangle's parts. -/
noncomputable def mkP (P : R4) : Mk 83 30 135 Part where
  keyed := Tryz.keyedP8
  ht := Tryz.underlying135
  kv := pV
  ok := PtOk P
  kl := klP
  hkey := fun a h => keyP a h.fit
  inj := fun a b ha hb h => klP_inj ha.fit hb.fit h
  zero := .int .u32 0
  hz := Tryz.zeroID
  few := fun ks hn h => few_of (ok := PtOk P) codeP 1073741824 (by decide) (fun a ha => codeP_lt ha) (fun a b ha hb e => codeP_inj ha hb e) ks hn h
end Go.Proofs.YtnfjmmkokhncoaaGreat
end

section
namespace Go.Proofs.YtnfjmmkokhncoaaGreat
open Go.RowKit Go.Maps
set_option maxRecDepth 100000

theorem Tryz.partI8a (a b : Value) (w : World) : (part 2 #[a, b] 0).run Tryz.prog w = .ok a w := by kernel_rfl
theorem Tryz.partI8b (a b : Value) (w : World) : (part 2 #[a, b] 1).run Tryz.prog w = .ok b w := by kernel_rfl
theorem Tryz.partP8a (a b c d : Value) (w : World) : (part 24 #[a, b, c, d] 0).run Tryz.prog w = .ok (.agg #[a, b]) w := by kernel_rfl
theorem Tryz.partP8b (a b c d : Value) (w : World) : (part 24 #[a, b, c, d] 2).run Tryz.prog w = .ok (.agg #[c, d]) w := by kernel_rfl
theorem eqInP8 (f : Nat) (x y a b : Int) (w : World) : (Op.equalIn (f + 1 + 1) 24 (.agg #[.int .i64 x, .int .i64 y]) (.agg #[.int .i64 a, .int .i64 b])).run Tryz.prog w = .ok (x == a && y == b) w := by
  rw [run_equalIn_agg w (f + 1) 24 _ _ (by kernel_rfl) (by kernel_rfl)]
  have hm := Tryz.fieldsPt8
  generalize (Tryz.prog.fieldsOf 24).toList = l at *
  have hl : l.length = 2 := by have := congrArg List.length hm; simpa using this
  match l, hl, hm with
  | [f1, g], _, hm =>
    simp only [List.map_cons, List.map_nil, List.cons.injEq, Prod.mk.injEq, and_true] at hm
    obtain ⟨⟨n1, t1, o1⟩, n2, t2, o2⟩ := hm
    simp only [Op.eqFields, n1, t1, o1, n2, t2, o2, Sem.run_bind, Sem.run_ite, Tryz.partI8a, Tryz.partI8b, Result.andThen_ok, run_equalIn_int w f _ .i64 .i64 _ _ Tryz.underlying2]
    cases h1 : (x == a) <;> cases h2 : (y == b) <;> simp
theorem eqInR8 (x y X Y a b c d : Int) (w : World) : (Op.equalIn 10000 42 (.agg #[.int .i64 x, .int .i64 y, .int .i64 X, .int .i64 Y]) (.agg #[.int .i64 a, .int .i64 b, .int .i64 c, .int .i64 d])).run Tryz.prog w = .ok ((x == a && y == b) && (X == c && Y == d)) w := by
  rw [run_equalIn_agg w 9999 42 _ _ (by kernel_rfl) (by kernel_rfl)]
  have hm := Tryz.fieldsRc8
  generalize (Tryz.prog.fieldsOf 42).toList = l at *
  have hl : l.length = 2 := by have := congrArg List.length hm; simpa using this
  match l, hl, hm with
  | [f1, g], _, hm =>
    simp only [List.map_cons, List.map_nil, List.cons.injEq, Prod.mk.injEq, and_true] at hm
    obtain ⟨⟨n1, t1, o1⟩, n2, t2, o2⟩ := hm
    simp only [Op.eqFields, n1, t1, o1, n2, t2, o2, Sem.run_bind, Sem.run_ite, Tryz.partP8a, Tryz.partP8b, Result.andThen_ok, eqInP8 9997]
    cases h1 : (x == a && y == b) <;> cases h2 : (X == c && Y == d) <;> simp
theorem eqR8 (x y X Y a b c d : Int) (w : World) : (binOp .eql 42 (.agg #[.int .i64 x, .int .i64 y, .int .i64 X, .int .i64 Y]) (.agg #[.int .i64 a, .int .i64 b, .int .i64 c, .int .i64 d])).run Tryz.prog w = .ok (.bool ((x == a && y == b) && (X == c && Y == d))) w := by
  rw [run_eql_struct, eqInR8]; rfl
theorem neR8 (x y X Y a b c d : Int) (w : World) : (binOp .neq 42 (.agg #[.int .i64 x, .int .i64 y, .int .i64 X, .int .i64 Y]) (.agg #[.int .i64 a, .int .i64 b, .int .i64 c, .int .i64 d])).run Tryz.prog w = .ok (.bool (!((x == a && y == b) && (X == c && Y == d)))) w := by
  rw [run_neq_struct, eqInR8]; rfl
/-- Does all of the square matter? -/
def wholeB (a : Part) : Bool := (a.r.x == 0 && a.r.y == 0) && (a.r.X == 2 ^ a.n && a.r.Y == 2 ^ a.n)
def ptO8 (a : Part) : Obj := .cells #[.int .u32 (a.x : Int), .int .i64 (a.n : Int), .int .i64 a.r.x, .int .i64 a.r.y, .int .i64 a.r.X, .int .i64 a.r.Y] 83 (0, 0)
theorem pt_cells8 {w : World} {b : Nat} {a : Part} (h : w.heap[b]? = some (ptO8 a)) : w.cell? ⟨b, 0, none⟩ = some (.int .u32 (a.x : Int)) ∧ w.cell? ⟨b, 1, none⟩ = some (.int .i64 (a.n : Int)) ∧ w.cell? ⟨b, 2, none⟩ = some (.int .i64 a.r.x) ∧ w.cell? ⟨b, 3, none⟩ = some (.int .i64 a.r.y) ∧ w.cell? ⟨b, 4, none⟩ = some (.int .i64 a.r.X) ∧ w.cell? ⟨b, 5, none⟩ = some (.int .i64 a.r.Y) :=
  ⟨by rw [Lib.cell_of_heap h]; rfl, by rw [Lib.cell_of_heap h]; rfl, by rw [Lib.cell_of_heap h]; rfl, by rw [Lib.cell_of_heap h]; rfl, by rw [Lib.cell_of_heap h]; rfl, by rw [Lib.cell_of_heap h]; rfl⟩
set_option maxHeartbeats 2000000 in
theorem whole_any (a : Part) (hn : a.n ≤ 62) (w : World) : Calls Tryz.prog 63 #[.agg #[.int .u32 (a.x : Int), .int .i64 (a.n : Int), .int .i64 a.r.x, .int .i64 a.r.y, .int .i64 a.r.X, .int .i64 a.r.Y]] w fun e w' => e = .returned (.bool (wholeB a)) ∧ Below w.heap.size w w' := by
  obtain ⟨xx, n, ⟨x, y, X, Y⟩⟩ := a
  simp only at hn ⊢
  have HE : Hid (wholeB ⟨xx, n, ⟨x, y, X, Y⟩⟩ = ((x == 0 && y == 0) && (X == 2 ^ n && Y == 2 ^ n))) := rfl
  rw [HE.out]
  have HB := Lib.hid (bel1 w (.cells #[.int .u32 (xx : Int), .int .i64 (n : Int), .int .i64 x, .int .i64 y, .int .i64 X, .int .i64 Y] 83))
  have h0 : (w.alloc (.cells #[.int .u32 (xx : Int), .int .i64 (n : Int), .int .i64 x, .int .i64 y, .int .i64 X, .int .i64 Y] 83)).heap[w.heap.size]? = some (ptO8 ⟨xx, n, ⟨x, y, X, Y⟩⟩) := heap_alloc_new w _
  obtain ⟨_, c1, c2, c3, c4, c5⟩ := pt_cells8 h0
  simp only at c1 c2 c3 c4 c5
  clear h0
  have HSD := Lib.hid (side8_any n hn)
  generalize hG : (2 : Int) ^ n = G at *
  clear hG
  go_enter Tryz.func63, Tryz.ntmps63
  go_upto_region 1 with fail
  generalize w.alloc (.cells #[.int .u32 (xx : Int), .int .i64 (n : Int), .int .i64 x, .int .i64 y, .int .i64 X, .int .i64 Y] 83) = W0 at *
  have hne := Up.me W0
  have HS := Lib.hid (fun z : Up W0 => Up.callsE (fun W _ => HSD.out W) z)
  have g1 := fun z : Up W0 => Up.cell c1 z
  have g2 := fun z : Up W0 => Up.cell c2 z
  have g3 := fun z : Up W0 => Up.cell c3 z
  have g4 := fun z : Up W0 => Up.cell c4 z
  have g5 := fun z : Up W0 => Up.cell c5 z
  have HQ := fun W => eqR8 x y X Y 0 0 G G W
  refine region_up (by kernel_rfl) (by kernel_rfl) ?_
  repeat (go_big_quiet_step ((first | (go_at_call 59; with_reducible exact HS.out _))))
  refine wpQuiet_nil ?_
  rintro w2 ⟨⟨W2, hW2⟩, rfl⟩
  go_wp2_with fail
  go_ret
  exact ⟨rfl, HB.out.trans (hW2.mono HB.out.size)⟩
end Go.Proofs.YtnfjmmkokhncoaaGreat
end
