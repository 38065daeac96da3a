/- How many squares five by five cells need: mathematics. -/
import Derived.Test.YtfohkbgacpokoaaLw8
namespace Go.Proofs.Ytfohkbgacpokoaa
open Go.RowKit

theorem pow_dvd {j m : Nat} (h : j ≤ m) : ∃ l : Int, (2 : Int) ^ m = 2 ^ j * l := by
  obtain ⟨d, rfl⟩ := Nat.exists_eq_add_of_le h
  exact ⟨2 ^ d, Int.pow_add 2 j d⟩
theorem al_le {j m : Nat} (h : j ≤ m) {A : Int} (ha : A % 2 ^ j = 0) (hl : A < 2 ^ m) : A + 2 ^ j ≤ 2 ^ m := by
  obtain ⟨l, e⟩ := pow_dvd h
  obtain ⟨k, rfl⟩ := Int.dvd_of_emod_eq_zero ha
  have hp := pow_pos2 j
  rw [e] at hl ⊢
  have hkl : k < l := Int.lt_of_mul_lt_mul_left hl (by omega)
  have : 2 ^ j * (k + 1) ≤ 2 ^ j * l := Int.mul_le_mul_of_nonneg_left (by omega) (by omega)
  rw [Int.mul_add, Int.mul_one] at this
  exact this
/-- The square of a level at an aligned place of a square. -/
theorem sub_sq {N : List Nd} (hw : Wf N) : ∀ (n : Nat) {j x : Nat} {A B : Int}, Sq N n x → Al n j A B → ∃ s, Sq N j s ∧ ∀ X Y, 0 ≤ X ∧ X < 2 ^ j → 0 ≤ Y ∧ Y < 2 ^ j → getZ N j s X Y = getZ N n x (X + A) (Y + B)
  | 0, j, x, A, B, hx, ha => by
    obtain ⟨h1, h2, h3⟩ := ha
    obtain rfl : j = 0 := by omega
    have : A = 0 := by omega
    have : B = 0 := by omega
    subst A B
    exact ⟨x, hx, fun X Y _ _ => by rw [Int.add_zero, Int.add_zero]⟩
  | n + 1, j, x, A, B, hx, ha => by
    obtain ⟨h1, ⟨a1, a2, a3⟩, b1, b2, b3⟩ := ha
    by_cases hj : j = n + 1
    · subst hj
      have : A = 0 := by omega
      have : B = 0 := by omega
      subst A B
      exact ⟨x, hx, fun X Y _ _ => by rw [Int.add_zero, Int.add_zero]⟩
    · have hjn : j ≤ n := by omega
      have hp := pow_pos2 j
      have key : ∀ C : Int, 0 ≤ C → C + 2 ^ j ≤ 2 ^ (n + 1) → C % 2 ^ j = 0 → (0 ≤ C - off n (qb n C) ∧ C - off n (qb n C) + 2 ^ j ≤ 2 ^ n ∧ (C - off n (qb n C)) % 2 ^ j = 0) ∧ ∀ X, 0 ≤ X ∧ X < 2 ^ j → qb n (X + C) = qb n C := fun C c1 c2 c3 => by
        obtain ⟨r1, r2⟩ := (rng_off n (qb n C) C).2 ⟨c1, by omega, rfl⟩
        have hm : (C - off n (qb n C)) % 2 ^ j = 0 := by
          rw [Int.sub_emod, c3, off_mod hjn]; simp
        have hl := al_le hjn hm r2
        refine ⟨⟨r1, hl, hm⟩, fun X hX => ?_⟩
        exact ((rng_off n (qb n C) (X + C)).1 (by omega)).2.2
      obtain ⟨ka, kb⟩ := key A a1 a2 a3
      obtain ⟨la, lb⟩ := key B b1 b2 b3
      obtain ⟨s, hs, hf⟩ := sub_sq hw n (hx.kid hw (qb n A) (qb n B)) ⟨hjn, ka, la⟩
      refine ⟨s, hs, fun X Y hX hY => ?_⟩
      rw [hf X Y hX hY]
      show _ = getZ N n (pick (kidZ N x) (qb n (X + A)) (qb n (Y + B))) (X + A) (Y + B)
      rw [kb X hX, lb Y hY, ← get_off N n _ (qb n A) (qb n B) (X + A) (Y + B)]
      rw [show X + A - off n (qb n A) = X + (A - off n (qb n A)) by omega, show Y + B - off n (qb n B) = Y + (B - off n (qb n B)) by omega]
theorem ne_lv {N : List Nd} {i j x y : Nat} (hx : Sq N i x) (hy : Sq N j y) (h : i ≠ j) : x ≠ y := fun e => by
  subst e
  have : ((i : Nat) : Int) = (j : Int) := hx.symm.trans hy
  omega
theorem ne_get {N : List Nd} {j x y : Nat} {X Y : Int} {u v : Nat} (hx : getZ N j x X Y = u) (hy : getZ N j y X Y = v) (h : u ≠ v) : x ≠ y := fun e => by
  subst e
  exact h (hx.symm.trans hy)
theorem need10 {N : List Nd} (hw : Wf N) (hE : HasEm N 3) {n y : Nat} (hy : Sq N (n + 1) y) (hn : 2 ≤ n) (x0 y0 : Int) (hx0 : 0 ≤ x0 ∧ x0 + 5 ≤ 2 ^ (n + 1)) (hy0 : 0 ≤ y0 ∧ y0 + 5 ≤ 2 ^ (n + 1))
    (hf : ∀ X Y, 0 ≤ X ∧ X < 2 ^ (n + 1) → 0 ≤ Y ∧ Y < 2 ^ (n + 1) → getZ N (n + 1) y X Y = if (R4.mk x0 y0 (x0 + 5) (y0 + 5)).has X Y then 1 else 0) : 10 ≤ N.length := by
  obtain ⟨e1, he1⟩ := hE 1 (by omega)
  obtain ⟨e2, he2⟩ := hE 2 (by omega)
  obtain ⟨e3, he3⟩ := hE 3 (by omega)
  have hpn := pow_pos2 n
  have h2n := pow_two2 n
  have ev : (2 : Int) ^ (n + 1) % 2 = 0 := by omega
  have p1 : (2 : Int) ^ 1 = 2 := rfl
  have p2 : (2 : Int) ^ 2 = 4 := rfl
  -- a place where all of two cells are, and one where one of two is
  have axis : ∀ z : Int, 0 ≤ z ∧ z + 5 ≤ 2 ^ (n + 1) → ∃ F H h : Int, (0 ≤ F ∧ F + 2 ≤ 2 ^ (n + 1) ∧ F % 2 = 0) ∧ (0 ≤ H ∧ H + 2 ≤ 2 ^ (n + 1) ∧ H % 2 = 0) ∧ (h = 0 ∨ h = 1) ∧ (z ≤ F ∧ F + 1 < z + 5) ∧ (z ≤ h + H ∧ h + H < z + 5) ∧ ¬ (z ≤ 1 - h + H ∧ 1 - h + H < z + 5) := fun z hz => by
    by_cases hzz : z % 2 = 0
    · exact ⟨z, z + 4, 0, by omega, by omega, by omega, by omega, by omega, by omega⟩
    · exact ⟨z + 1, z - 1, 1, by omega, by omega, by omega, by omega, by omega, by omega⟩
  obtain ⟨F, H, h, f1, f2, f3, f4, f5, f6⟩ := axis x0 hx0
  obtain ⟨G, K, k, g1, g2, g3, g4, g5, g6⟩ := axis y0 hy0
  have sq1 : ∀ A B : Int, (0 ≤ A ∧ A + 2 ≤ 2 ^ (n + 1) ∧ A % 2 = 0) → (0 ≤ B ∧ B + 2 ≤ 2 ^ (n + 1) ∧ B % 2 = 0) → ∃ s, Sq N 1 s ∧ ∀ X Y, 0 ≤ X ∧ X < 2 → 0 ≤ Y ∧ Y < 2 → getZ N 1 s X Y = if (R4.mk x0 y0 (x0 + 5) (y0 + 5)).has (X + A) (Y + B) then 1 else 0 := fun A B hA hB => by
    obtain ⟨s, hs, hg⟩ := sub_sq hw (n + 1) hy (j := 1) (A := A) (B := B) ⟨by omega, by rw [p1]; exact hA, by rw [p1]; exact hB⟩
    refine ⟨s, hs, fun X Y hX hY => ?_⟩
    rw [hg X Y (by rw [p1]; exact hX) (by rw [p1]; exact hY)]
    exact hf _ _ (by omega) (by omega)
  obtain ⟨s1, q_s1, t1⟩ := sq1 F G f1 g1
  obtain ⟨s2, q_s2, t2⟩ := sq1 F K f1 g2
  obtain ⟨s3, q_s3, t3⟩ := sq1 H G f2 g1
  obtain ⟨s4, q_s4, t4⟩ := sq1 H K f2 g2
  obtain ⟨b2, q_b2, tb⟩ := sub_sq hw (n + 1) hy (j := 2) (A := x0 - x0 % 4) (B := y0 - y0 % 4) ⟨by omega, by
    have hd : (x0 - x0 % 4) % 2 ^ 2 = 0 := by rw [p2]; omega
    exact ⟨by omega, al_le (by omega) hd (by omega), hd⟩, by
    have hd : (y0 - y0 % 4) % 2 ^ 2 = 0 := by rw [p2]; omega
    exact ⟨by omega, al_le (by omega) hd (by omega), hd⟩⟩
  have one : ∀ X Y : Int, (x0 ≤ X ∧ X < x0 + 5) → (y0 ≤ Y ∧ Y < y0 + 5) → (R4.mk x0 y0 (x0 + 5) (y0 + 5)).has X Y = true := fun X Y hX hY => R4.has_iff.2 ⟨hX, hY⟩
  have non : ∀ X Y : Int, ¬ ((x0 ≤ X ∧ X < x0 + 5) ∧ (y0 ≤ Y ∧ Y < y0 + 5)) → (R4.mk x0 y0 (x0 + 5) (y0 + 5)).has X Y = false := fun X Y hn => by
    cases hh : (R4.mk x0 y0 (x0 + 5) (y0 + 5)).has X Y with
    | false => rfl
    | true => exact absurd (R4.has_iff.1 hh) hn
  have v1 : getZ N 1 s1 (1 - h) (1 - k) = 1 := by rw [t1 _ _ (by omega) (by omega), one _ _ (by omega) (by omega)]; rfl
  have v1b : getZ N 1 s1 h k = 1 := by rw [t1 _ _ (by omega) (by omega), one _ _ (by omega) (by omega)]; rfl
  have v2 : getZ N 1 s2 (1 - h) (1 - k) = 0 := by rw [t2 _ _ (by omega) (by omega), non _ _ (by omega)]; rfl
  have v2b : getZ N 1 s2 (1 - h) k = 1 := by rw [t2 _ _ (by omega) (by omega), one _ _ (by omega) (by omega)]; rfl
  have v2c : getZ N 1 s2 h k = 1 := by rw [t2 _ _ (by omega) (by omega), one _ _ (by omega) (by omega)]; rfl
  have v3 : getZ N 1 s3 (1 - h) (1 - k) = 0 := by rw [t3 _ _ (by omega) (by omega), non _ _ (by omega)]; rfl
  have v3b : getZ N 1 s3 (1 - h) k = 0 := by rw [t3 _ _ (by omega) (by omega), non _ _ (by omega)]; rfl
  have v3c : getZ N 1 s3 h (1 - k) = 1 := by rw [t3 _ _ (by omega) (by omega), one _ _ (by omega) (by omega)]; rfl
  have v3d : getZ N 1 s3 h k = 1 := by rw [t3 _ _ (by omega) (by omega), one _ _ (by omega) (by omega)]; rfl
  have v4 : getZ N 1 s4 (1 - h) (1 - k) = 0 := by rw [t4 _ _ (by omega) (by omega), non _ _ (by omega)]; rfl
  have v4b : getZ N 1 s4 (1 - h) k = 0 := by rw [t4 _ _ (by omega) (by omega), non _ _ (by omega)]; rfl
  have v4c : getZ N 1 s4 h (1 - k) = 0 := by rw [t4 _ _ (by omega) (by omega), non _ _ (by omega)]; rfl
  have v4d : getZ N 1 s4 h k = 1 := by rw [t4 _ _ (by omega) (by omega), one _ _ (by omega) (by omega)]; rfl
  have vb : getZ N 2 b2 (x0 % 4) (y0 % 4) = 1 := by
    rw [tb _ _ (by rw [p2]; omega) (by rw [p2]; omega), hf _ _ (by omega) (by omega), one _ _ (by omega) (by omega)]; rfl
  obtain ⟨z0, hz0⟩ : ∃ z : Nat, z = 0 := ⟨0, rfl⟩
  obtain ⟨z1, hz1⟩ : ∃ z : Nat, z = 1 := ⟨1, rfl⟩
  have q_z0 : Sq N 0 z0 := hz0 ▸ sq_dead hw
  have q_z1 : Sq N 0 z1 := hz1 ▸ sq_alive hw
  have q_e1 := he1.1
  have q_e2 := he2.1
  have q_e3 := he3.1
  have hz01 : z0 ≠ z1 := by omega
  have n_e1 : e1 ≠ s1 := ne_get (he1.2 h k) v1b (by decide)
  have n_e2 : e1 ≠ s2 := ne_get (he1.2 h k) v2c (by decide)
  have n_e3 : e1 ≠ s3 := ne_get (he1.2 h k) v3d (by decide)
  have n_e4 : e1 ≠ s4 := ne_get (he1.2 h k) v4d (by decide)
  have n_12 : s1 ≠ s2 := ne_get v1 v2 (by decide)
  have n_13 : s1 ≠ s3 := ne_get v1 v3 (by decide)
  have n_14 : s1 ≠ s4 := ne_get v1 v4 (by decide)
  have n_23 : s2 ≠ s3 := ne_get v2b v3b (by decide)
  have n_24 : s2 ≠ s4 := ne_get v2b v4b (by decide)
  have n_34 : s3 ≠ s4 := ne_get v3c v4c (by decide)
  have n_b : e2 ≠ b2 := ne_get (he2.2 _ _) vb (by decide)
  have d_z0e1 : z0 ≠ e1 := ne_lv q_z0 q_e1 (by decide)
  have d_z0s1 : z0 ≠ s1 := ne_lv q_z0 q_s1 (by decide)
  have d_z0s2 : z0 ≠ s2 := ne_lv q_z0 q_s2 (by decide)
  have d_z0s3 : z0 ≠ s3 := ne_lv q_z0 q_s3 (by decide)
  have d_z0s4 : z0 ≠ s4 := ne_lv q_z0 q_s4 (by decide)
  have d_z0e2 : z0 ≠ e2 := ne_lv q_z0 q_e2 (by decide)
  have d_z0b2 : z0 ≠ b2 := ne_lv q_z0 q_b2 (by decide)
  have d_z0e3 : z0 ≠ e3 := ne_lv q_z0 q_e3 (by decide)
  have d_z1e1 : z1 ≠ e1 := ne_lv q_z1 q_e1 (by decide)
  have d_z1s1 : z1 ≠ s1 := ne_lv q_z1 q_s1 (by decide)
  have d_z1s2 : z1 ≠ s2 := ne_lv q_z1 q_s2 (by decide)
  have d_z1s3 : z1 ≠ s3 := ne_lv q_z1 q_s3 (by decide)
  have d_z1s4 : z1 ≠ s4 := ne_lv q_z1 q_s4 (by decide)
  have d_z1e2 : z1 ≠ e2 := ne_lv q_z1 q_e2 (by decide)
  have d_z1b2 : z1 ≠ b2 := ne_lv q_z1 q_b2 (by decide)
  have d_z1e3 : z1 ≠ e3 := ne_lv q_z1 q_e3 (by decide)
  have d_e1e2 : e1 ≠ e2 := ne_lv q_e1 q_e2 (by decide)
  have d_e1b2 : e1 ≠ b2 := ne_lv q_e1 q_b2 (by decide)
  have d_e1e3 : e1 ≠ e3 := ne_lv q_e1 q_e3 (by decide)
  have d_s1e2 : s1 ≠ e2 := ne_lv q_s1 q_e2 (by decide)
  have d_s1b2 : s1 ≠ b2 := ne_lv q_s1 q_b2 (by decide)
  have d_s1e3 : s1 ≠ e3 := ne_lv q_s1 q_e3 (by decide)
  have d_s2e2 : s2 ≠ e2 := ne_lv q_s2 q_e2 (by decide)
  have d_s2b2 : s2 ≠ b2 := ne_lv q_s2 q_b2 (by decide)
  have d_s2e3 : s2 ≠ e3 := ne_lv q_s2 q_e3 (by decide)
  have d_s3e2 : s3 ≠ e2 := ne_lv q_s3 q_e2 (by decide)
  have d_s3b2 : s3 ≠ b2 := ne_lv q_s3 q_b2 (by decide)
  have d_s3e3 : s3 ≠ e3 := ne_lv q_s3 q_e3 (by decide)
  have d_s4e2 : s4 ≠ e2 := ne_lv q_s4 q_e2 (by decide)
  have d_s4b2 : s4 ≠ b2 := ne_lv q_s4 q_b2 (by decide)
  have d_s4e3 : s4 ≠ e3 := ne_lv q_s4 q_e3 (by decide)
  have d_e2e3 : e2 ≠ e3 := ne_lv q_e2 q_e3 (by decide)
  have d_b2e3 : b2 ≠ e3 := ne_lv q_b2 q_e3 (by decide)
  have hnd : ([z0, z1, e1, s1, s2, s3, s4, e2, b2, e3] : List Nat).Nodup := by
    simp only [List.nodup_cons, List.mem_cons, List.not_mem_nil, or_false, not_or, List.nodup_nil, not_false_eq_true, and_true]
    exact ⟨⟨hz01, d_z0e1, d_z0s1, d_z0s2, d_z0s3, d_z0s4, d_z0e2, d_z0b2, d_z0e3⟩, ⟨d_z1e1, d_z1s1, d_z1s2, d_z1s3, d_z1s4, d_z1e2, d_z1b2, d_z1e3⟩, ⟨n_e1, n_e2, n_e3, n_e4, d_e1e2, d_e1b2, d_e1e3⟩, ⟨n_12, n_13, n_14, d_s1e2, d_s1b2, d_s1e3⟩, ⟨n_23, n_24, d_s2e2, d_s2b2, d_s2e3⟩, ⟨n_34, d_s3e2, d_s3b2, d_s3e3⟩, ⟨d_s4e2, d_s4b2, d_s4e3⟩, ⟨n_b, d_e2e3⟩, d_b2e3⟩
  have := nat_few N.length _ hnd (fun z hz => by
    simp only [List.mem_cons, List.not_mem_nil, or_false] at hz
    rcases hz with rfl | rfl | rfl | rfl | rfl | rfl | rfl | rfl | rfl | rfl
    · exact q_z0.lt
    · exact q_z1.lt
    · exact q_e1.lt
    · exact q_s1.lt
    · exact q_s2.lt
    · exact q_s3.lt
    · exact q_s4.lt
    · exact q_e2.lt
    · exact q_b2.lt
    · exact q_e3.lt)
  simpa using this
end Go.Proofs.Ytfohkbgacpokoaa
