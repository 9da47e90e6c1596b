/-
  Plain arithmetic of the reference's division, bit by bit. No program in sight.
-/
import Derived.Test.YthmniplbckhgaaaRefMath
namespace Go.Proofs.Ythmniplbckhgaaa

/-- What m digits from place i on make. -/
def hv (f : Nat → Int) : Nat → Nat → Int
  | _, 0 => 0
  | i, m + 1 => f i + 65536 * hv f (i + 1) m
theorem hv_snoc (f : Nat → Int) : ∀ m i, hv f i (m + 1) = hv f i m + f (i + m) * P m
  | 0, i => by simp [hv, P]
  | m + 1, i => by
    have h := hv_snoc f m (i + 1)
    have e : hv f i (m + 1 + 1) = f i + 65536 * hv f (i + 1) (m + 1) := rfl
    have e2 : hv f i (m + 1) = f i + 65536 * hv f (i + 1) m := rfl
    rw [e, e2, h, P_succ, show i + 1 + m = i + (m + 1) by omega, Int.mul_add]
    have e3 : 65536 * (f (i + (m + 1)) * P m) = f (i + (m + 1)) * (P m * 65536) := by
      rw [Int.mul_left_comm, Int.mul_comm 65536]
    omega
theorem hv_pv (f : Nat → Int) : ∀ n, hv f 0 n = pv f n
  | 0 => rfl
  | n + 1 => by
    rw [hv_snoc, hv_pv f n, Nat.zero_add]
    rfl
theorem hv_congr {f g : Nat → Int} : ∀ m i, (∀ j, i ≤ j → f j = g j) → hv f i m = hv g i m
  | 0, _, _ => rfl
  | m + 1, i, h => by
    simp only [hv]
    rw [h i (Nat.le_refl _), hv_congr m (i + 1) (fun j hj => h j (by omega))]

theorem dg_set {D : List Int} {i : Nat} {x : Int} (hi : i < D.length) (j : Nat) : dg (D.set i x) j = if j = i then x else dg D j := by
  unfold dg
  simp only [List.getD_eq_getElem?_getD, List.getElem?_set]
  by_cases e : i = j
  · subst e
    simp [hi]
  · rw [if_neg e, if_neg (fun h => e h.symm)]

/-- A power of two. -/
def tw (k : Nat) : Int := 2 ^ k
theorem tw_succ (k : Nat) : tw (k + 1) = tw k * 2 := Int.pow_succ _ _
theorem tw_pos (k : Nat) : 0 < tw k := Int.pow_pos (by omega)
theorem tw_add (i k : Nat) : tw (i + k) = tw i * tw k := Int.pow_add _ _ _
theorem tw_16 : tw 16 = 65536 := rfl

/-- Digits from place i on have been gone over: what they make is the digits found there, times Y, and the rest R. -/
structure DivOut (A : List Int) (Y : Int) (i : Nat) (D : List Int) (R : Int) : Prop where
  len : D.length = A.length
  good : Good D
  zero : ∀ j, j < i → dg D j = 0
  r0 : 0 ≤ R
  r1 : R < Y
  eq : hv (dg A) i (A.length - i) = hv (dg D) i (A.length - i) * Y + R
/-- And of the digit i all but its lowest k bits. -/
structure DivSt (A : List Int) (Y : Int) (i k : Nat) (D : List Int) (R : Int) : Prop where
  len : D.length = A.length
  good : Good D
  zero : ∀ j, j < i → dg D j = 0
  mult : dg D i % tw k = 0
  r0 : 0 ≤ R
  r1 : R < Y
  eq : hv (dg A) (i + 1) (A.length - (i + 1)) * tw (16 - k) + dg A i / tw k = (hv (dg D) (i + 1) (A.length - (i + 1)) * tw (16 - k) + dg D i / tw k) * Y + R

theorem DivOut.start {A : List Int} {Y : Int} (hY : 0 < Y) : DivOut A Y A.length (List.replicate A.length 0) 0 := by
  have hz : ∀ j, dg (List.replicate A.length 0) j = 0 := fun j => by
    unfold dg
    simp only [List.getD_eq_getElem?_getD, List.getElem?_replicate]
    split <;> rfl
  refine ⟨by simp, fun k => by rw [hz]; exact ⟨by omega, by omega⟩, fun j _ => hz j, by omega, hY, ?_⟩
  rw [Nat.sub_self]
  simp [hv]
theorem DivOut.enter {A : List Int} {Y : Int} {i : Nat} {D : List Int} {R : Int} (ha : Good A) (h : DivOut A Y (i + 1) D R) : DivSt A Y i 16 D R := by
  obtain ⟨h1, h2, h3, h4, h5, h6⟩ := h
  have hz := h3 i (by omega)
  refine ⟨h1, h2, fun j hj => h3 j (by omega), by rw [hz]; rfl, h4, h5, ?_⟩
  rw [hz, tw_16]
  have a0 := (ha i).1
  have a1 := (ha i).2
  rw [show dg A i / 65536 = 0 by omega, show tw (16 - 16) = 1 from rfl]
  simpa using h6
theorem DivOut.enter_of {A : List Int} {Y : Int} {i j : Nat} {D : List Int} {R : Int} (ha : Good A) (h : DivOut A Y j D R) (e : j = i + 1) : DivSt A Y i 16 D R := by
  subst e
  exact h.enter ha
theorem DivSt.leave {A : List Int} {Y : Int} {i : Nat} {D : List Int} {R : Int} (hi : i < A.length) (h : DivSt A Y i 0 D R) : DivOut A Y i D R := by
  obtain ⟨h1, h2, h3, h4, h5, h6, h7⟩ := h
  refine ⟨h1, h2, h3, h5, h6, ?_⟩
  rw [show A.length - i = A.length - (i + 1) + 1 by omega]
  simp only [hv]
  rw [show tw 0 = 1 from rfl, show tw (16 - 0) = 65536 from rfl, Int.ediv_one, Int.ediv_one] at h7
  rw [Int.mul_comm 65536, Int.mul_comm 65536, Int.add_comm (dg A i), Int.add_comm (dg D i)]
  exact h7
theorem half_step (x : Int) (k : Nat) : x / tw k = 2 * (x / tw (k + 1)) + x / tw k % 2 := by
  rw [tw_succ, ← Int.ediv_ediv_of_nonneg (Int.le_of_lt (tw_pos k))]
  omega
/-- The equation, one bit on. -/
theorem div_bit {HA HD T a a' d d' R Y b c : Int} (e : HA * T + a = (HD * T + d) * Y + R) (ha : a' = 2 * a + b) (hd : d' = 2 * d + c) : HA * (T * 2) + a' = (HD * (T * 2) + d') * Y + (2 * R + b - c * Y) := by
  rw [ha, hd, ← Int.mul_assoc, ← Int.mul_assoc]
  have e2 : (HD * T * 2 + (2 * d + c)) * Y = 2 * ((HD * T + d) * Y) + c * Y := by
    rw [← Int.mul_assoc 2, ← Int.add_mul]
    congr 1
    omega
  rw [e2]
  omega
theorem tw_sub (k : Nat) (h : k + 1 ≤ 16) : tw (16 - k) = tw (16 - (k + 1)) * 2 := by
  rw [show 16 - k = 16 - (k + 1) + 1 by omega, tw_succ]
theorem DivSt.low {A : List Int} {Y : Int} {i k : Nat} {D : List Int} {R : Int} (hk : k + 1 ≤ 16) (h : DivSt A Y i (k + 1) D R) (hlt : 2 * R + dg A i / tw k % 2 < Y) : DivSt A Y i k D (2 * R + dg A i / tw k % 2) := by
  obtain ⟨h1, h2, h3, h4, h5, h6, h7⟩ := h
  have hm : dg D i / tw k % 2 = 0 := by
    have e := Int.emod_emod_of_dvd (dg D i) (show tw k ∣ tw (k + 1) from ⟨2, tw_succ k⟩)
    have hd := Int.mul_ediv_add_emod (dg D i) (tw (k + 1))
    rw [h4, Int.add_zero, tw_succ, Int.mul_assoc] at hd
    have : dg D i / tw k = 2 * (dg D i / (tw k * 2)) := by
      conv => lhs; rw [← hd]
      exact Int.mul_ediv_cancel_left _ (by have := tw_pos k; omega)
    omega
  have hmk : dg D i % tw k = 0 := by
    have e := Int.emod_emod_of_dvd (dg D i) (show tw k ∣ tw (k + 1) from ⟨2, tw_succ k⟩)
    rw [h4] at e
    simpa using e.symm
  refine ⟨h1, h2, h3, hmk, by omega, hlt, ?_⟩
  rw [tw_sub k hk]
  have hh := half_step (dg D i) k
  rw [hm] at hh
  have := div_bit h7 (half_step (dg A i) k) hh
  rw [this]
  omega
theorem DivSt.room {A : List Int} {Y : Int} {i k : Nat} {D : List Int} {R : Int} (hk : k + 1 ≤ 16) (h : DivSt A Y i (k + 1) D R) : 0 ≤ dg D i ∧ dg D i + tw k ≤ 65535 := by
  obtain ⟨h1, h2, h3, h4, h5, h6, h7⟩ := h
  obtain ⟨d0, d1⟩ := h2 i
  refine ⟨d0, ?_⟩
  have hd := Int.mul_ediv_add_emod (dg D i) (tw (k + 1))
  rw [h4, Int.add_zero] at hd
  have hT : tw (k + 1) * tw (16 - (k + 1)) = 65536 := by rw [← tw_add, show k + 1 + (16 - (k + 1)) = 16 by omega]; rfl
  have hp := tw_pos (k + 1)
  have hpk := tw_pos k
  have e := tw_succ k
  have hlt : dg D i / tw (k + 1) < tw (16 - (k + 1)) := by
    refine Int.ediv_lt_of_lt_mul hp ?_
    rw [Int.mul_comm, hT]
    omega
  have hm : tw (k + 1) * (dg D i / tw (k + 1) + 1) ≤ tw (k + 1) * tw (16 - (k + 1)) := Int.mul_le_mul_of_nonneg_left (by omega) (Int.le_of_lt hp)
  rw [Int.mul_add, hd, hT] at hm
  omega
theorem DivSt.high {A : List Int} {Y : Int} {i k : Nat} {D : List Int} {R : Int} (hi : i < A.length) (hk : k + 1 ≤ 16) (h : DivSt A Y i (k + 1) D R) (hge : Y ≤ 2 * R + dg A i / tw k % 2) :
    DivSt A Y i k (D.set i (dg D i + tw k)) (2 * R + dg A i / tw k % 2 - Y) := by
  obtain ⟨r0, r1⟩ := h.room hk
  obtain ⟨h1, h2, h3, h4, h5, h6, h7⟩ := h
  have hp := tw_pos k
  have hil : i < D.length := by omega
  have hb : 0 ≤ dg A i / tw k % 2 ∧ dg A i / tw k % 2 ≤ 1 := by omega
  have hd := Int.mul_ediv_add_emod (dg D i) (tw (k + 1))
  rw [h4, Int.add_zero, tw_succ, Int.mul_assoc] at hd
  have hq : (dg D i + tw k) / tw k = 2 * (dg D i / tw (k + 1)) + 1 := by
    have e : dg D i + tw k = tw k * (2 * (dg D i / (tw k * 2)) + 1) := by
      rw [Int.mul_add, hd]
      omega
    rw [e, Int.mul_ediv_cancel_left _ (by omega), tw_succ]
  have hmk : (dg D i + tw k) % tw k = 0 := by
    have e : dg D i + tw k = tw k * (2 * (dg D i / (tw k * 2)) + 1) := by
      rw [Int.mul_add, hd]
      omega
    rw [e]
    exact Int.mul_emod_right _ _
  have hsame : hv (dg (D.set i (dg D i + tw k))) (i + 1) (A.length - (i + 1)) = hv (dg D) (i + 1) (A.length - (i + 1)) := hv_congr _ _ fun j hj => by
    rw [dg_set hil, if_neg (by omega)]
  refine ⟨by rw [List.length_set]; exact h1, fun j => ?_, fun j hj => ?_, ?_, by omega, by omega, ?_⟩
  · rw [dg_set hil]
    split
    · exact ⟨by omega, r1⟩
    · exact h2 j
  · rw [dg_set hil, if_neg (by omega)]
    exact h3 j hj
  · rw [dg_set hil, if_pos rfl]
    exact hmk
  · rw [tw_sub k hk, hsame, dg_set hil, if_pos rfl]
    have := div_bit h7 (half_step (dg A i) k) hq
    rw [this]
    omega
theorem DivOut.fin {A : List Int} {Y : Int} {D : List Int} {R : Int} (h : DivOut A Y 0 D R) : val D = val A / Y ∧ R = val A % Y := by
  obtain ⟨h1, h2, h3, h4, h5, h6⟩ := h
  rw [Nat.sub_zero, hv_pv, hv_pv] at h6
  have e1 : pv (dg A) A.length = val A := rfl
  have e2 : pv (dg D) A.length = val D := by rw [← h1]; rfl
  rw [e1, e2] at h6
  have hc := Int.mul_comm (val D) Y
  have u := (Int.ediv_emod_unique (a := val A) (b := Y) (r := R) (q := val D) (by omega)).2 ⟨by omega, h4, h5⟩
  exact ⟨u.1.symm, u.2.symm⟩
end Go.Proofs.Ythmniplbckhgaaa
