/-
  Shares by weight, plainly: who is ahead of a floor by no more than a reach has a fair share. No program.
-/
import Derived.Test.YtaohihfhgialnaaChecked
namespace Go.Proofs.Ytaohihfhgialnaa

def bringR (n lo hi : Int) : Int := if n < lo then lo else if hi < n then hi else n
theorem bring_in {n lo hi : Int} (h0 : lo ≤ n) (h1 : n ≤ hi) : bringR n lo hi = n := by
  unfold bringR
  rw [if_neg (by omega), if_neg (by omega)]
theorem bring_range {n lo hi : Int} (h : lo ≤ hi) : lo ≤ bringR n lo hi ∧ bringR n lo hi ≤ hi := by
  unfold bringR
  split
  · omega
  · split <;> omega
def sumR (l : List Int) : Int := l.foldr (· + ·) 0
def ticksR (ts : List Int) : List Int := ts.map (fun t => bringR t 0 2147483648)
def weightsR (ws : List Int) : List Int := ws.map (fun w => bringR w 1 4096)
/-- How far one is apart, times all weights. -/
def offR (ts ws : List Int) (i : Nat) : Int := ((((ticksR ts)[i]?).getD 0 * sumR (weightsR ws) - ((weightsR ws)[i]?).getD 0 * sumR (ticksR ts)).natAbs : Nat)
def upDiv (x a : Int) : Int := if 0 < x % a then x / a + 1 else x / a
/-- The least k, among the first n. -/
def worstTo (ts ws : List Int) : Nat → Int
  | 0 => 0
  | n + 1 => if worstTo ts ws n < upDiv (offR ts ws n) (sumR (weightsR ws)) then upDiv (offR ts ws n) (sumR (weightsR ws)) else worstTo ts ws n
def worstR (ts ws : List Int) : Int := if ts.length ≠ ws.length ∨ 64 < ts.length then -1 else worstTo ts ws ts.length
def fairR (ts ws : List Int) (k : Int) : Bool := decide (0 ≤ worstR ts ws) && decide (worstR ts ws ≤ bringR k 0 2147483648)

theorem updiv_le {x a k : Int} (ha : 0 < a) (h : x ≤ k * a) : upDiv x a ≤ k := by
  unfold upDiv
  have h1 : x = a * (x / a) + x % a := (Int.mul_ediv_add_emod x a).symm
  have h2 := Int.emod_nonneg x (show a ≠ 0 by omega)
  have h3 := Int.emod_lt_of_pos x ha
  have hk : x / a ≤ k := by
    rw [Int.mul_comm] at h
    exact Int.ediv_le_of_le_mul ha (by rw [Int.mul_comm]; exact h)
  split
  · next hp =>
    rcases Int.lt_or_le (x / a) k with h4 | h4
    · omega
    · exfalso
      have h5 : x / a = k := by omega
      rw [h5, Int.mul_comm a k] at h1
      omega
  · exact hk
theorem updiv_ge {x a : Int} (ha : 0 < a) (h : 0 ≤ x) : 0 ≤ upDiv x a := by
  unfold upDiv
  have := Int.ediv_nonneg h (Int.le_of_lt ha)
  split <;> omega
theorem worst_le {ts ws : List Int} {k : Int} (ha : 0 < sumR (weightsR ws)) (hk : 0 ≤ k) : ∀ n, (∀ i, i < n → offR ts ws i ≤ k * sumR (weightsR ws)) → 0 ≤ worstTo ts ws n ∧ worstTo ts ws n ≤ k
  | 0, _ => ⟨Int.le_refl _, hk⟩
  | n + 1, h => by
    obtain ⟨i1, i2⟩ := worst_le ha hk n (fun i hi => h i (by omega))
    have h1 := updiv_le ha (h n (by omega))
    have h0 : 0 ≤ upDiv (offR ts ws n) (sumR (weightsR ws)) := updiv_ge ha (by unfold offR; omega)
    unfold worstTo
    split
    · exact ⟨h0, h1⟩
    · exact ⟨i1, i2⟩

/-- What one is ahead of each, summed. -/
def crossR (t w : Int) (P : List (Int × Int)) : Int := sumR (P.map (fun x => t * x.2 - w * x.1))
theorem cross_sum (t w : Int) : ∀ P : List (Int × Int), crossR t w P = t * sumR (P.map (·.2)) - w * sumR (P.map (·.1))
  | [] => by simp [crossR, sumR]
  | x :: P => by
    have ih := cross_sum t w P
    simp only [crossR, sumR, List.map_cons, List.foldr_cons] at ih ⊢
    rw [ih, Int.mul_add, Int.mul_add]
    omega
/-- One is ahead of a floor F by no more than q of its own costs. -/
def aheadR (N F q : Int) (x : Int × Int) : Prop := 0 < x.2 ∧ ∃ c, 0 < c ∧ c * x.2 = N ∧ F ≤ x.1 * c ∧ x.1 * c ≤ F + c * q
theorem ahead_two {N F q : Int} (hN : 0 < N) {x y : Int × Int} (hx : aheadR N F q x) (hy : aheadR N F q y) : x.1 * y.2 - x.2 * y.1 ≤ q * y.2 ∧ -(x.2 * q) ≤ x.1 * y.2 - x.2 * y.1 := by
  obtain ⟨t, w⟩ := x
  obtain ⟨s, u⟩ := y
  obtain ⟨hw, c, hc, hcN, h1, h2⟩ := hx
  obtain ⟨hu, d, hd, hdN, h3, h4⟩ := hy
  simp only at hw hu hcN hdN h1 h2 h3 h4 ⊢
  have key : N * (t * u - w * s) = w * u * (t * c - s * d) := by
    have e1 : N * (t * u) = w * u * (t * c) := by
      rw [← hcN, Int.mul_assoc c w, Int.mul_left_comm w t u, Int.mul_left_comm c t, Int.mul_comm c (w * u), Int.mul_left_comm t (w * u) c]
    have e2 : N * (w * s) = w * u * (s * d) := by
      rw [← hdN, Int.mul_assoc d u, Int.mul_left_comm u w s, Int.mul_left_comm d w, Int.mul_assoc w u, Int.mul_left_comm d u s, Int.mul_comm d s]
    rw [Int.mul_sub, Int.mul_sub, e1, e2]
  have hwu : 0 < w * u := Int.mul_pos hw hu
  have b1 : w * u * (t * c - s * d) ≤ w * u * (c * q) := Int.mul_le_mul_of_nonneg_left (by omega) (Int.le_of_lt hwu)
  have b2 : w * u * (-(d * q)) ≤ w * u * (t * c - s * d) := Int.mul_le_mul_of_nonneg_left (by omega) (Int.le_of_lt hwu)
  have e3 : w * u * (c * q) = N * (q * u) := by
    rw [← hcN, Int.mul_assoc c w, Int.mul_comm q u, Int.mul_left_comm c w, Int.mul_assoc w u, Int.mul_left_comm u c q]
  have e4 : w * u * (-(d * q)) = N * (-(w * q)) := by
    rw [← hdN, Int.mul_neg, Int.mul_neg, Int.mul_assoc w u, Int.mul_left_comm u d q, ← Int.mul_assoc d u q, Int.mul_left_comm w (d * u) q]
  rw [← key, e3] at b1
  rw [← key, e4] at b2
  exact ⟨Int.le_of_mul_le_mul_left b1 hN, Int.le_of_mul_le_mul_left b2 hN⟩
theorem cross_range {N F q : Int} (hN : 0 < N) {x : Int × Int} (hx : aheadR N F q x) : ∀ P : List (Int × Int), (∀ y ∈ P, aheadR N F q y) → crossR x.1 x.2 P ≤ q * sumR (P.map (·.2)) ∧ -(x.2 * q) * P.length ≤ crossR x.1 x.2 P
  | [], _ => by simp [crossR, sumR]
  | y :: P, h => by
    obtain ⟨i1, i2⟩ := cross_range hN hx P (fun z hz => h z (by simp [hz]))
    obtain ⟨a1, a2⟩ := ahead_two hN hx (h y (by simp))
    have e1 : crossR x.1 x.2 (y :: P) = (x.1 * y.2 - x.2 * y.1) + crossR x.1 x.2 P := by simp [crossR, sumR]
    have e2 : sumR ((y :: P).map (·.2)) = y.2 + sumR (P.map (·.2)) := by simp [sumR]
    rw [e1, e2, Int.mul_add]
    refine ⟨by omega, ?_⟩
    have e3 : -(x.2 * q) * ((y :: P).length : Int) = -(x.2 * q) + -(x.2 * q) * (P.length : Int) := by
      simp only [List.length_cons, Int.natCast_add, Int.mul_add]
      omega
    rw [e3]
    omega
theorem sum_pos : ∀ {P : List (Int × Int)}, (∀ y ∈ P, 0 < y.2) → 0 ≤ sumR (P.map (·.2)) ∧ ∀ x ∈ P, x.2 ≤ sumR (P.map (·.2))
  | [], _ => ⟨by simp [sumR], fun x hx => by cases hx⟩
  | y :: P, h => by
    obtain ⟨i1, i2⟩ := sum_pos (P := P) (fun z hz => h z (by simp [hz]))
    have hy := h y (by simp)
    have e : sumR ((y :: P).map (·.2)) = y.2 + sumR (P.map (·.2)) := by simp [sumR]
    rw [e]
    refine ⟨by omega, fun x hx => ?_⟩
    rcases List.mem_cons.1 hx with rfl | hx
    · omega
    · have := i2 x hx
      omega
/-- Each is apart from its share by no more than as many as there are, times the reach. -/
theorem lag_range {N F q : Int} (hN : 0 < N) (hq : 1 ≤ q) {P : List (Int × Int)} (h : ∀ y ∈ P, aheadR N F q y) {x : Int × Int} (hx : x ∈ P) :
    ((x.1 * sumR (P.map (·.2)) - x.2 * sumR (P.map (·.1))).natAbs : Int) ≤ (P.length : Int) * q * sumR (P.map (·.2)) := by
  obtain ⟨c1, c2⟩ := cross_range hN (h x hx) P h
  rw [cross_sum] at c1 c2
  obtain ⟨s1, s2⟩ := sum_pos (P := P) (fun y hy => (h y hy).1)
  have hw := s2 x hx
  have hw0 := (h x hx).1
  have hl : (1 : Int) ≤ P.length := by
    have := List.length_pos_of_mem hx
    omega
  have b1 : q * sumR (P.map (·.2)) ≤ (P.length : Int) * q * sumR (P.map (·.2)) := by
    refine Int.mul_le_mul_of_nonneg_right ?_ s1
    have := Int.mul_le_mul_of_nonneg_right hl (show 0 ≤ q by omega)
    omega
  have b2 : x.2 * q * P.length ≤ (P.length : Int) * q * sumR (P.map (·.2)) := by
    have e : x.2 * q * (P.length : Int) = (P.length : Int) * q * x.2 := by rw [Int.mul_comm (x.2 * q), Int.mul_comm x.2 q, ← Int.mul_assoc]
    rw [e]
    exact Int.mul_le_mul_of_nonneg_left hw (Int.mul_nonneg (by omega) (by omega))
  have e3 : -(x.2 * q) * (P.length : Int) = -(x.2 * q * P.length) := Int.neg_mul _ _
  rw [e3] at c2
  omega
/-- .. so ticks are fair. -/
theorem lag_fair {N F q : Int} (hN : 0 < N) (hq : 1 ≤ q) {ts ws : List Int} (hl : ts.length = ws.length) (h0 : 0 < ts.length) (h64 : ts.length ≤ 64) (hkq : (ts.length : Int) * q ≤ 2147483648) (ht : ∀ t ∈ ts, 0 ≤ t ∧ t ≤ 2147483648) (hw : ∀ w ∈ ws, 1 ≤ w ∧ w ≤ 4096)
    (h : ∀ y ∈ ts.zip ws, aheadR N F q y) : fairR ts ws ((ts.length : Int) * q) = true := by
  have e1 : ticksR ts = ts := by
    unfold ticksR
    have : ts.map (fun t => bringR t 0 2147483648) = ts.map id := List.map_congr_left fun t h => bring_in (ht t h).1 (ht t h).2
    rw [this, List.map_id]
  have e2 : weightsR ws = ws := by
    unfold weightsR
    have : ws.map (fun w => bringR w 1 4096) = ws.map id := List.map_congr_left fun w h => bring_in (hw w h).1 (hw w h).2
    rw [this, List.map_id]
  have z1 : (ts.zip ws).map (·.1) = ts := List.map_fst_zip (by omega)
  have z2 : (ts.zip ws).map (·.2) = ws := List.map_snd_zip (by omega)
  have hzl : (ts.zip ws).length = ts.length := by rw [List.length_zip]; omega
  have hnn : 0 ≤ (ts.length : Int) * q := Int.mul_nonneg (by omega) (by omega)
  have hsum : 0 < sumR (weightsR ws) := by
    rw [e2]
    obtain ⟨s1, s2⟩ := sum_pos (P := ts.zip ws) (fun y hy => (h y hy).1)
    rw [z2] at s1 s2
    have hx : (ts.zip ws)[0]'(by omega) ∈ ts.zip ws := List.getElem_mem _
    have h1 := s2 _ hx
    have h2 := (h _ hx).1
    omega
  obtain ⟨w0, w1⟩ := worst_le (ts := ts) (ws := ws) hsum hnn ts.length (fun i hi => by
    unfold offR
    rw [e1, e2, List.getElem?_eq_getElem hi, List.getElem?_eq_getElem (by omega), Option.getD_some, Option.getD_some]
    have hx : (ts[i], ws[i]'(by omega)) ∈ ts.zip ws := by
      rw [List.mem_iff_getElem]
      exact ⟨i, by omega, by rw [List.getElem_zip]⟩
    have hr := lag_range hN hq h hx
    rw [z1, z2, hzl] at hr
    exact hr)
  unfold fairR worstR
  rw [if_neg (by omega), bring_in hnn hkq]
  simp [w0, w1]
end Go.Proofs.Ytaohihfhgialnaa
