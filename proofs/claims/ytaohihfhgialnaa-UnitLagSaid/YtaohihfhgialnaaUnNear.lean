/-
  Fair, part by part: each one's distance is within k times all weights. No program.
-/
import Derived.Test.YtaohihfhgialnaaUnSums
import Derived.Test.YtaohihfhgialnaaFixMath
namespace Go.Proofs.Ytaohihfhgialnaa

theorem le_updiv {x a k : Int} (ha : 0 < a) (h : upDiv x a ≤ k) : x ≤ k * a := by
  unfold upDiv at h
  have h1 : x = a * (x / a) + x % a := (Int.mul_ediv_add_emod x a).symm
  have h2 := Int.emod_nonneg x (show a ≠ 0 by omega)
  have h3 := Int.emod_lt_of_pos x ha
  split at h
  · next hp =>
    have h4 : (x / a + 1) * a ≤ k * a := Int.mul_le_mul_of_nonneg_right h (by omega)
    rw [Int.add_mul, Int.one_mul, Int.mul_comm (x / a) a] at h4
    omega
  · next hp =>
    have h4 : (x / a) * a ≤ k * a := Int.mul_le_mul_of_nonneg_right h (by omega)
    rw [Int.mul_comm (x / a) a] at h4
    omega
theorem worst_each {ts ws : List Int} : ∀ {n : Nat} {k : Int}, worstTo ts ws n ≤ k → ∀ i, i < n → upDiv (offR ts ws i) (sumR (weightsR ws)) ≤ k
  | 0, _, _, i, hi => by omega
  | n + 1, k, h, i, hi => by
    unfold worstTo at h
    split at h
    · next hlt =>
      rcases Nat.lt_or_ge i n with h1 | h1
      · exact worst_each (n := n) (by omega) i h1
      · obtain rfl : i = n := by omega
        exact h
    · next hge =>
      rcases Nat.lt_or_ge i n with h1 | h1
      · exact worst_each (n := n) h i h1
      · obtain rfl : i = n := by omega
        omega
theorem wsum_pos {ws : List Int} (h : 0 < ws.length) : 0 < sumR (weightsR ws) := by
  obtain ⟨a, _⟩ := psum_range bw_range (l := ws) (Nat.le_refl ws.length)
  rw [psum_all] at a
  have e : sumR (List.map bw ws) = sumR (weightsR ws) := rfl
  omega
/-- The least k is no more than k: so is each one's. -/
theorem fair_each {ts ws : List Int} (hl : ts.length = ws.length) (h64 : ts.length ≤ 64) (k : Int) :
    fairR ts ws k = true ↔ ∀ i, i < ts.length → offR ts ws i ≤ bringR k 0 2147483648 * sumR (weightsR ws) := by
  have hk := (bring_range (n := k) (lo := 0) (hi := 2147483648) (by decide)).1
  have hw : worstR ts ws = worstTo ts ws ts.length := by
    unfold worstR
    rw [if_neg (by omega)]
  unfold fairR
  rw [hw]
  by_cases h0 : ts.length = 0
  · rw [h0]
    simp [worstTo, hk]
  · have hp : 0 < sumR (weightsR ws) := wsum_pos (by omega)
    constructor
    · intro h i hi
      simp only [Bool.and_eq_true, decide_eq_true_eq] at h
      exact le_updiv hp (worst_each h.2 i hi)
    · intro h
      obtain ⟨a, b⟩ := worst_le hp hk ts.length h
      simp [a, b]
theorem near_off {ts ws : List Int} {i : Nat} (h1 : i < ts.length) (h2 : i < ws.length) (k : Int) :
    nearB (bt ts[i]) (bw ws[i]) (psum bt ts ts.length) (psum bw ws ws.length) k = decide (offR ts ws i ≤ k * sumR (weightsR ws)) := by
  unfold nearB
  rw [off_of h1 h2, show sumR (weightsR ws) = psum bw ws ws.length from (psum_all bw ws).symm]
  refine decide_eq_decide.2 ?_
  have : dist (bt ts[i] * psum bw ws ws.length) (bw ws[i] * psum bt ts ts.length) = ((bt ts[i] * psum bw ws ws.length - bw ws[i] * psum bt ts ts.length).natAbs : Nat) := by
    unfold dist
    split <;> omega
  rw [this]
theorem fair_unlike {ts ws : List Int} (h : ts.length ≠ ws.length ∨ 64 < ts.length) (k : Int) : fairR ts ws k = false := by
  have hw : worstR ts ws = -1 := if_pos h
  unfold fairR
  rw [hw]
  rfl
end Go.Proofs.Ytaohihfhgialnaa
