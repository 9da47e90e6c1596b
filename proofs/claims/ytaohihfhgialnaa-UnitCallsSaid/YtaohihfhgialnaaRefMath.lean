/-
  Plain arithmetic of numbers in digits of 16 bits, the lowest first. No program in sight.
-/
import Derived.Test.YtaohihfhgialnaaFixMath
namespace Go.Proofs.Ytaohihfhgialnaa

def P (k : Nat) : Int := 65536 ^ k
theorem P_zero : P 0 = 1 := rfl
theorem P_succ (k : Nat) : P (k + 1) = P k * 65536 := Int.pow_succ _ _
theorem P_pos (k : Nat) : 0 < P k := Int.pow_pos (by omega)
theorem P_add (i k : Nat) : P (i + k) = P i * P k := Int.pow_add _ _ _

/-- What the digits f 0 .. f (k - 1) make. -/
def pv (f : Nat → Int) : Nat → Int
  | 0 => 0
  | k + 1 => pv f k + f k * P k
def dg (l : List Int) (k : Nat) : Int := l.getD k 0
def val (l : List Int) : Int := pv (dg l) l.length
def Digit (d : Int) : Prop := 0 ≤ d ∧ d ≤ 65535
def Good (l : List Int) : Prop := ∀ k, Digit (dg l k)

theorem pv_congr {f g : Nat → Int} : ∀ n : Nat, (∀ k, k < n → f k = g k) → pv f n = pv g n
  | 0, _ => rfl
  | n + 1, h => by
    have := pv_congr n (fun k hk => h k (by omega))
    simp only [pv]
    rw [this, h n (by omega)]
theorem dg_out {l : List Int} {k : Nat} (h : l.length ≤ k) : dg l k = 0 := by
  unfold dg
  simp [List.getD_eq_getElem?_getD, List.getElem?_eq_none h]
theorem pv_out (l : List Int) : ∀ j : Nat, pv (dg l) (l.length + j) = val l
  | 0 => rfl
  | j + 1 => by
    show pv (dg l) (l.length + j) + dg l (l.length + j) * P (l.length + j) = val l
    rw [pv_out l j, dg_out (by omega)]
    omega
theorem pv_ext {l : List Int} {n : Nat} (h : l.length ≤ n) : pv (dg l) n = val l := by
  have := pv_out l (n - l.length)
  rw [show l.length + (n - l.length) = n by omega] at this
  exact this
theorem pv_bd {f : Nat → Int} : ∀ n : Nat, (∀ k, k < n → Digit (f k)) → 0 ≤ pv f n ∧ pv f n < P n
  | 0, _ => by simp [pv, P]
  | n + 1, h => by
    obtain ⟨a, b⟩ := pv_bd n (fun k hk => h k (by omega))
    obtain ⟨c, d⟩ := h n (by omega)
    have hp := P_pos n
    have e := P_succ n
    have m0 := Int.mul_nonneg c (Int.le_of_lt hp)
    have m1 : f n * P n ≤ 65535 * P n := Int.mul_le_mul_of_nonneg_right d (Int.le_of_lt hp)
    simp only [pv]
    omega
theorem val_bd {l : List Int} (h : Good l) : 0 ≤ val l ∧ val l < P l.length := pv_bd _ fun k _ => h k

theorem dg_range (f : Nat → Int) (n k : Nat) (h : k < n) : dg ((List.range n).map f) k = f k := by
  unfold dg
  simp [List.getD_eq_getElem?_getD, h]
theorem val_range (f : Nat → Int) (n : Nat) : val ((List.range n).map f) = pv f n := by
  unfold val
  rw [List.length_map, List.length_range]
  exact pv_congr n fun k hk => dg_range f n k hk
theorem good_range {f : Nat → Int} {n : Nat} (h : ∀ k, k < n → Digit (f k)) : Good ((List.range n).map f) := by
  intro k
  by_cases hk : k < n
  · rw [dg_range f n k hk]; exact h k hk
  · rw [dg_out (by simp; omega)]; exact ⟨by omega, by omega⟩
theorem range_succ_map {α : Type} (f : Nat → α) (n : Nat) : (List.range (n + 1)).map f = (List.range n).map f ++ [f n] := by
  rw [List.range_succ, List.map_append]; rfl

/-! ### Sums -/
def sumC (A B : List Int) : Nat → Int
  | 0 => 0
  | k + 1 => (dg A k + dg B k + sumC A B k) / 65536
def sumD (A B : List Int) (k : Nat) : Int := (dg A k + dg B k + sumC A B k) % 65536
theorem sumC_bd {A B : List Int} (ha : Good A) (hb : Good B) : ∀ k, 0 ≤ sumC A B k ∧ sumC A B k ≤ 1
  | 0 => ⟨Int.le_refl _, by simp [sumC]⟩
  | k + 1 => by
    obtain ⟨c0, c1⟩ := sumC_bd ha hb k
    obtain ⟨a0, a1⟩ := ha k
    obtain ⟨b0, b1⟩ := hb k
    simp only [sumC]
    omega
theorem sum_inv (A B : List Int) : ∀ k, pv (sumD A B) k + sumC A B k * P k = pv (dg A) k + pv (dg B) k
  | 0 => by simp [pv, sumC]
  | k + 1 => by
    have h := sum_inv A B k
    have e := P_succ k
    simp only [pv, sumC]
    have d : sumD A B k + (dg A k + dg B k + sumC A B k) / 65536 * 65536 = dg A k + dg B k + sumC A B k := by unfold sumD; omega
    have d2 : (sumD A B k + (dg A k + dg B k + sumC A B k) / 65536 * 65536) * P k = (dg A k + dg B k + sumC A B k) * P k := by rw [d]
    rw [Int.add_mul, Int.add_mul, Int.add_mul, Int.mul_assoc, Int.mul_comm 65536 (P k), ← e] at d2
    omega
theorem sum_val {A B : List Int} (ha : Good A) (hb : Good B) {n : Nat} (h1 : A.length ≤ n) (h2 : B.length ≤ n) : val ((List.range (n + 1)).map (sumD A B)) = val A + val B := by
  have h := sum_inv A B (n + 1)
  have hc : sumC A B (n + 1) = 0 := by
    obtain ⟨c0, c1⟩ := sumC_bd ha hb n
    simp only [sumC]
    rw [dg_out h1, dg_out h2]
    omega
  rw [hc, pv_ext (by omega), pv_ext (by omega)] at h
  rw [val_range]
  omega
theorem sum_good {A B : List Int} {n : Nat} : Good ((List.range n).map (sumD A B)) := good_range fun k _ => by unfold sumD Digit; omega

/-! ### One number held against another -/
theorem pv_same {f g : Nat → Int} {n : Nat} : ∀ j : Nat, (∀ k, n ≤ k → k < n + j → f k = g k) → pv f (n + j) - pv f n = pv g (n + j) - pv g n
  | 0, _ => by simp
  | j + 1, h => by
    have := pv_same j (fun k a b => h k a (by omega))
    show pv f (n + j) + f (n + j) * P (n + j) - pv f n = pv g (n + j) + g (n + j) * P (n + j) - pv g n
    rw [h (n + j) (by omega) (by omega)]
    omega
theorem less_at {f g : Nat → Int} {i n : Nat} (hf : ∀ k, Digit (f k)) (hg : ∀ k, Digit (g k)) (hi : i < n) (heq : ∀ k, i < k → k < n → f k = g k) (h : f i < g i) : pv f n < pv g n := by
  have hs := pv_same (f := f) (g := g) (n := i + 1) (n - (i + 1)) (fun k a b => heq k (by omega) (by omega))
  rw [show i + 1 + (n - (i + 1)) = n by omega] at hs
  have hp := P_pos i
  obtain ⟨a0, a1⟩ := pv_bd i (fun k _ => hf k)
  obtain ⟨b0, b1⟩ := pv_bd i (fun k _ => hg k)
  have hm : (f i + 1) * P i ≤ g i * P i := Int.mul_le_mul_of_nonneg_right (by omega) (Int.le_of_lt hp)
  rw [Int.add_mul] at hm
  simp only [pv] at hs
  omega

/-! ### Differences -/
def minC (A B : List Int) : Nat → Int
  | 0 => 0
  | k + 1 => 1 - (65536 + dg A k - dg B k - minC A B k) / 65536
def minD (A B : List Int) (k : Nat) : Int := (65536 + dg A k - dg B k - minC A B k) % 65536
theorem minC_bd {A B : List Int} (ha : Good A) (hb : Good B) : ∀ k, 0 ≤ minC A B k ∧ minC A B k ≤ 1
  | 0 => ⟨Int.le_refl _, by simp [minC]⟩
  | k + 1 => by
    obtain ⟨c0, c1⟩ := minC_bd ha hb k
    obtain ⟨a0, a1⟩ := ha k
    obtain ⟨b0, b1⟩ := hb k
    simp only [minC]
    omega
theorem min_inv (A B : List Int) : ∀ k, pv (minD A B) k - minC A B k * P k = pv (dg A) k - pv (dg B) k
  | 0 => by simp [pv, minC]
  | k + 1 => by
    have h := min_inv A B k
    have e := P_succ k
    simp only [pv, minC]
    have d : minD A B k = 65536 + dg A k - dg B k - minC A B k - (65536 + dg A k - dg B k - minC A B k) / 65536 * 65536 := by unfold minD; omega
    generalize (65536 + dg A k - dg B k - minC A B k) / 65536 = q at d ⊢
    rw [d, e]
    simp only [Int.sub_mul, Int.add_mul]
    have e2 : q * 65536 * P k = q * (P k * 65536) := by rw [Int.mul_assoc, Int.mul_comm 65536]
    omega
theorem min_good {A B : List Int} {n : Nat} : Good ((List.range n).map (minD A B)) := good_range fun k _ => by unfold minD Digit; omega
theorem min_val {A B : List Int} (ha : Good A) (hb : Good B) {n : Nat} (h1 : A.length ≤ n) (h2 : B.length ≤ n) (h : val B ≤ val A) : val ((List.range n).map (minD A B)) = val A - val B := by
  have hi := min_inv A B n
  rw [pv_ext h1, pv_ext h2] at hi
  obtain ⟨c0, c1⟩ := minC_bd ha hb n
  have hp := P_pos n
  obtain ⟨d0, d1⟩ := pv_bd (f := minD A B) n (fun k _ => by unfold minD Digit; omega)
  rw [val_range]
  by_cases hc : minC A B n = 0
  · rw [hc] at hi
    omega
  · have : minC A B n = 1 := by omega
    rw [this] at hi
    omega

/-! ### 64 bits -/
theorem val_four {l : List Int} (h : l.length = 4) : val l = dg l 0 + dg l 1 * 65536 + dg l 2 * 4294967296 + dg l 3 * 281474976710656 := by
  unfold val
  rw [h]
  simp only [pv, P]
  omega
/-- Digits of no worth from 4 on: four digits make the number. -/
theorem val_low {l : List Int} (h : ∀ k, 4 ≤ k → k < l.length → dg l k = 0) : val l = dg l 0 + dg l 1 * 65536 + dg l 2 * 4294967296 + dg l 3 * 281474976710656 := by
  have h0 : ∀ k, 4 ≤ k → dg l k = 0 := fun k hk => by
    by_cases hl : k < l.length
    · exact h k hk hl
    · exact dg_out (by omega)
  have hs : ∀ j : Nat, pv (dg l) (4 + j) = pv (dg l) 4 := by
    intro j
    induction j with
    | zero => rfl
    | succ j ih =>
      show pv (dg l) (4 + j) + dg l (4 + j) * P (4 + j) = _
      rw [ih, h0 (4 + j) (by omega)]
      omega
  have e4 : pv (dg l) 4 = dg l 0 + dg l 1 * 65536 + dg l 2 * 4294967296 + dg l 3 * 281474976710656 := by
    simp only [pv, P]
    omega
  rw [← e4, ← hs l.length, pv_ext (by omega)]
theorem val_high {l : List Int} (hg : Good l) {i : Nat} (h4 : 4 ≤ i) (hi : i < l.length) (h : 0 < dg l i) : ¬ val l ≤ 18446744073709551615 := by
  have hl := less_at (f := fun k => if k < 4 then 65535 else 0) (g := dg l) (i := i) (n := i + 1) (fun k => by unfold Digit; split <;> omega) hg (by omega) (fun k a b => by omega) (by rw [if_neg (by omega)]; exact h)
  have e4 : ∀ j : Nat, pv (fun k => if k < 4 then (65535 : Int) else 0) (4 + j) = 18446744073709551615 := by
    intro j
    induction j with
    | zero => simp [pv, P]
    | succ j ih =>
      show pv _ (4 + j) + (if 4 + j < 4 then (65535 : Int) else 0) * P (4 + j) = _
      rw [ih, if_neg (by omega)]
      omega
  have e5 := e4 (i + 1 - 4)
  rw [show 4 + (i + 1 - 4) = i + 1 by omega] at e5
  rw [e5] at hl
  have hm : ∀ j : Nat, pv (dg l) (i + 1) ≤ pv (dg l) (i + 1 + j) := by
    intro j
    induction j with
    | zero => exact Int.le_refl _
    | succ j ih =>
      show _ ≤ pv (dg l) (i + 1 + j) + dg l (i + 1 + j) * P (i + 1 + j)
      have := Int.mul_nonneg (hg (i + 1 + j)).1 (Int.le_of_lt (P_pos (i + 1 + j)))
      omega
  have h1 := hm (l.length - (i + 1))
  rw [show i + 1 + (l.length - (i + 1)) = l.length by omega] at h1
  have : val l = pv (dg l) l.length := rfl
  omega

/-! ### Products -/
def mulC (A : List Int) (d : Int) : Nat → Int
  | 0 => 0
  | k + 1 => (dg A k * d + mulC A d k) / 65536
def mulD (A : List Int) (d : Int) (k : Nat) : Int := (dg A k * d + mulC A d k) % 65536
theorem mul_digit {a d : Int} (ha : Digit a) (hd : Digit d) : 0 ≤ a * d ∧ a * d ≤ 4294836225 := by
  obtain ⟨a0, a1⟩ := ha
  obtain ⟨d0, d1⟩ := hd
  exact ⟨Int.mul_nonneg a0 d0, Int.mul_le_mul a1 d1 d0 (by omega)⟩
theorem mulC_bd {A : List Int} {d : Int} (ha : Good A) (hd : Digit d) : ∀ k, Digit (mulC A d k)
  | 0 => ⟨Int.le_refl _, by simp [mulC]⟩
  | k + 1 => by
    obtain ⟨c0, c1⟩ := mulC_bd ha hd k
    obtain ⟨m0, m1⟩ := mul_digit (ha k) hd
    unfold Digit
    simp only [mulC]
    omega
theorem mul_inv (A : List Int) (d : Int) : ∀ k, pv (mulD A d) k + mulC A d k * P k = pv (dg A) k * d
  | 0 => by simp [pv, mulC]
  | k + 1 => by
    have h := mul_inv A d k
    have e := P_succ k
    simp only [pv, mulC]
    have d0 : mulD A d k = dg A k * d + mulC A d k - (dg A k * d + mulC A d k) / 65536 * 65536 := by unfold mulD; omega
    generalize (dg A k * d + mulC A d k) / 65536 = q at d0 ⊢
    rw [d0, e]
    simp only [Int.sub_mul, Int.add_mul]
    have e2 : q * 65536 * P k = q * (P k * 65536) := by rw [Int.mul_assoc, Int.mul_comm 65536]
    have e3 : dg A k * P k * d = dg A k * d * P k := Int.mul_right_comm _ _ _
    omega
def rowF (A : List Int) (d : Int) (i j : Nat) : Int := if j < i then 0 else mulD A d (j - i)
theorem row_low (A : List Int) (d : Int) (i : Nat) : ∀ j, j ≤ i → pv (rowF A d i) j = 0
  | 0, _ => rfl
  | j + 1, h => by
    simp only [pv]
    rw [row_low A d i j (by omega)]
    unfold rowF
    rw [if_pos (by omega)]
    omega
theorem row_pv (A : List Int) (d : Int) (i : Nat) : ∀ k, pv (rowF A d i) (i + k) = P i * pv (mulD A d) k
  | 0 => by
    rw [Nat.add_zero, row_low A d i i (Nat.le_refl _)]
    simp [pv]
  | k + 1 => by
    show pv (rowF A d i) (i + k) + rowF A d i (i + k) * P (i + k) = _
    rw [row_pv A d i k, P_add]
    have e : rowF A d i (i + k) = mulD A d k := by
      unfold rowF
      rw [if_neg (by omega), show i + k - i = k by omega]
    rw [e]
    simp only [pv]
    rw [Int.mul_add, Int.mul_left_comm]
theorem row_digit (A : List Int) (d : Int) (i j : Nat) : Digit (rowF A d i j) := by
  unfold rowF mulD Digit
  split <;> omega
theorem dg_append_lo {l m : List Int} {k : Nat} (h : k < l.length) : dg (l ++ m) k = dg l k := by
  unfold dg
  simp [List.getD_eq_getElem?_getD, List.getElem?_append_left h]
theorem dg_append_at (l : List Int) (c : Int) : dg (l ++ [c]) l.length = c := by
  unfold dg
  simp [List.getD_eq_getElem?_getD]
theorem val_snoc (l : List Int) (c : Int) : val (l ++ [c]) = val l + c * P l.length := by
  unfold val
  rw [List.length_append, List.length_singleton]
  simp only [pv]
  rw [dg_append_at, pv_congr l.length fun k hk => dg_append_lo hk]
theorem good_snoc {l : List Int} {c : Int} (hl : Good l) (hc : Digit c) : Good (l ++ [c]) := by
  intro k
  by_cases h : k < l.length
  · rw [dg_append_lo h]; exact hl k
  · by_cases e : k = l.length
    · subst e; rw [dg_append_at]; exact hc
    · rw [dg_out (by simp; omega)]; exact ⟨by omega, by omega⟩
theorem row_val (A : List Int) (d : Int) (i : Nat) : val ((List.range (i + A.length)).map (rowF A d i) ++ [mulC A d A.length]) = P i * (val A * d) := by
  rw [val_snoc, val_range, row_pv, List.length_map, List.length_range, P_add]
  have h := mul_inv A d A.length
  have e : pv (dg A) A.length = val A := rfl
  rw [e] at h
  rw [← h, Int.mul_add, Int.mul_left_comm (P i)]
theorem row_zero (A : List Int) (d : Int) (i : Nat) : List.replicate i (Value.int .u64 0) = ((List.range (i + 0)).map (rowF A d i)).map (Value.int .u64) := by
  refine List.ext_getElem (by simp) fun n h1 h2 => ?_
  simp at h1
  simp [rowF, h1]
end Go.Proofs.Ytaohihfhgialnaa
