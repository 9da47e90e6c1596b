/-
  Sets of small numbers, as bits of plain whole numbers. No program.
-/
import Derived.Laws.Bits64
import Derived.Laws.Bits64b
import Derived.WalkKit
namespace Go.Proofs.YtppdjdlnaohkiaaDoor

/-- May i be in a set? -/
def okI (i : Int) : Bool := decide (0 ≤ i ∧ i < 64)
def hasN (s : Nat) (i : Int) : Bool := okI i && s.testBit i.toNat
def withN (s : Nat) (i : Int) : Nat := if okI i then s ||| 2 ^ i.toNat else s
def withoutN (s : Nat) (i : Int) : Nat := if hasN s i then s ^^^ 2 ^ i.toNat else s
def listN (s : Nat) : List Int := ((List.range 64).filter fun k => s.testBit k).map fun k : Nat => (k : Int)

theorem add_bit_or {s k : Nat} (h : s.testBit k = false) : s + 2 ^ k = s ||| 2 ^ k := by
  have e : s &&& 2 ^ k = 0 := by
    refine Nat.eq_of_testBit_eq fun j => ?_
    rw [Nat.testBit_and, Nat.testBit_two_pow, Nat.zero_testBit]
    by_cases hj : k = j
    · subst hj; simp [h]
    · simp [hj]
  have hs := Nat.lt_two_pow_self (n := s)
  have hk := Nat.lt_two_pow_self (n := k)
  have hb : BitVec.ofNat (s + k + 2) s + BitVec.ofNat (s + k + 2) (2 ^ k) = BitVec.ofNat (s + k + 2) s ||| BitVec.ofNat (s + k + 2) (2 ^ k) := by
    refine BitVec.add_eq_or_of_and_eq_zero _ _ ?_
    rw [← BitVec.ofNat_and, e]
  have h1 : s < 2 ^ (s + k) := Nat.lt_of_lt_of_le hs (Nat.pow_le_pow_right (by decide) (by omega))
  have h2 : 2 ^ k ≤ 2 ^ (s + k) := Nat.pow_le_pow_right (by decide) (by omega)
  have h3 : 2 ^ (s + k + 2) = 2 ^ (s + k) * 4 := by rw [Nat.pow_add]
  have h4 := congrArg BitVec.toNat hb
  rw [BitVec.toNat_add, BitVec.toNat_or, BitVec.toNat_ofNat, BitVec.toNat_ofNat, Nat.mod_eq_of_lt (a := s) (by omega), Nat.mod_eq_of_lt (a := 2 ^ k) (by omega), Nat.mod_eq_of_lt (by omega)] at h4
  exact h4
theorem sub_bit_xor {s k : Nat} (h : s.testBit k = true) : s - 2 ^ k = s ^^^ 2 ^ k ∧ 2 ^ k ≤ s := by
  have h0 : (s ^^^ 2 ^ k).testBit k = false := by rw [Nat.testBit_xor, Nat.testBit_two_pow, h]; simp
  have h1 := add_bit_or h0
  have h2 : (s ^^^ 2 ^ k) ||| 2 ^ k = s := by
    refine Nat.eq_of_testBit_eq fun j => ?_
    rw [Nat.testBit_or, Nat.testBit_xor, Nat.testBit_two_pow]
    by_cases hj : k = j
    · subst hj; simp [h]
    · simp [hj]
  rw [h2] at h1
  omega

theorem withN_lt {s : Nat} {i : Int} (h : s < 18446744073709551616) : withN s i < 18446744073709551616 := by
  unfold withN
  split
  · rename_i hi
    simp [okI] at hi
    exact Nat.or_lt_two_pow (n := 64) h (Nat.pow_lt_pow_right (by decide) (by omega))
  · exact h
theorem withoutN_lt {s : Nat} {i : Int} (h : s < 18446744073709551616) : withoutN s i < 18446744073709551616 := by
  unfold withoutN
  split
  · rename_i hi
    simp [hasN, okI] at hi
    exact Nat.xor_lt_two_pow (n := 64) h (Nat.pow_lt_pow_right (by decide) (by omega))
  · exact h
theorem bit_with (s : Nat) (i : Int) (k : Nat) : (withN s i).testBit k = (s.testBit k || (okI i && decide (i.toNat = k))) := by
  unfold withN
  split
  · rename_i hi
    rw [Nat.testBit_or, Nat.testBit_two_pow, hi, Bool.true_and]
  · rename_i hi
    simp at hi
    simp [hi]
theorem bit_without (s : Nat) (i : Int) (k : Nat) : (withoutN s i).testBit k = (s.testBit k && !(okI i && decide (i.toNat = k))) := by
  unfold withoutN
  by_cases h : hasN s i = true
  · rw [if_pos h, Nat.testBit_xor, Nat.testBit_two_pow]
    simp only [hasN, Bool.and_eq_true] at h
    by_cases hk : i.toNat = k
    · subst hk; simp [h.1, h.2]
    · simp [hk]
  · rw [if_neg h]
    simp only [hasN, Bool.and_eq_true, not_and] at h
    by_cases ho : okI i = true
    · have := h ho
      by_cases hk : i.toNat = k
      · subst hk; simp_all
      · simp [hk]
    · simp at ho; simp [ho]
theorem has_with (s : Nat) (i k : Int) : hasN (withN s i) k = (hasN s k || (okI k && decide (i = k))) := by
  unfold hasN
  rw [bit_with]
  by_cases hk : okI k = true
  · rw [hk]
    simp only [Bool.true_and]
    by_cases hi : okI i = true
    · rw [hi]
      simp [okI] at hi hk
      by_cases e : i = k
      · subst e; simp
      · have : ¬ i.toNat = k.toNat := by omega
        simp [e, this]
    · have e : ¬ i = k := fun e => hi (e ▸ hk)
      simp at hi
      simp [hi, e]
  · simp at hk; simp [hk]
theorem has_without (s : Nat) (i k : Int) : hasN (withoutN s i) k = (hasN s k && !decide (i = k)) := by
  unfold hasN
  rw [bit_without]
  by_cases hk : okI k = true
  · rw [hk]
    simp only [Bool.true_and]
    by_cases hi : okI i = true
    · rw [hi]
      simp [okI] at hi hk
      by_cases e : i = k
      · subst e; simp
      · have : ¬ i.toNat = k.toNat := by omega
        simp [e, this]
    · have e : ¬ i = k := fun e => hi (e ▸ hk)
      simp at hi
      simp [hi, e]
  · simp at hk; simp [hk]
/-- All of a in b. -/
def withinN (a b : Nat) : Bool := decide (a &&& b = a)
theorem within_bits {a b : Nat} (h : ∀ k, a.testBit k = true → b.testBit k = true) : withinN a b = true := by
  unfold withinN
  rw [decide_eq_true_eq]
  refine Nat.eq_of_testBit_eq fun k => ?_
  rw [Nat.testBit_and]
  cases ha : a.testBit k with
  | false => rfl
  | true => rw [h k ha]; rfl
theorem without_within (s : Nat) (i : Int) : withinN (withoutN s i) s = true := within_bits fun k h => by rw [bit_without] at h; simp at h; exact h.1
theorem within_with (s : Nat) (i : Int) : withinN s (withN s i) = true := within_bits fun k h => by rw [bit_with, h]; rfl
theorem without_with (s : Nat) (i : Int) : withoutN (withN s i) i = withoutN s i := by
  refine Nat.eq_of_testBit_eq fun k => ?_
  rw [bit_without, bit_with, bit_without]
  cases s.testBit k <;> cases (okI i && decide (i.toNat = k)) <;> rfl
theorem with_without (s : Nat) (i : Int) : withN (withoutN s i) i = withN s i := by
  refine Nat.eq_of_testBit_eq fun k => ?_
  rw [bit_with, bit_without, bit_with]
  cases s.testBit k <;> cases (okI i && decide (i.toNat = k)) <;> rfl
end Go.Proofs.YtppdjdlnaohkiaaDoor
