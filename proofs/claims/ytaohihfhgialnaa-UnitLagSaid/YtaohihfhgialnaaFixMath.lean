/-
  Plain arithmetic for numbers of 64 bits: words, the two halves of a product of 128 bits, order, distance. No program in sight.
-/
import Derived.Below
namespace Go.Proofs.Ytaohihfhgialnaa

/-- A number of 64 bits, from 0 on. -/
def Word (x : Int) : Prop := 0 ≤ x ∧ x ≤ 18446744073709551615
theorem Word.lo {x : Int} (h : Word x) : 0 ≤ x := h.1
theorem Word.hi {x : Int} (h : Word x) : x ≤ 18446744073709551615 := h.2

/-- The upper and the lower 64 bits. -/
def hiW (x : Int) : Int := x / 18446744073709551616
def loW (x : Int) : Int := x % 18446744073709551616
theorem loW_word (x : Int) : Word (loW x) := by unfold loW Word; omega
theorem mul_bd {a b : Int} (ha : Word a) (hb : Word b) : 0 ≤ a * b ∧ a * b ≤ 340282366920938463426481119284349108225 := by
  obtain ⟨a0, a1⟩ := ha
  obtain ⟨b0, b1⟩ := hb
  refine ⟨Int.mul_nonneg a0 b0, ?_⟩
  have h := Int.mul_le_mul a1 b1 b0 (by omega)
  omega
theorem hiW_word {a b : Int} (ha : Word a) (hb : Word b) : Word (hiW (a * b)) := by
  obtain ⟨h0, h1⟩ := mul_bd ha hb
  unfold hiW Word; omega
/-- The number that two halves make. -/
def wid (h l : Int) : Int := h * 18446744073709551616 + l
theorem wid_hl (x : Int) : wid (hiW x) (loW x) = x := by unfold wid hiW loW; omega

/-- Two numbers held against each other. -/
def ordW (x y : Int) : Int := if x < y then -1 else if y < x then 1 else 0
theorem ordW_lt {x y : Int} (h : x < y) : ordW x y = -1 := by unfold ordW; rw [if_pos h]
theorem ordW_gt {x y : Int} (h : y < x) : ordW x y = 1 := by unfold ordW; rw [if_neg (by omega), if_pos h]
theorem ordW_eq {x y : Int} (h : x = y) : ordW x y = 0 := by unfold ordW; rw [if_neg (by omega), if_neg (by omega)]
theorem ordW_ge {x y : Int} (h : ¬ x < y) : 0 ≤ ordW x y := by unfold ordW; rw [if_neg h]; split <;> omega
theorem ordW_le {x y : Int} : ordW x y ≤ 0 ↔ x ≤ y := by unfold ordW; split <;> (try split) <;> omega
theorem ordW_swap (x y : Int) : ordW y x = -(ordW x y) := by unfold ordW; split <;> split <;> (try split) <;> omega
/-- The distance. -/
def dist (x y : Int) : Int := if x < y then y - x else x - y

/-- What is borrowed when y is taken from x. -/
def borW (x y : Int) : Int := -(hiW (x - y))
theorem borW_bd {x y : Int} (hx : Word x) (hy : Word y) : 0 ≤ borW x y ∧ borW x y ≤ 1 := by
  obtain ⟨a, b⟩ := hx
  obtain ⟨c, d⟩ := hy
  unfold borW hiW; omega
theorem ordW_same (h l m : Int) : ordW (wid h l) (wid h m) = ordW l m := by
  unfold ordW wid
  by_cases a : l < m
  · rw [if_pos a, if_pos (by omega)]
  · by_cases b : m < l
    · rw [if_neg a, if_pos b, if_neg (by omega), if_pos (by omega)]
    · rw [if_neg a, if_neg b, if_neg (by omega), if_neg (by omega)]
theorem ordW_high {h k l m : Int} (hk : h ≠ k) (hl : Word l) (hm : Word m) : ordW (wid h l) (wid k m) = ordW h k := by
  obtain ⟨a, b⟩ := hl
  obtain ⟨c, d⟩ := hm
  unfold ordW wid
  by_cases a : h < k
  · rw [if_pos a, if_pos (by omega)]
  · rw [if_neg (by omega), if_pos (by omega), if_neg (by omega), if_pos (by omega)]
/-- The distance, half by half. -/
theorem apart_low {xh xl yh yl : Int} (h : wid yh yl ≤ wid xh xl) : loW (xl - yl) = loW (dist (wid xh xl) (wid yh yl)) := by
  unfold dist
  rw [if_neg (by omega)]
  unfold wid loW; omega
theorem apart_high {xh xl yh yl : Int} (h1 : Word xh) (h2 : Word xl) (h3 : Word yh) (h4 : Word yl) (h : wid yh yl ≤ wid xh xl) : loW (xh - yh - borW xl yl) = hiW (dist (wid xh xl) (wid yh yl)) := by
  unfold dist
  rw [if_neg (by omega)]
  obtain ⟨a0, a1⟩ := h1
  obtain ⟨b0, b1⟩ := h2
  obtain ⟨c0, c1⟩ := h3
  obtain ⟨d0, d1⟩ := h4
  unfold wid at *
  unfold borW loW hiW; omega
theorem dist_comm (x y : Int) : dist x y = dist y x := by unfold dist; split <;> split <;> omega
theorem dist_bd {xh xl yh yl : Int} (h1 : Word xh) (h2 : Word xl) (h3 : Word yh) (h4 : Word yl) : Word (hiW (dist (wid xh xl) (wid yh yl))) := by
  obtain ⟨a0, a1⟩ := h1
  obtain ⟨b0, b1⟩ := h2
  obtain ⟨c0, c1⟩ := h3
  obtain ⟨d0, d1⟩ := h4
  unfold dist wid hiW Word; split <;> omega

theorem dist_nonneg (x y : Int) : 0 ≤ dist x y := by unfold dist; split <;> omega
/-- What is beyond 64 bits is the greatest number, with error 2. -/
def satV (x : Int) : Int := if x ≤ 18446744073709551615 then x else 18446744073709551615
def satE (x : Int) : Int := if x ≤ 18446744073709551615 then 0 else 2
theorem satV_fit {x : Int} (h : x ≤ 18446744073709551615) : satV x = x := if_pos h
theorem satE_fit {x : Int} (h : x ≤ 18446744073709551615) : satE x = 0 := if_pos h
theorem satV_big {x : Int} (h : ¬ x ≤ 18446744073709551615) : satV x = 18446744073709551615 := if_neg h
theorem satE_big {x : Int} (h : ¬ x ≤ 18446744073709551615) : satE x = 2 := if_neg h
theorem satV_word {x : Int} (h : 0 ≤ x) : Word (satV x) := by unfold satV Word; split <;> omega
def subV (a b : Int) : Int := if a < b then 0 else a - b
def subE (a b : Int) : Int := if a < b then 2 else 0
def divV (x c : Int) : Int := if c = 0 then 0 else satV (x / c)
def divE (x c : Int) : Int := if c = 0 then 1 else satE (x / c)
def modV (x c : Int) : Int := if c = 0 then 0 else x % c
def modE (c : Int) : Int := if c = 0 then 1 else 0
def cmpV (a b c d : Int) : Int := if b = 0 ∨ d = 0 then 0 else ordW (a * d) (c * b)
def cmpE (b d : Int) : Int := if b = 0 ∨ d = 0 then 1 else 0

/-- Whether a times all is apart from w times t by at most k times all. -/
def nearB (a w t all k : Int) : Bool := decide (dist (a * all) (w * t) ≤ k * all)
end Go.Proofs.Ytaohihfhgialnaa
