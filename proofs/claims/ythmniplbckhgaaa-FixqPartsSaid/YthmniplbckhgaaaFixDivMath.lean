/-
  Plain arithmetic of a division of 128 bits by 64, half a word at a time. No program in sight.
-/
import Derived.Test.YthmniplbckhgaaaFixMath
namespace Go.Proofs.Ythmniplbckhgaaa

/-- What holds at the head of the loop that lowers a guessed digit q with its rest r. -/
def DivInv (u u1 y0 y1 q r : Int) : Prop := u = q * y1 + r ∧ 0 ≤ r ∧ r ≤ 4294967295 ∧ (u * 4294967296 + u1) / (y1 * 4294967296 + y0) ≤ q ∧ q ≤ 4294967297
/-- What holds of the numbers that the loop leaves alone. -/
def DivPre (u u1 y0 y1 : Int) : Prop := 0 ≤ u ∧ u < y1 * 4294967296 + y0 ∧ 0 ≤ u1 ∧ u1 ≤ 4294967295 ∧ 0 ≤ y0 ∧ y0 ≤ 4294967295 ∧ 2147483648 ≤ y1 ∧ y1 ≤ 4294967295

theorem dig_nonneg {u u1 y0 y1 : Int} (h : DivPre u u1 y0 y1) : 0 ≤ (u * 4294967296 + u1) / (y1 * 4294967296 + y0) := by
  obtain ⟨h1, h2, h3, h4, h5, h6, h7, h8⟩ := h
  exact Int.ediv_nonneg (by omega) (by omega)
theorem dig_lt {u u1 y0 y1 : Int} (h : DivPre u u1 y0 y1) : (u * 4294967296 + u1) / (y1 * 4294967296 + y0) ≤ 4294967295 := by
  obtain ⟨h1, h2, h3, h4, h5, h6, h7, h8⟩ := h
  have : (u * 4294967296 + u1) / (y1 * 4294967296 + y0) < 4294967296 := Int.ediv_lt_of_lt_mul (by omega) (by omega)
  omega
/-- q * (y1 * B + y0) against u * B + u1, where u = q * y1 + r. -/
theorem dig_split {u u1 y0 y1 q r : Int} (e : u = q * y1 + r) : q * (y1 * 4294967296 + y0) - (u * 4294967296 + u1) = q * y0 - (4294967296 * r + u1) := by
  have h := Int.mul_add q (y1 * 4294967296) y0
  have h2 := Int.mul_assoc q y1 4294967296
  rw [h, ← h2, e]
  omega
theorem dig_over {u u1 y0 y1 q r : Int} (hp : DivPre u u1 y0 y1) (hi : DivInv u u1 y0 y1 q r) (h : 4294967296 ≤ q ∨ 4294967296 * r + u1 < q * y0) : (u * 4294967296 + u1) / (y1 * 4294967296 + y0) ≤ q - 1 := by
  rcases h with h | h
  · have := dig_lt hp
    omega
  · have e := dig_split (u1 := u1) (y0 := y0) hi.1
    have : (u * 4294967296 + u1) / (y1 * 4294967296 + y0) < q := Int.ediv_lt_of_lt_mul (by have := hp.2.2.2.2.1; have := hp.2.2.2.2.2.2.1; omega) (by omega)
    omega
theorem dig_under {u u1 y0 y1 q r : Int} (hp : DivPre u u1 y0 y1) (e1 : u = q * y1 + r) (hl : (u * 4294967296 + u1) / (y1 * 4294967296 + y0) ≤ q) (h : q * y0 ≤ 4294967296 * r + u1) : q = (u * 4294967296 + u1) / (y1 * 4294967296 + y0) := by
  have e := dig_split (u1 := u1) (y0 := y0) e1
  have : q ≤ (u * 4294967296 + u1) / (y1 * 4294967296 + y0) := Int.le_ediv_of_mul_le (by have := hp.2.2.2.2.1; have := hp.2.2.2.2.2.2.1; omega) (by omega)
  omega
/-- The digit is right where the loop breaks: the rest has grown to half a word. -/
theorem dig_break {u u1 y0 y1 q r : Int} (hp : DivPre u u1 y0 y1) (hi : DivInv u u1 y0 y1 q r) (h : 4294967296 ≤ q ∨ 4294967296 * r + u1 < q * y0) (hb : 4294967296 ≤ r + y1) : q - 1 = (u * 4294967296 + u1) / (y1 * 4294967296 + y0) := by
  have hl := dig_over hp hi h
  obtain ⟨e, r0, r1, hq, hq2⟩ := hi
  refine dig_under (r := r + y1) hp (by rw [Int.sub_mul, e]; omega) hl ?_
  have h0 := dig_nonneg hp
  obtain ⟨h1, h2, h3, h4, h5, h6, h7, h8⟩ := hp
  have hm : (q - 1) * y0 ≤ 4294967296 * 4294967295 := Int.mul_le_mul (by omega) h6 h5 (by omega)
  omega
theorem dig_step {u u1 y0 y1 q r : Int} (hp : DivPre u u1 y0 y1) (hi : DivInv u u1 y0 y1 q r) (h : 4294967296 ≤ q ∨ 4294967296 * r + u1 < q * y0) (hb : ¬ 4294967296 ≤ r + y1) : DivInv u u1 y0 y1 (q - 1) (r + y1) := by
  have hl := dig_over hp hi h
  obtain ⟨e, r0, r1, hq, hq2⟩ := hi
  obtain ⟨h1, h2, h3, h4, h5, h6, h7, h8⟩ := hp
  exact ⟨by rw [Int.sub_mul, e]; omega, by omega, by omega, hl, by omega⟩
theorem dig_start {u u1 y0 y1 : Int} (hp : DivPre u u1 y0 y1) : DivInv u u1 y0 y1 (u / y1) (u - u / y1 * y1) := by
  obtain ⟨h1, h2, h3, h4, h5, h6, h7, h8⟩ := hp
  have hm := Int.emod_nonneg u (show y1 ≠ 0 by omega)
  have hm2 := Int.emod_lt_of_pos u (show 0 < y1 by omega)
  have hd := Int.mul_ediv_add_emod u y1
  have hc := Int.mul_comm (u / y1) y1
  have hq0 : 0 ≤ u / y1 := Int.ediv_nonneg h1 (by omega)
  refine ⟨by omega, by omega, by omega, ?_, ?_⟩
  · have e : u = u / y1 * y1 + (u - u / y1 * y1) := by omega
    have e2 := dig_split (u1 := u1) (y0 := y0) e
    have hy : 0 ≤ u / y1 * y0 := Int.mul_nonneg hq0 h5
    have : (u * 4294967296 + u1) / (y1 * 4294967296 + y0) < u / y1 + 1 := Int.ediv_lt_of_lt_mul (by omega) (by
      rw [Int.add_mul]
      omega)
    omega
  · have : u / y1 < 4294967298 := Int.ediv_lt_of_lt_mul (by omega) (by omega)
    omega
theorem dig_times {u u1 y0 y1 q r : Int} (hp : DivPre u u1 y0 y1) (hi : DivInv u u1 y0 y1 q r) (h : q ≤ 4294967295) : 0 ≤ q * y0 ∧ q * y0 ≤ 18446744065119617025 := by
  have h0 := dig_nonneg hp
  obtain ⟨e, r0, r1, hq, hq2⟩ := hi
  obtain ⟨h1, h2, h3, h4, h5, h6, h7, h8⟩ := hp
  exact ⟨Int.mul_nonneg (by omega) h5, Int.mul_le_mul h h6 h5 (by omega)⟩

theorem div_main {N y P Q R' : Int} (hP : 0 < P) (h : N * P = Q * (y * P) + R') (h0 : 0 ≤ R') (h1 : R' < y * P) : Q = N / y ∧ R' / P = N % y := by
  have e : (N - Q * y) * P = R' := by
    rw [Int.sub_mul, h, Int.mul_assoc]
    omega
  have e2 : R' / P = N - Q * y := by rw [← e]; exact Int.mul_ediv_cancel _ (by omega)
  have d0 : 0 ≤ N - Q * y := by rw [← e2]; exact Int.ediv_nonneg h0 (by omega)
  have d1 : N - Q * y < y := by
    rw [← e] at h1
    exact Int.lt_of_mul_lt_mul_right h1 (by omega)
  have hc := Int.mul_comm Q y
  have u := (Int.ediv_emod_unique (a := N) (b := y) (r := N - Q * y) (q := Q) (by omega)).2 ⟨by omega, d0, d1⟩
  exact ⟨u.1.symm, by rw [e2, u.2]⟩

/-- The whole division: the digits Q1, Q0 of N * P by Y = y * P, N = hi * 2^64 + lo. -/
structure DivNums (hi lo y P u L : Int) : Prop where
  hP : 0 < P
  hY0 : 9223372036854775808 ≤ y * P
  hY1 : y * P ≤ 18446744073709551615
  hu : 0 ≤ u
  hL0 : 0 ≤ L
  hL1 : L ≤ 18446744073709551615
  hN : wid hi lo * P = u * 18446744073709551616 + L
  hlt : wid hi lo < y * 18446744073709551616

variable {hi lo y P u L : Int}
theorem DivNums.ult (h : DivNums hi lo y P u L) : u < y * P := by
  obtain ⟨a, b, c, d, e, f, g, i⟩ := h
  have := Int.mul_lt_mul_of_pos_right i a
  have e2 : y * 18446744073709551616 * P = y * P * 18446744073709551616 := by rw [Int.mul_assoc, Int.mul_comm 18446744073709551616 P, ← Int.mul_assoc]
  omega
theorem DivNums.yy (_h : DivNums hi lo y P u L) : y * P / 4294967296 * 4294967296 + y * P % 4294967296 = y * P := by omega
theorem DivNums.pre1 (h : DivNums hi lo y P u L) : DivPre u (L / 4294967296) (y * P % 4294967296) (y * P / 4294967296) := by
  have hu := h.ult
  obtain ⟨a, b, c, d, e, f, g, i⟩ := h
  exact ⟨d, by omega, by omega, by omega, by omega, by omega, by omega, by omega⟩
theorem DivNums.pre2 (h : DivNums hi lo y P u L) : DivPre ((u * 4294967296 + L / 4294967296) % (y * P)) (L % 4294967296) (y * P % 4294967296) (y * P / 4294967296) := by
  obtain ⟨a, b, c, d, e, f, g, i⟩ := h
  have m0 := Int.emod_nonneg (u * 4294967296 + L / 4294967296) (show y * P ≠ 0 by omega)
  have m1 := Int.emod_lt_of_pos (u * 4294967296 + L / 4294967296) (show 0 < y * P by omega)
  exact ⟨m0, by omega, by omega, by omega, by omega, by omega, by omega, by omega⟩
/-- A rest of 64 bits is reckoned rightly although what it is taken from goes round. -/
theorem rest_wrap {u u1 Y Q : Int} (hY0 : 0 < Y) (hY1 : Y ≤ 18446744073709551615) (hQ : (u * 4294967296 + u1) / Y = Q) :
    (((u * 4294967296) % 18446744073709551616 + u1) % 18446744073709551616 - (Q * Y) % 18446744073709551616) % 18446744073709551616 = (u * 4294967296 + u1) % Y := by
  have m0 := Int.emod_nonneg (u * 4294967296 + u1) (show Y ≠ 0 by omega)
  have m1 := Int.emod_lt_of_pos (u * 4294967296 + u1) hY0
  have hd := Int.mul_ediv_add_emod (u * 4294967296 + u1) Y
  have hc := Int.mul_comm Q Y
  rw [hQ] at hd
  omega
theorem DivNums.fin (h : DivNums hi lo y P u L) {Q1 Q0 v : Int} (h1 : (u * 4294967296 + L / 4294967296) / (y * P) = Q1) (hv : (u * 4294967296 + L / 4294967296) % (y * P) = v) (h0 : (v * 4294967296 + L % 4294967296) / (y * P) = Q0) :
    Q1 * 4294967296 + Q0 = wid hi lo / y ∧ (v * 4294967296 + L % 4294967296) % (y * P) / P = wid hi lo % y := by
  obtain ⟨a, b, c, d, e, f, g, i⟩ := h
  refine div_main a ?_ (Int.emod_nonneg _ (by omega)) (Int.emod_lt_of_pos _ (by omega))
  have d1 := Int.mul_ediv_add_emod (u * 4294967296 + L / 4294967296) (y * P)
  have d0 := Int.mul_ediv_add_emod (v * 4294967296 + L % 4294967296) (y * P)
  rw [h1, hv] at d1
  rw [h0] at d0
  have c1 := Int.mul_comm (y * P) Q1
  have c0 := Int.mul_comm (y * P) Q0
  rw [g, Int.add_mul]
  have c2 : Q1 * 4294967296 * (y * P) = Q1 * (y * P) * 4294967296 := by rw [Int.mul_assoc, Int.mul_comm 4294967296, ← Int.mul_assoc]
  omega
end Go.Proofs.Ythmniplbckhgaaa
