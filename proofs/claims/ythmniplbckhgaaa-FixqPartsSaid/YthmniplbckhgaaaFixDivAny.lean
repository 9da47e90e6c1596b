/-
  bits.Div64 and bits.Rem64, at every argument at which they return.
-/
import Derived.Test.YthmniplbckhgaaaFixDiv
import Derived.Lib.ItoaNum
namespace Go.Proofs.Ythmniplbckhgaaa
open Go.RowKit Go.Shelf

/-- What the division goes on from: y moved up by its leading zeros. -/
theorem div_nums (H l n k b : Nat) (hH : H < n) (hl : l < 18446744073709551616) (hk : k + b = 64) (hb : 1 ≤ b) (h1 : 2 ^ (b - 1) ≤ n) (h2 : n < 2 ^ b) :
    DivNums (H : Int) (l : Int) (n : Int) ((2 ^ k : Nat) : Int) ((H * 2 ^ k + l / 2 ^ b : Nat) : Int) ((l * 2 ^ k % 18446744073709551616 : Nat) : Int) ∧ l / 2 ^ b < 2 ^ k ∧ H * 2 ^ k < 18446744073709551616 := by
  have hT : 2 ^ k * 2 ^ b = 18446744073709551616 := by rw [← Nat.pow_add, hk]
  have hT2 : 2 ^ k * 2 ^ (b - 1) = 9223372036854775808 := by rw [← Nat.pow_add, show k + (b - 1) = 63 by omega]
  have hP : 0 < 2 ^ k := Nat.two_pow_pos k
  have hB : 0 < 2 ^ b := Nat.two_pow_pos b
  have q1 : 2 ^ k * 2 ^ (b - 1) ≤ 2 ^ k * n := Nat.mul_le_mul_left _ h1
  have q2 : 2 ^ k * n < 2 ^ k * 2 ^ b := (Nat.mul_lt_mul_left hP).2 h2
  have q3 : (H + 1) * 2 ^ k ≤ n * 2 ^ k := Nat.mul_le_mul_right _ hH
  rw [Nat.mul_comm (2 ^ k) n] at q1 q2
  rw [Nat.add_mul] at q3
  have hdm := Nat.div_add_mod' l (2 ^ b)
  have hml := Nat.mod_lt l hB
  have q4 : l % 2 ^ b * 2 ^ k < 2 ^ b * 2 ^ k := (Nat.mul_lt_mul_right hP).2 hml
  rw [Nat.mul_comm (2 ^ b) (2 ^ k), hT] at q4
  have q5 : l * 2 ^ k = l / 2 ^ b * 18446744073709551616 + l % 2 ^ b * 2 ^ k := by
    conv => lhs; rw [← hdm]
    rw [Nat.add_mul, Nat.mul_assoc, Nat.mul_comm (2 ^ b) (2 ^ k), hT]
  have q6 : l * 2 ^ k % 18446744073709551616 = l % 2 ^ b * 2 ^ k := by omega
  have q7 : l / 2 ^ b < 2 ^ k := Nat.div_lt_of_lt_mul (by rw [Nat.mul_comm, hT]; exact hl)
  refine ⟨?_, q7, by omega⟩
  have c1 : (n : Int) * ((2 ^ k : Nat) : Int) = ((n * 2 ^ k : Nat) : Int) := (Int.natCast_mul _ _).symm
  have c2 : wid (H : Int) (l : Int) * ((2 ^ k : Nat) : Int) = (((H * 18446744073709551616 + l) * 2 ^ k : Nat) : Int) := by
    unfold wid
    rw [Int.natCast_mul, Int.natCast_add, Int.natCast_mul]
    rfl
  have c3 : (H * 18446744073709551616 + l) * 2 ^ k = H * 2 ^ k * 18446744073709551616 + l * 2 ^ k := by
    rw [Nat.add_mul, Nat.mul_assoc, Nat.mul_comm 18446744073709551616, ← Nat.mul_assoc]
  refine ⟨by omega, by rw [c1]; omega, by rw [c1]; omega, by omega, by omega, by omega, ?_, ?_⟩
  · rw [c2, c3]
    omega
  · unfold wid
    omega

theorem mask32 (x : Int) (h0 : 0 ≤ x) (h1 : x ≤ 18446744073709551615) : bits .and .u64 x 4294967295 = x % 4294967296 := by
  obtain ⟨x, rfl⟩ := Int.eq_ofNat_of_zero_le h0
  exact (Mul64.maskN x (by omega)).trans (by omega)

theorem zeros_any (y : Int) (h0 : 1 ≤ y) (h1 : y ≤ 18446744073709551615) : ∃ k b : Nat, k + b = 64 ∧ 1 ≤ b ∧ 2 ^ (b - 1) ≤ y.toNat ∧ y.toNat < 2 ^ b ∧
    ∀ w : World, Calls Try.prog 39 #[.int .u64 y] w fun e w' => e = .returned (.int .i64 (k : Int)) ∧ w = w' := by
  have hn : y.toNat < 2 ^ 64 := by omega
  obtain ⟨a, b, c⟩ := Lib.bitLenAux_bounds 64 y.toNat hn (by omega)
  have d := Lib.bitLen_le y.toNat 64 (Nat.le_refl _) hn
  have e : Lib.bitLen y.toNat = Lib.bitLenAux 64 y.toNat := rfl
  refine ⟨64 - Lib.bitLen y.toNat, Lib.bitLen y.toNat, by omega, by rw [e]; exact a, by rw [e]; exact b, by rw [e]; exact c, fun w => ?_⟩
  refine (Try.bits_LeadingZeros64 y w (by omega) h1).mono fun e' w' ⟨he, hw⟩ => ⟨he.trans ?_, hw.symm⟩
  have : ((64 - Lib.bitLen y.toNat : Nat) : Int) = 64 - (Lib.bitLen y.toNat : Int) := by omega
  rw [this]

theorem div64_high (hi lo y : Int) (hh : Word hi) (hl : Word lo) (hy : Word y) (h1 : 1 ≤ hi) (h2 : hi < y) (w : World) :
    Calls Try.prog 29 #[.int .u64 hi, .int .u64 lo, .int .u64 y] w fun e w' => e = .returned (.tuple #[.int .u64 (wid hi lo / y), .int .u64 (wid hi lo % y)]) ∧ w = w' := by
  obtain ⟨hh0, hh1⟩ := hh
  obtain ⟨hl0, hl1⟩ := hl
  obtain ⟨hy0, hy1⟩ := hy
  obtain ⟨k, b, hkb, hb1, hp1, hp2, hz⟩ := zeros_any y (by omega) hy1
  obtain ⟨H, rfl⟩ := Int.eq_ofNat_of_zero_le hh0
  obtain ⟨l, rfl⟩ := Int.eq_ofNat_of_zero_le hl0
  obtain ⟨n, rfl⟩ := Int.eq_ofNat_of_zero_le hy0
  simp only [Int.toNat_natCast] at hp1 hp2
  obtain ⟨D, hlt, hHk⟩ := div_nums H l n k b (by omega) (by omega) hkb hb1 hp1 hp2
  have hpow : (2 : Int) ^ (k : Int).toNat = ((2 ^ k : Nat) : Int) := by simp
  have hpow2 : (2 : Int) ^ (64 - (k : Int)).toNat = ((2 ^ b : Nat) : Int) := by
    rw [show (64 - (k : Int)).toNat = b by omega]
    simp
  have hYw : IntKind.u64.wrap ((n : Int) * ((2 ^ k : Nat) : Int)) = (n : Int) * ((2 ^ k : Nat) : Int) := by
    rw [IntKind.wrap_u64]
    have := D.hY1
    have := D.hY0
    omega
  have hor : bits .or .u64 (IntKind.u64.wrap ((H : Int) * ((2 ^ k : Nat) : Int))) ((l : Int) / ((2 ^ b : Nat) : Int)) = ((H * 2 ^ k + l / 2 ^ b : Nat) : Int) := by
    have e1 : IntKind.u64.wrap ((H : Int) * ((2 ^ k : Nat) : Int)) = ((H * 2 ^ k : Nat) : Int) := by
      rw [← Int.natCast_mul, IntKind.wrap_u64]
      omega
    have e2 : (l : Int) / ((2 ^ b : Nat) : Int) = ((l / 2 ^ b : Nat) : Int) := rfl
    have hd := Nat.div_le_self l (2 ^ b)
    rw [e1, e2, bits_or_u64_nat _ _ hHk (by omega)]
    have := Nat.two_pow_add_eq_or_of_lt hlt H
    rw [Nat.mul_comm H (2 ^ k), this]
  have hL : IntKind.u64.wrap ((l : Int) * ((2 ^ k : Nat) : Int)) = ((l * 2 ^ k % 18446744073709551616 : Nat) : Int) := by
    rw [← Int.natCast_mul, IntKind.wrap_u64]
    rfl
  generalize ((2 ^ k : Nat) : Int) = P at *
  generalize ((H * 2 ^ k + l / 2 ^ b : Nat) : Int) = u at *
  generalize ((l * 2 ^ k % 18446744073709551616 : Nat) : Int) = L at *
  have yy := D.yy
  have F := D.fin rfl rfl rfl
  have p1 := D.pre1
  have p2 := D.pre2
  have R1 := rest_wrap (u1 := L / 4294967296) (by have := D.hY0; omega) D.hY1 (rfl : (u * 4294967296 + L / 4294967296) / (↑n * P) = _)
  have R0 := rest_wrap (u := (u * 4294967296 + L / 4294967296) % (↑n * P)) (u1 := L % 4294967296) (by have := D.hY0; omega) D.hY1 (rfl : _ = _)
  have m1 := mask32 ((n : Int) * P) (by have := D.hY0; omega) D.hY1
  have m2 := mask32 L D.hL0 D.hL1
  have c1 := dig_nonneg p1
  have c2 := dig_lt p1
  have c3 := dig_nonneg p2
  have c4 := dig_lt p2
  rw [yy] at c1 c2 c3 c4
  have e1 : IntKind.u64.wrap ((n : Int) * 2 ^ (k : Int).toNat) = (n : Int) * P := by rw [hpow]; exact hYw
  have e4 : bits .or .u64 (IntKind.u64.wrap ((H : Int) * 2 ^ (k : Int).toNat)) ((l : Int) / 2 ^ (64 - (k : Int)).toNat) = u := by rw [hpow, hpow2]; exact hor
  have e5 : IntKind.u64.wrap ((l : Int) * 2 ^ (k : Int).toNat) = L := by rw [hpow]; exact hL
  have F2 : ((u * 4294967296 + L / 4294967296) % ((n : Int) * P) * 4294967296 + L % 4294967296) % ((n : Int) * P) / 2 ^ (k : Int).toNat = wid H l % n := by rw [hpow]; exact F.2
  have F1 := F.1
  have q1 : (u * 4294967296 + L / 4294967296) / ((n : Int) * P / 4294967296 * 4294967296 + (n : Int) * P % 4294967296) = (u * 4294967296 + L / 4294967296) / ((n : Int) * P) := by rw [yy]
  have q0 : ((u * 4294967296 + L / 4294967296) % ((n : Int) * P) * 4294967296 + L % 4294967296) / ((n : Int) * P / 4294967296 * 4294967296 + (n : Int) * P % 4294967296) = ((u * 4294967296 + L / 4294967296) % ((n : Int) * P) * 4294967296 + L % 4294967296) / ((n : Int) * P) := by rw [yy]
  simp only [← IntKind.wrap_u64] at R1 R0
  clear hpow hpow2 hor hL hYw F yy
  exact div64_core H l n k ((n : Int) * P) ((n : Int) * P % 4294967296) ((n : Int) * P / 4294967296) u L (L / 4294967296) (L % 4294967296)
    ((u * 4294967296 + L / 4294967296) / (↑n * P)) ((u * 4294967296 + L / 4294967296) % (↑n * P)) (((u * 4294967296 + L / 4294967296) % (↑n * P) * 4294967296 + L % 4294967296) / (↑n * P))
    (wid H l / n) _ (wid H l % n) hh1 hl0 hl1 h1 h2 hy1 (by omega) (by omega) p1 p2 e1 m1 rfl e4 e5 rfl m2 q1 R1 c1 c2 c3 c4 F1 R0 F2 q0 w (hz w)

theorem div64_low (lo y : Int) (hl : Word lo) (hy : Word y) (h2 : 0 < y) (w : World) :
    Calls Try.prog 29 #[.int .u64 0, .int .u64 lo, .int .u64 y] w fun e w' => e = .returned (.tuple #[.int .u64 (lo / y), .int .u64 (lo % y)]) ∧ ∃ n, w.drewN n = w' := by
  obtain ⟨hl0, hl1⟩ := hl
  obtain ⟨hy0, hy1⟩ := hy
  have d0 : 0 ≤ lo / y := Int.ediv_nonneg hl0 (by omega)
  have d1 : lo / y ≤ lo := Int.ediv_le_self _ hl0
  have m0 := Int.emod_nonneg lo (show y ≠ 0 by omega)
  have m1 := Int.emod_lt_of_pos lo h2
  have t1 : (y == 0) = false := by simp; omega
  have t2 : ¬ y = 0 := by omega
  go_enter Try.func29, Try.ntmps29
  go_wp2
  go_quiet (fail)
  go_wp2
  go_ret2
  exact ⟨rfl, _, rfl⟩

theorem below_drewN {B : Nat} {a w : World} (h : Below B a w) (n : Nat) : Below B a (w.drewN n) := ⟨h.os, h.tape, h.output, h.size, h.block⟩

theorem div64_any (hi lo y : Int) (hh : Word hi) (hl : Word lo) (hy : Word y) (h : hi < y) (w : World) :
    Calls Try.prog 29 #[.int .u64 hi, .int .u64 lo, .int .u64 y] w fun e w' => e = .returned (.tuple #[.int .u64 (wid hi lo / y), .int .u64 (wid hi lo % y)]) ∧ Below w.heap.size w w' := by
  by_cases h0 : hi = 0
  · subst h0
    have e : wid 0 lo = lo := by unfold wid; omega
    rw [e]
    refine (div64_low lo y hl hy h w).mono fun e w' ⟨he, n, hw⟩ => ⟨he, ?_⟩
    rw [← hw]
    exact below_drewN (Below.refl _ _) n
  · refine (div64_high hi lo y hh hl hy (by have := hh.1; omega) h w).mono fun e w' ⟨he, hw⟩ => ⟨he, ?_⟩
    rw [← hw]
    exact Below.refl _ _
end Go.Proofs.Ythmniplbckhgaaa
