/-
  What MulDiv and MulMod of package fixq answer, at every argument.
-/
import Derived.Test.YthmniplbckhgaaaFixDivAny
import Derived.Test.YthmniplbckhgaaaFixEasy
namespace Go.Proofs.Ythmniplbckhgaaa
open Go.RowKit Go.Shelf

theorem rem_high (hi lo y : Int) : wid (hi % y) lo % y = wid hi lo % y := by
  have h := Int.mul_ediv_add_emod hi y
  have e : wid hi lo = wid (hi % y) lo + y * (hi / y * 18446744073709551616) := by
    unfold wid
    conv => lhs; rw [← h]
    rw [Int.add_mul, Int.mul_assoc]
    omega
  rw [e, Int.add_mul_emod_self_left]

set_option maxHeartbeats 400000 in
theorem rem64_any (hi lo y : Int) (hh : Word hi) (hl : Word lo) (hy : Word y) (h : 0 < y) (w : World) :
    Calls Try.prog 31 #[.int .u64 hi, .int .u64 lo, .int .u64 y] w fun e w' => e = .returned (.int .u64 (wid hi lo % y)) ∧ Below w.heap.size w w' := by
  rw [← rem_high hi lo y]
  have m0 := Int.emod_nonneg hi (show y ≠ 0 by omega)
  have m1 := Int.emod_lt_of_pos hi h
  have wm : Word (hi % y) := ⟨m0, by have := hy.2; omega⟩
  obtain ⟨hh0, hh1⟩ := hh
  have t2 : ¬ y = 0 := by omega
  go_enter Try.func31, Try.ntmps31
  go_wp2_with (go_at_call 29; refine (div64_any _ _ _ wm hl hy m1 _).mono ?_; rintro e w1 ⟨rfl, hb1⟩)
  go_ret
  exact ⟨rfl, hb1⟩

theorem div_over {x c : Int} (hc : 0 < c) (h : c ≤ hiW x) : ¬ x / c ≤ 18446744073709551615 := by
  unfold hiW at h
  have : 18446744073709551616 ≤ x / c := Int.le_ediv_of_mul_le hc (by omega)
  omega
theorem div_fits {x c : Int} (hc : 0 < c) (h : hiW x < c) : x / c ≤ 18446744073709551615 := by
  unfold hiW at h
  have : x / c < 18446744073709551616 := Int.ediv_lt_of_lt_mul hc (by omega)
  omega

set_option maxHeartbeats 400000 in
theorem muldiv_any (a b c : Int) (ha : Word a) (hb : Word b) (hc : Word c) (w : World) :
    Calls Try.prog 15 #[.int .u64 a, .int .u64 b, .int .u64 c] w fun e w' => e = .returned (.tuple #[.int .u64 (divV (a * b) c), .int .i64 (divE (a * b) c)]) ∧ Below w.heap.size w w' := by
  by_cases h0 : c = 0
  · subst h0
    rw [show divV (a * b) 0 = 0 from if_pos rfl, show divE (a * b) 0 = 1 from if_pos rfl]
    go_enter Try.func15, Try.ntmps15
    go_wp2
    go_ret2
    exact ⟨rfl, Below.refl _ _⟩
  · have hp : 0 < c := by have := hc.1; omega
    have t1 : (c == 0) = false := by simpa using h0
    rw [show divV (a * b) c = satV (a * b / c) from if_neg h0, show divE (a * b) c = satE (a * b / c) from if_neg h0]
    by_cases h1 : c ≤ hiW (a * b)
    · rw [satV_big (div_over hp h1), satE_big (div_over hp h1)]
      go_enter Try.func15, Try.ntmps15
      go_wp2_with (go_at_call 27; refine (product_any _ _ ha hb _).mono ?_; rintro e w1 ⟨rfl, rfl⟩)
      go_ret2
      exact ⟨rfl, by repeat (first | exact Below.refl _ _ | refine Below.alloc ?_ (by simp <;> omega) _)⟩
    · rw [satV_fit (div_fits hp (by omega)), satE_fit (div_fits hp (by omega))]
      have D := div64_any (hiW (a * b)) (loW (a * b)) c (hiW_word ha hb) (loW_word _) hc (by omega)
      rw [wid_hl] at D
      have D' := Lib.hid D
      clear D
      go_enter Try.func15, Try.ntmps15
      go_wp2_with (first | (go_at_call 27; refine (product_any _ _ ha hb _).mono ?_; rintro e w1 ⟨rfl, rfl⟩) | (go_at_call 29; refine (D'.out _).mono ?_; rintro e w2 ⟨rfl, hb2⟩))
      go_ret2
      refine ⟨rfl, Below.trans ?_ (hb2.mono (by simp; omega))⟩
      repeat (first | exact Below.refl _ _ | refine Below.alloc ?_ (by simp <;> omega) _)

set_option maxHeartbeats 400000 in
theorem mulmod_any (a b c : Int) (ha : Word a) (hb : Word b) (hc : Word c) (w : World) :
    Calls Try.prog 17 #[.int .u64 a, .int .u64 b, .int .u64 c] w fun e w' => e = .returned (.tuple #[.int .u64 (modV (a * b) c), .int .i64 (modE c)]) ∧ Below w.heap.size w w' := by
  by_cases h0 : c = 0
  · subst h0
    rw [show modV (a * b) 0 = 0 from if_pos rfl, show modE 0 = 1 from if_pos rfl]
    go_enter Try.func17, Try.ntmps17
    go_wp2
    go_ret2
    exact ⟨rfl, Below.refl _ _⟩
  · have hp : 0 < c := by have := hc.1; omega
    have t1 : (c == 0) = false := by simpa using h0
    rw [show modV (a * b) c = a * b % c from if_neg h0, show modE c = 0 from if_neg h0]
    have D := rem64_any (hiW (a * b)) (loW (a * b)) c (hiW_word ha hb) (loW_word _) hc (by omega)
    rw [wid_hl] at D
    have D' := Lib.hid D
    clear D
    go_enter Try.func17, Try.ntmps17
    go_wp2_with (first | (go_at_call 27; refine (product_any _ _ ha hb _).mono ?_; rintro e w1 ⟨rfl, rfl⟩) | (go_at_call 31; refine (D'.out _).mono ?_; rintro e w2 ⟨rfl, hb2⟩))
    go_ret2
    refine ⟨rfl, Below.trans ?_ (hb2.mono (by simp; omega))⟩
    repeat (first | exact Below.refl _ _ | refine Below.alloc ?_ (by simp <;> omega) _)
end Go.Proofs.Ythmniplbckhgaaa
