/-
  The walks of the statements FixqWhole and FixqNear: the Go text of each returns true at every input.
-/
import Derived.Test.YthmniplbckhgaaaFixParts
namespace Go.Proofs.Ythmniplbckhgaaa
open Go.RowKit Go.Shelf

set_option maxHeartbeats 800000 in
theorem awake_any (w : World) : Calls Try.prog 8 #[] w fun e w' => e = .returned (.bool true) ∧ Below w.heap.size w w' := by
  have e1 : divV (9223372036854775808 * 6) 4 = 13835058055282163712 := by simp [divV, satV]
  have e2 : divE (9223372036854775808 * 6) 4 = 0 := by simp [divE, satE]
  have e3 : satV (9223372036854775808 + 9223372036854775808) = 18446744073709551615 := by simp [satV]
  have e4 : satE (9223372036854775808 + 9223372036854775808) = 2 := by simp [satE]
  have e5 : nearB 5 1 11 2 1 = true := by simp [nearB, dist]
  have M := muldiv_any 9223372036854775808 6 4 (by unfold Word; omega) (by unfold Word; omega) (by unfold Word; omega)
  have A := add_any 9223372036854775808 9223372036854775808 (by unfold Word; omega) (by unfold Word; omega)
  have N := near_any 5 1 11 2 1 (by unfold Word; omega) (by unfold Word; omega) (by unfold Word; omega) (by unfold Word; omega) (by unfold Word; omega)
  rw [e1, e2] at M
  rw [e3, e4] at A
  rw [e5] at N
  have HM := Lib.hid M
  have HA := Lib.hid A
  have HN := Lib.hid N
  clear e1 e2 e3 e4 e5 M A N
  go_enter Try.func8, Try.ntmps8
  go_wp2_with (first | (go_at_call 15; refine (HM.out _).mono ?_; rintro e w1 ⟨rfl, hb1⟩) | (go_at_call 9; refine (HA.out _).mono ?_; rintro e w2 ⟨rfl, rfl⟩) | (go_at_call 21; refine (HN.out _).mono ?_; rintro e w3 ⟨rfl, hb3⟩))
  go_ret
  exact ⟨rfl, hb1.trans (hb3.mono hb1.size)⟩

theorem mul_fit (a b : Int) (ha : Word a) (hb : Word b) (h : a * b ≤ 18446744073709551615) (w : World) :
    Calls Try.prog 13 #[.int .u64 a, .int .u64 b] w fun e w' => e = .returned (.tuple #[.int .u64 (a * b), .int .i64 0]) ∧ Below w.heap.size w w' := by
  have M := mul_any a b ha hb w
  rw [satV_fit h, satE_fit h] at M
  exact M
theorem add_fit (a b : Int) (ha : Word a) (hb : Word b) (h : a + b ≤ 18446744073709551615) (w : World) :
    Calls Try.prog 9 #[.int .u64 a, .int .u64 b] w fun e w' => e = .returned (.tuple #[.int .u64 (a + b), .int .i64 0]) ∧ w = w' := by
  have M := add_any a b ha hb w
  rw [satV_fit h, satE_fit h] at M
  exact M

set_option maxHeartbeats 800000 in
theorem whole_walk (a b c : Int) (ha : Word a) (hb : Word b) (hc : Word c) (w : World) :
    Calls Try.prog 6 #[.int .u64 a, .int .u64 b, .int .u64 c] w fun e w' => e = .returned (.bool true) ∧ Below w.heap.size w w' := by
  have h0 := (mul_bd ha hb).1
  by_cases h : a * b ≤ 18446744073709551615
  · by_cases hz : c = 0
    · subst hz
      have HM := Lib.hid (mul_fit a b ha hb h)
      clear h h0
      go_enter Try.func6, Try.ntmps6
      go_wp2_with (first | (go_at_call 8; refine (awake_any _).mono ?_; rintro e w1 ⟨rfl, hb1⟩) | (go_at_call 13; refine (HM.out _).mono ?_; rintro e w2 ⟨rfl, hb2⟩))
      go_ret
      exact ⟨rfl, hb1.trans (hb2.mono hb1.size)⟩
    · have hp : 0 < c := by have := hc.1; omega
      have t1 : (c == 0) = false := by simpa using hz
      have q0 : 0 ≤ a * b / c := Int.ediv_nonneg h0 (by omega)
      have q1 : a * b / c ≤ a * b := Int.ediv_le_self _ h0
      have m0 := Int.emod_nonneg (a * b) hz
      have m1 := Int.emod_lt_of_pos (a * b) hp
      have hd := Int.mul_ediv_add_emod (a * b) c
      rw [Int.mul_comm c] at hd
      have D := muldiv_any a b c ha hb hc
      rw [show divV (a * b) c = satV (a * b / c) from if_neg hz, show divE (a * b) c = satE (a * b / c) from if_neg hz, satV_fit (by omega), satE_fit (by omega)] at D
      have R := mulmod_any a b c ha hb hc
      rw [show modV (a * b) c = a * b % c from if_neg hz, show modE c = 0 from if_neg hz] at R
      have qc0 : 0 ≤ a * b / c * c := Int.mul_nonneg q0 hc.1
      have HM := Lib.hid (mul_fit a b ha hb h)
      have HM2 := Lib.hid (mul_fit (a * b / c) c ⟨q0, by omega⟩ hc (by omega))
      have HA := Lib.hid (add_fit (a * b / c * c) (a * b % c) ⟨qc0, by omega⟩ ⟨m0, by have := hc.2; omega⟩ (by omega))
      rw [hd] at HA
      have HD := Lib.hid D
      have HR := Lib.hid R
      clear D R hd q0 q1 m0 m1 h h0 qc0
      go_enter Try.func6, Try.ntmps6
      go_wp2_with (first | (go_at_call 8; refine (awake_any _).mono ?_; rintro e w1 ⟨rfl, hb1⟩) | fail)
      go_wp2_with fail
      refine (HM.out _).mono ?_
      rintro e w2 ⟨rfl, hb2⟩
      go_wp2_with fail
      refine (HD.out _).mono ?_
      rintro e w3 ⟨rfl, hb3⟩
      go_wp2_with fail
      refine (HR.out _).mono ?_
      rintro e w4 ⟨rfl, hb4⟩
      go_wp2_with fail
      refine (HM2.out _).mono ?_
      rintro e w5 ⟨rfl, hb5⟩
      go_wp2_with fail
      refine (HA.out _).mono ?_
      rintro e w6 ⟨rfl, rfl⟩
      go_wp2
      go_ret
      have z1 := hb1.size
      have z2 := hb2.size
      have z3 := hb3.size
      have z4 := hb4.size
      exact ⟨rfl, (((hb1.trans (hb2.mono (by omega))).trans (hb3.mono (by omega))).trans (hb4.mono (by omega))).trans (hb5.mono (by omega))⟩
  · have M := mul_any a b ha hb
    rw [satV_big h, satE_big h] at M
    have HM := Lib.hid M
    clear M h h0
    go_enter Try.func6, Try.ntmps6
    go_wp2_with (first | (go_at_call 8; refine (awake_any _).mono ?_; rintro e w1 ⟨rfl, hb1⟩) | (go_at_call 13; refine (HM.out _).mono ?_; rintro e w2 ⟨rfl, hb2⟩))
    go_ret
    exact ⟨rfl, hb1.trans (hb2.mono hb1.size)⟩
end Go.Proofs.Ythmniplbckhgaaa
