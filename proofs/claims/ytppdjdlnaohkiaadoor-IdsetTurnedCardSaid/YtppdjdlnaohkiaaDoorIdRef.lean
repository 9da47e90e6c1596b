/-
  The document's sets: Has, With, Without.
-/
import Derived.Test.YtppdjdlnaohkiaaDoorChecked
import Derived.Test.YtppdjdlnaohkiaaDoorIdMath
import Derived.Lib.Hide
import Derived.Deep.QuietTactic
import Derived.BigQuiet
namespace Go.Proofs.YtppdjdlnaohkiaaDoor
open Go.RowKit

theorem bit_shr (x k : Nat) : ((x : Int) / 2 ^ k).tmod 2 = ((x / 2 ^ k % 2 : Nat) : Int) := by
  have e : ((x : Int) / 2 ^ k) = ((x / 2 ^ k : Nat) : Int) := by push_cast; rfl
  rw [e]
  rfl
theorem bit_eq (x k : Nat) : (((x : Int) / 2 ^ k).tmod 2 == 1) = x.testBit k := by
  rw [bit_shr, Nat.testBit_eq_decide_div_mod_eq]
  by_cases h : x / 2 ^ k % 2 = 1
  · rw [h]; rfl
  · rw [decide_eq_false h, beq_eq_false_iff_ne]
    omega
theorem pow_u64 {u : Nat} (hu : u < 64) : IntKind.u64.wrap ((2 : Int) ^ u) = ((2 ^ u : Nat) : Int) := by
  have e : ((2 : Int) ^ u) = ((2 ^ u : Nat) : Int) := by push_cast; rfl
  have h2 : 2 ^ u < 18446744073709551616 := Nat.lt_of_lt_of_le (Nat.pow_lt_pow_right (by decide) hu) (by decide)
  rw [e]
  generalize 2 ^ u = p at h2
  rw [IntKind.wrap_u64]
  omega

set_option maxHeartbeats 400000 in
theorem rhasS_same (s : Nat) (i : Int) (w : World) : Calls Tryd.prog 10 #[.int .u64 s, .int .i64 i] w fun e w' => e = .returned (.bool (hasN s i)) ∧ w' = w := by
  by_cases h0 : 0 ≤ i
  · obtain ⟨u, rfl⟩ := Int.eq_ofNat_of_zero_le h0
    by_cases h1 : u < 64
    · have hb := bit_eq s u
      have hv : hasN s (u : Int) = s.testBit u := by
        simp [hasN, okI]
        intro _
        omega
      rw [hv]
      obtain ⟨t, ht⟩ : ∃ t, s.testBit u = t := ⟨_, rfl⟩
      rw [ht] at hb ⊢
      have d0 : decide ((0 : Int) ≤ (u : Int)) = true := by simp
      have d1 : decide ((u : Int) < 64) = true := by simp; omega
      have d2 : (u : Int) < 64 := by omega
      clear hv ht
      go_enter Tryd.func10, Tryd.ntmps10
      go_wp2
      first | go_ret | (go_big_quiet (fail); go_wp2; go_ret)
      exact ⟨rfl, rfl⟩
    · have hv : hasN s (u : Int) = false := by
        simp [hasN, okI]
        intro h
        omega
      rw [hv]
      have d0 : decide ((0 : Int) ≤ (u : Int)) = true := by simp
      have d1 : decide ((u : Int) < 64) = false := by simp; omega
      have d2 : ¬ (u : Int) < 64 := by omega
      clear hv
      go_enter Tryd.func10, Tryd.ntmps10
      go_wp2
      first | go_ret | (go_big_quiet (fail); go_wp2; go_ret)
      exact ⟨rfl, rfl⟩
  · have hv : hasN s i = false := by simp [hasN, okI, h0]
    rw [hv]
    have d0 : decide ((0 : Int) ≤ i) = false := by simp; omega
    clear hv
    go_enter Tryd.func10, Tryd.ntmps10
    go_wp2
    first | go_ret | (go_big_quiet (fail); go_wp2; go_ret)
    exact ⟨rfl, rfl⟩

theorem okI_of {i : Int} (h0 : ¬ i < 0) (h1 : ¬ 63 < i) : okI i = true := by simp [okI]; omega
set_option maxHeartbeats 400000 in
theorem rwith_same (s : Nat) (i : Int) (w : World) (hs : s < 18446744073709551616) : Calls Tryd.prog 12 #[.int .u64 s, .int .i64 i] w fun e w' => e = .returned (.int .u64 (withN s i : Int)) ∧ w' = w := by
  by_cases h0 : i < 0
  · rw [show withN s i = s by simp [withN, okI]; omega]
    have d0 : decide (i < 0) = true := by simpa using h0
    go_enter Tryd.func12, Tryd.ntmps12
    go_wp2
    go_ret
    exact ⟨rfl, rfl⟩
  · by_cases h1 : 63 < i
    · rw [show withN s i = s by simp [withN, okI]; omega]
      have d0 : decide (i < 0) = false := by simpa using h0
      have d1 : decide (63 < i) = true := by simpa using h1
      go_enter Tryd.func12, Tryd.ntmps12
      go_wp2
      go_ret
      exact ⟨rfl, rfl⟩
    · have hok := okI_of h0 h1
      obtain ⟨u, rfl⟩ := Int.eq_ofNat_of_zero_le (show 0 ≤ i by omega)
      have hu : u < 64 := by omega
      have d0 : decide ((u : Int) < 0) = false := by simp
      have d1 : decide ((63 : Int) < (u : Int)) = false := by simp; omega
      have HH := Lib.hid (fun W => rhasS_same s (u : Int) W)
      by_cases hb : s.testBit u = true
      · rw [show hasN s (u : Int) = true by simp [hasN, hok, hb]] at HH
        rw [show withN s (u : Int) = s by
          refine Nat.eq_of_testBit_eq fun k => ?_
          rw [bit_with, hok, Bool.true_and]
          by_cases e : u = k
          · subst e; simp [hb]
          · simp [e]]
        clear hok hb
        go_enter Tryd.func12, Tryd.ntmps12
        go_wp2_with fail
        with_reducible refine (HH.out _).mono ?_
        rintro e w1 ⟨rfl, rfl⟩
        go_wp2
        go_ret
        exact ⟨rfl, rfl⟩
      · have hb' : s.testBit u = false := by simpa using hb
        rw [show hasN s (u : Int) = false by simp [hasN, hb']] at HH
        have ha := add_bit_or hb'
        have hl := withN_lt (i := (u : Int)) hs
        have hv : withN s (u : Int) = s + 2 ^ u := by rw [ha]; simp [withN, hok]
        rw [hv] at hl ⊢
        have hp := pow_u64 hu
        obtain ⟨p, hpp⟩ : ∃ p, 2 ^ u = p := ⟨_, rfl⟩
        rw [hpp] at hp hl ⊢
        have hw : IntKind.u64.wrap ((s : Int) + (p : Int)) = ((s + p : Nat) : Int) := by rw [IntKind.wrap_u64]; omega
        obtain ⟨z, hz⟩ : ∃ z, s + p = z := ⟨_, rfl⟩
        rw [hz] at hw ⊢
        have u0 : (0 : Int) ≤ u := by omega
        clear hok hb hb' ha hl hv hpp hz
        go_enter Tryd.func12, Tryd.ntmps12
        go_wp2_with fail
        with_reducible refine (HH.out _).mono ?_
        rintro e w1 ⟨rfl, rfl⟩
        go_wp2
        go_ret
        exact ⟨rfl, rfl⟩
set_option maxHeartbeats 400000 in
theorem rwithout_same (s : Nat) (i : Int) (w : World) (hs : s < 18446744073709551616) : Calls Tryd.prog 14 #[.int .u64 s, .int .i64 i] w fun e w' => e = .returned (.int .u64 (withoutN s i : Int)) ∧ w' = w := by
  have HH := Lib.hid (fun W => rhasS_same s i W)
  by_cases hb : hasN s i = true
  · rw [hb] at HH
    simp only [hasN, Bool.and_eq_true] at hb
    obtain ⟨hok, hbit⟩ := hb
    simp [okI] at hok
    obtain ⟨u, rfl⟩ := Int.eq_ofNat_of_zero_le hok.1
    have hu : u < 64 := by omega
    simp only [Int.toNat_natCast] at hbit
    obtain ⟨h1, h2⟩ := sub_bit_xor hbit
    have hv : withoutN s (u : Int) = s - 2 ^ u := by
      rw [h1]
      simp [withoutN, hasN, okI, hbit]
      intro h
      omega
    rw [hv]
    have hp := pow_u64 hu
    obtain ⟨p, hpp⟩ : ∃ p, 2 ^ u = p := ⟨_, rfl⟩
    rw [hpp] at hp h2 ⊢
    have hw : IntKind.u64.wrap ((s : Int) - (p : Int)) = ((s - p : Nat) : Int) := by rw [IntKind.wrap_u64]; omega
    obtain ⟨z, hz⟩ : ∃ z, s - p = z := ⟨_, rfl⟩
    rw [hz] at hw ⊢
    have u0 : (0 : Int) ≤ u := by omega
    clear hok hbit h1 h2 hv hpp hz
    go_enter Tryd.func14, Tryd.ntmps14
    go_wp2_with fail
    with_reducible refine (HH.out _).mono ?_
    rintro e w1 ⟨rfl, rfl⟩
    go_wp2
    go_ret
    exact ⟨rfl, rfl⟩
  · have hb' : hasN s i = false := by simpa using hb
    rw [hb'] at HH
    rw [show withoutN s i = s by simp [withoutN, hb']]
    clear hb hb'
    go_enter Tryd.func14, Tryd.ntmps14
    go_wp2_with fail
    with_reducible refine (HH.out _).mono ?_
    rintro e w1 ⟨rfl, rfl⟩
    go_wp2
    go_ret
    exact ⟨rfl, rfl⟩
theorem rhasS_any (s : Nat) (i : Int) (w : World) : Calls Tryd.prog 10 #[.int .u64 s, .int .i64 i] w fun e w' => e = .returned (.bool (hasN s i)) ∧ ∃ n, w' = w.drewN n := (rhasS_same s i w).mono fun _ _ ⟨h, e⟩ => ⟨h, 0, e⟩
theorem rwith_any (s : Nat) (i : Int) (w : World) (hs : s < 18446744073709551616) : Calls Tryd.prog 12 #[.int .u64 s, .int .i64 i] w fun e w' => e = .returned (.int .u64 (withN s i : Int)) ∧ ∃ n, w' = w.drewN n := (rwith_same s i w hs).mono fun _ _ ⟨h, e⟩ => ⟨h, 0, e⟩
theorem rwithout_any (s : Nat) (i : Int) (w : World) (hs : s < 18446744073709551616) : Calls Tryd.prog 14 #[.int .u64 s, .int .i64 i] w fun e w' => e = .returned (.int .u64 (withoutN s i : Int)) ∧ ∃ n, w' = w.drewN n := (rwithout_same s i w hs).mono fun _ _ ⟨h, e⟩ => ⟨h, 0, e⟩
end Go.Proofs.YtppdjdlnaohkiaaDoor
